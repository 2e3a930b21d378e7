/- StyleNormal (P0704, P0711): the walk. -/
import Derived.Test.YtkamjlpnenldbaaGreatDoorGP
namespace Go.Proofs.YtkamjlpnenldbaaGreatDoor
open Go.RowKit Go.Shelf
attribute [local go_sem] Oper.semAt_some

theorem nor_ok {s u : ByteArray} {D E : List Sp} (h : norM s D = (0, u, E)) : chkT s D = 0 ∧ u = s ∧ madM s (alls D (signs s).length) = (0, s, E) ∧ chkT s E = 0 ∧ alls E (signs s).length = alls D (signs s).length ∧ norM s E = (0, s, E) := by
  have h0 := h
  unfold norM at h
  by_cases c : chkT s D ≠ 0
  · rw [if_pos c] at h
    exact absurd (Prod.mk.inj h).1 c
  · have c : chkT s D = 0 := by simpa using c
    rw [nor_mad c] at h0
    obtain ⟨k1, k2, k3, k4⟩ := mad_ok (alls_len _ _) (chkT_ok c).1 (alls_col c _) h0
    subst k1
    exact ⟨c, rfl, h0, k2, k3, k4⟩
theorem nor_err {s u : ByteArray} {D E : List Sp} {er : Int} (h : norM s D = (er, u, E)) (he : er ≠ 0) : chkT s D = er ∨ (chkT s D = 0 ∧ er = 2) := by
  have h0 := h
  unfold norM at h
  by_cases c : chkT s D ≠ 0
  · rw [if_pos c] at h
    exact .inl (Prod.mk.inj h).1
  · have c : chkT s D = 0 := by simpa using c
    rw [nor_mad c] at h0
    rcases mad_err s (alls D (signs s).length) with k | k
    · rw [h0] at k
      exact absurd k he
    · rw [k] at h0
      exact .inr ⟨c, (Prod.mk.inj h0).1.symm⟩
theorem set_err {s u : ByteArray} {D E : List Sp} {x : Sp} {er : Int} (h : setM s D x = (er, u, E)) (he : er ≠ 0) : u = ByteArray.empty ∧ E = [] := by
  have h0 := h
  unfold setM at h
  by_cases c : chkT s D ≠ 0
  · rw [if_pos c] at h
    obtain ⟨h1, h2⟩ := Prod.mk.inj (Prod.mk.inj h).2
    exact ⟨h1.symm, h2.symm⟩
  · rw [if_neg c] at h
    have c : chkT s D = 0 := by simpa using c
    by_cases f : fitB x (signs s).length = false
    · rw [if_pos f] at h
      obtain ⟨h1, h2⟩ := Prod.mk.inj (Prod.mk.inj h).2
      exact ⟨h1.symm, h2.symm⟩
    · have f : fitB x (signs s).length = true := by simpa using f
      rw [set_mad c f] at h0
      rcases mad_err s (setL D x (signs s).length) with k | k
      · rw [h0] at k
        exact absurd k he
      · rw [k] at h0
        obtain ⟨h1, h2⟩ := Prod.mk.inj (Prod.mk.inj h0).2
        exact ⟨h1.symm, h2.symm⟩
/-- A text, its normal form, and what Set makes of it: alike just where the same. -/
theorem set_same {s : ByteArray} {D E F : List Sp} {x : Sp} (hE : norM s D = (0, s, E)) (hF : setM s D x = (0, s, F)) : samB s F s D = decide (F = E) := by
  obtain ⟨c, _, m1, _, _, _⟩ := nor_ok hE
  obtain ⟨c2, f, _⟩ := set_ok hF
  obtain ⟨k1, k2, _, _⟩ := set_two c f hF
  unfold samB
  rw [decide_eq_decide]
  constructor
  · rintro ⟨_, _, _, h⟩
    rw [k2] at h
    rw [set_mad c f, h, m1] at hF
    exact ((Prod.mk.inj (Prod.mk.inj hF).2).2).symm
  · rintro rfl
    exact ⟨k1, c, rfl, (nor_ok hE).2.2.2.2.1⟩
theorem sam_nor {s : ByteArray} {D E : List Sp} (hE : norM s D = (0, s, E)) : samB s E s D = true := by
  obtain ⟨c, _, m1, k1, k2, _⟩ := nor_ok hE
  exact decide_eq_true ⟨k1, c, rfl, k2⟩
theorem lookR_any (s : ByteArray) (D : List Sp) (oa : Option Addr) (ca : Nat) (hs : s.size ≤ 140737488355328) (hca : D.length ≤ ca ∧ ca ≤ maxLen) (hna : oa = none → D = [] ∧ ca = 0) (w : World) (hRa : SpO w oa D) :
    Calls Tryz.prog 11 #[.agg #[.string s, .slice oa D.length ca]] w fun e w' => ∃ o c, e = .returned (.slice o (goA s D).length c) ∧ AtO w' o (goA s D) ∧ Below w.heap.size w w' := by
  refine (looks7_any s D oa ca hs hca hna w hRa).mono ?_
  rintro e w1 ⟨v, B, rfl, hB, own, b⟩
  obtain ⟨o, c, rfl, hc, hA⟩ := at_of_own own
  exact ⟨o, c, rfl, hA, b⟩
set_option maxRecDepth 100000 in
set_option maxHeartbeats 8000000 in
theorem snormal_walk (s : ByteArray) (D : List Sp) (oa : Option Addr) (ca : Nat) (x : Sp) (hs : s.size ≤ 140737488355328) (hca : D.length ≤ ca ∧ ca ≤ maxLen) (hna : oa = none → D = [] ∧ ca = 0) (w : World) (hw : 2 ≤ w.heap.size) (hT : Lib.Utf8Tabs 0 1 w) (hRa : SpO w oa D) :
    Calls Tryz.prog 3 #[.agg #[.string s, .slice oa D.length ca], x.val] w fun e w' => e = .returned (.bool true) ∧ Below w.heap.size w w' := by
  have HNr := hideS (fun (W : World) (h : Below w.heap.size w W) => norm_any s D oa ca hs hca hna W (hRa.keep h))
  have HSt := hideS (fun (W : World) (h : Below w.heap.size w W) => set_any s D x oa ca hs hca hna W (hRa.keep h))
  have HCk := hideS (fun (W : World) (h : Below w.heap.size w W) => check7_any s D oa ca hs hca hna W (hRa.keep h))
  have HRn := hideS (fun (W : World) (h : Below w.heap.size w W) => runs_any s D oa ca hs hca hna W (hRa.keep h))
  have HLt := hideS (fun (W : World) (h : Below w.heap.size w W) => lookR_any s D oa ca hs hca hna W (hRa.keep h))
  have HSm := hideS (fun (E : List Sp) (o : Option Addr) (c : Nat) (hc : E.length ≤ c ∧ c ≤ maxLen) (hn : o = none → E = [] ∧ c = 0) (W : World) (h : Below w.heap.size w W) (hR : SpO W o E) => same7_any s s E D o oa c ca hs hs hc hca hn hna W hR (hRa.keep h))
  have HH := hideS (fun (Y : World) (h : Below w.heap.size w Y) => head7 Y (Nat.le_trans hw h.size) (tabs_below hw hT h))
  obtain ⟨N, hN⟩ : ∃ N, D.length = N := ⟨_, rfl⟩
  obtain ⟨R, hR⟩ : ∃ R, norM s D = R := ⟨_, rfl⟩
  obtain ⟨er, ss, LE⟩ := R
  obtain ⟨R2, hR2⟩ : ∃ R, setM s D x = R := ⟨_, rfl⟩
  obtain ⟨e2, s2, LF⟩ := R2
  obtain ⟨C, hC⟩ : ∃ c, chkT s D = c := ⟨_, rfl⟩
  rw [hN] at HNr HSt HCk HRn HLt HSm ⊢
  rw [hR] at HNr
  rw [hR2] at HSt
  rw [hC] at HCk
  obtain ⟨M, hM⟩ : ∃ M, LE.length = M := ⟨_, rfl⟩
  obtain ⟨F, hF⟩ : ∃ F, LF.length = F := ⟨_, rfl⟩
  have HM := hideS (And.intro hM (And.intro hF (And.intro hR (And.intro hR2 hC))))
  unfold SplAns at HNr HSt
  simp only [hM] at HNr
  simp only [hF] at HSt
  have HD := hideS hca
  clear hRa hT hN hR hR2 hna hM hF hca hC
  unfold Sp.val at HSt ⊢
  obtain ⟨V, hV⟩ : ∃ V, (w.alloc (.cells #[.string s, .slice oa N ca] 24)).alloc (.cells #[.int .i64 x.fr, .int .i64 x.tt, .int .i64 x.kd, .int .i64 x.vl] 26) = V := ⟨_, rfl⟩
  have T0 := hideS (show Tx V w.heap.size (.string s) (.slice oa N ca) by rw [← hV]; exact (Tx.new w _ _).keep (bel1S _ _))
  have X0 : V.heap[w.heap.size + 1]? = some (.cells #[.int .i64 x.fr, .int .i64 x.tt, .int .i64 x.kd, .int .i64 x.vl] 26 (0, 0)) := by
    rw [← hV]
    have h9 := World.alloc_heap_new (w.alloc (.cells #[.string s, .slice oa N ca] 24)) (.cells #[.int .i64 x.fr, .int .i64 x.tt, .int .i64 x.kd, .int .i64 x.vl] 26)
    rw [World.size_alloc] at h9
    exact h9
  have BB := hideS (show Below w.heap.size w V by rw [← hV]; exact bupS (bel1S _ _) (bel1S _ _))
  have BV := hideS (Below.refl V.heap.size V)
  have HXc := hideS (fun (W : World) (h : Below V.heap.size V W) => spfour W (w.heap.size + 1) x ((h.block _ (Array.getElem?_eq_some_iff.1 X0).1).trans X0))
  clear X0
  obtain ⟨k0, k1, _, _⟩ := T0.out.cells
  go_enter Tryz.func3, Tryz.ntmps3
  go_upto_region 1 with fail
  try rw [hV]
  clear hV
  go_wp2_with fail
  refine (HNr.out V BB.out).mono ?_
  rintro e w1 ⟨v1, rfl, own1, b1⟩
  obtain ⟨o1, c1, rfl, hc1, hS1, -⟩ := own_readB own1 HM.out.1
  have hn1 := hideS (fun h => own_noneL own1 h)
  replace T0 := hideS (T0.out.keep b1)
  replace BB := hideS (bupS BB.out b1)
  replace BV := hideS (bupS BV.out b1)
  obtain ⟨W1, hW1⟩ : ∃ W1, w1.alloc (.cells #[.string ss, .slice o1 M c1] 24) = W1 := ⟨_, rfl⟩
  have d1 : Below w1.heap.size w1 W1 := by rw [← hW1]; exact bel1S _ _
  replace T0 := hideS (T0.out.keep d1)
  replace BB := hideS (bupS BB.out d1)
  replace BV := hideS (bupS BV.out d1)
  have T1 := hideS (show Tx W1 w1.heap.size (.string ss) (.slice o1 M c1) by rw [← hW1]; exact Tx.new w1 _ _)
  have S1 := hideS (hS1.keep d1)
  clear own1 b1 d1 hS1 k0 k1
  go_upto_region 2 with fail
  try rw [hW1]
  clear hW1
  by_cases her : er = 0
  · subst her
    obtain ⟨q1, q2, q3, q4, q5, q6⟩ := nor_ok HM.out.2.2.1
    subst q2
    have hE : norM ss D = (0, ss, LE) := HM.out.2.2.1
    have hlen : LE.length = M := HM.out.1
    have hnE : o1 = none → LE = [] ∧ c1 = 0 := fun h => ⟨List.length_eq_zero_iff.1 (by rw [hlen]; exact (hn1.out h).1), (hn1.out h).2⟩
    have HNE := hideS (fun (W : World) (hR : SpO W o1 LE) => norm_any ss LE o1 c1 hs (by rw [hlen]; exact hc1) hnE W hR)
    have HCE := hideS (fun (W : World) (hR : SpO W o1 LE) => check7_any ss LE o1 c1 hs (by rw [hlen]; exact hc1) hnE W hR)
    have HLE := hideS (fun (W : World) (hR : SpO W o1 LE) => lookR_any ss LE o1 c1 hs (by rw [hlen]; exact hc1) hnE W hR)
    have HME := hideS (fun (W : World) (h : Below w.heap.size w W) (hR : SpO W o1 LE) => HSm.out LE o1 c1 (by rw [hlen]; exact hc1) hnE W h hR)
    have HTE := hideS (fun (o : Option Addr) (c : Nat) (hc : M ≤ c ∧ c ≤ maxLen) (W : World) (hR : SpO W o LE) (hR1 : SpO W o1 LE) => sametx_sp ss LE o o1 c c1 (by rw [hlen]; exact hc) W hR hR1)
    have HMk := hideS (fun (o : Option Addr) (c : Nat) (W : World) (hR : RnO W o (runsM (signs ss).length (isort ltS D))) => make_any ss (runsM (signs ss).length (isort ltS D)) o c hs (runs_few q1) W hR)
    rw [q6, hlen] at HNE
    rw [q4, hlen] at HCE
    rw [go_all q4, q5, alls_len, hlen] at HLE
    rw [go_all q1, alls_len] at HLt
    rw [sam_nor hE, hlen] at HME
    rw [hlen] at HTE
    rw [mak_runs q1, q3] at HMk
    unfold SplAns at HNE HMk
    simp only [hlen] at HNE HMk
    have hn4 : (signs ss).length ≤ 4096 := Nat.le_trans (signs_le ss) (chkT_ok q1).1
    have hM256 : M ≤ 256 := by rw [← hlen]; exact (chkT_ok q4).2
    have HSL := hideS (fun (W : World) (p q : Option Addr) (c d : Nat) (h1 : AtO W p (alls D (signs ss).length)) (h2 : AtO W q (alls D (signs ss).length)) => sameA_any (alls D (signs ss).length) p q c d (by rw [alls_len]; omega) W h1 h2)
    rw [alls_len] at HSL
    obtain ⟨LA, hLA⟩ : ∃ L, alls D (signs ss).length = L := ⟨_, rfl⟩
    rw [hLA] at HLE HLt HSL
    obtain ⟨RL, hRL⟩ : ∃ L, runsM (signs ss).length (isort ltS D) = L := ⟨_, rfl⟩
    obtain ⟨n, hn⟩ : ∃ n, (signs ss).length = n := ⟨_, rfl⟩
    rw [hRL] at HMk
    rw [hn] at HLE HLt HSL hn4
    have HQ := hideS (And.intro q1 (And.intro q3 (And.intro q4 (And.intro q5 (And.intro q6 (And.intro hE (And.intro hRL (And.intro hn hnE))))))))
    clear q1 q3 q4 q5 q6 hE hRL hn hnE hLA
    obtain ⟨k0, k1, _, _⟩ := T1.out.cells
    go_wp2_with fail
    refine (HNE.out W1 S1.out).mono ?_
    rintro e w2 ⟨v2, rfl, own2, b2⟩
    obtain ⟨o2, c2, rfl, hc2, hS2, -⟩ := own_readB own2 HM.out.1
    have hn2 := hideS (fun h => own_noneL own2 h)
    replace T0 := hideS (T0.out.keep b2)
    replace BB := hideS (bupS BB.out b2)
    replace BV := hideS (bupS BV.out b2)
    replace T1 := hideS (T1.out.keep b2)
    replace S1 := hideS (S1.out.keep b2)
    obtain ⟨W2, hW2⟩ : ∃ W2, w2.alloc (.cells #[.string ss, .slice o2 M c2] 24) = W2 := ⟨_, rfl⟩
    have d2 : Below w2.heap.size w2 W2 := by rw [← hW2]; exact bel1S _ _
    replace T0 := hideS (T0.out.keep d2)
    replace BB := hideS (bupS BB.out d2)
    replace BV := hideS (bupS BV.out d2)
    replace T1 := hideS (T1.out.keep d2)
    replace S1 := hideS (S1.out.keep d2)
    have T2 := hideS (show Tx W2 w2.heap.size (.string ss) (.slice o2 M c2) by rw [← hW2]; exact Tx.new w2 _ _)
    have S2 := hideS (hS2.keep d2)
    clear own2 b2 d2 hS2 k0 k1 HNE
    go_upto_region 5 with fail
    try rw [hW2]
    clear hW2
    have HC5 := hideS (fun (w' : World) (h : Below W2.heap.size W2 w') => show w'.cell? ⟨w.heap.size, 0, none⟩ = some (.string ss) ∧ w'.cell? ⟨w.heap.size, 1, none⟩ = some (.slice oa N ca) ∧ w'.cell? ⟨w1.heap.size, 0, none⟩ = some (.string ss) ∧ w'.cell? ⟨w1.heap.size, 1, none⟩ = some (.slice o1 M c1) ∧ w'.cell? ⟨w2.heap.size, 0, none⟩ = some (.string ss) ∧ w'.cell? ⟨w2.heap.size, 1, none⟩ = some (.slice o2 M c2) from ⟨(T0.out.keep h).cells.1, (T0.out.keep h).cells.2.1, (T1.out.keep h).cells.1, (T1.out.keep h).cells.2.1, (T2.out.keep h).cells.1, (T2.out.keep h).cells.2.1⟩)
    have A1 := hideS (fun (W : World) (h : Below W2.heap.size W2 W) => HTE.out o2 c2 hc2 W (S2.out.keep h) (S1.out.keep h))
    have A2 := hideS (fun (W : World) (h : Below W2.heap.size W2 W) => HCE.out W (S1.out.keep h))
    have A3 := hideS (fun (W : World) (h : Below W2.heap.size W2 W) => HME.out W (bupS BB.out h) (S1.out.keep h))
    have A4 := hideS (fun (W : World) (h : Below W2.heap.size W2 W) => HLE.out W (S1.out.keep h))
    have A5 := hideS (fun (W : World) (h : Below W2.heap.size W2 W) => HLt.out W (bupS BB.out h))
    have b8 : Below W2.heap.size W2 W2.drew := (Below.refl _ W2).drew
    have C8 := HC5.out _ b8
    have hss : (ss.toList == ss.toList) = true := by simp
    go_cut [73] (fun o wx => o = .bool false ∧ Below W2.heap.size W2 wx)
    case first =>
      go_region_held3 (fun w' => w'.cell? ⟨w.heap.size, 0, none⟩ = some (.string ss) ∧ w'.cell? ⟨w.heap.size, 1, none⟩ = some (.slice oa N ca) ∧ w'.cell? ⟨w1.heap.size, 0, none⟩ = some (.string ss) ∧ w'.cell? ⟨w1.heap.size, 1, none⟩ = some (.slice o1 M c1) ∧ w'.cell? ⟨w2.heap.size, 0, none⟩ = some (.string ss) ∧ w'.cell? ⟨w2.heap.size, 1, none⟩ = some (.slice o2 M c2)) (first | assumption | go_keep)
        (first
        | (go_at_call 8; (with_reducible refine (A1.out _ b8).mono ?_); rintro e y1 ⟨rfl, b1⟩; have B1 := bupS b8 b1; have C1 := HC5.out _ B1)
        | (go_at_call 6; (with_reducible refine (A2.out _ B1).mono ?_); rintro e y2 ⟨rfl, b2⟩; have B2 := bupS B1 b2; have C2 := HC5.out _ B2)
        | (go_at_call 9; (with_reducible refine (A3.out _ B2).mono ?_); rintro e y3 ⟨rfl, b3⟩; have B3 := bupS B2 b3; have C3 := HC5.out _ B3)
        | (go_at_call_of 11 c1; (with_reducible refine (A4.out _ B3).mono ?_); rintro e y4 ⟨p4, q4, rfl, r4, b4⟩; have B4 := bupS B3 b4; have C4 := HC5.out _ B4)
        | (go_at_call_of 11 ca; (with_reducible refine (A5.out _ B4).mono ?_); rintro e y5 ⟨p5, q5, rfl, r5, b5⟩; have B5 := bupS B4 b5; have C5 := HC5.out _ B5; replace r4 := r4.keep b5)
        | (go_at_call_of 11 ca; (with_reducible refine (A5.out _ B3).mono ?_); rintro e y4 ⟨p5, q5, rfl, r5, b4⟩; have B4' := bupS B3 b4; have C4 := HC5.out _ B4')
        | (go_at_call_of 11 c1; (with_reducible refine (A4.out _ B4').mono ?_); rintro e y5 ⟨p4, q4, rfl, r4, b5⟩; have B5 := bupS B4' b5; have C5 := HC5.out _ B5; replace r5 := r5.keep b5)
        | (go_at_call 10; (with_reducible refine (HSL.out _ _ _ _ _ r4 r5).mono ?_); rintro e y6 ⟨rfl, b6⟩; have B6 := bupS B5 b6; have C6 := HC5.out _ B6))
      all_goals first | go_wp2_with fail | skip
      all_goals go_meet
      all_goals exact ⟨rfl, B6⟩
    case rest =>
      obtain ⟨rfl, bc⟩ := hcut
      replace T0 := hideS (T0.out.keep bc)
      replace BB := hideS (bupS BB.out bc)
      replace BV := hideS (bupS BV.out bc)
      replace T1 := hideS (T1.out.keep bc)
      replace S1 := hideS (S1.out.keep bc)
      replace T2 := hideS (T2.out.keep bc)
      replace S2 := hideS (S2.out.keep bc)
      clear bc C8 b8 A1 A2 A3 A4 A5 HC5 HCE HLE HLt HME HSL
      clear T2 S2
      obtain ⟨k0, k1, _, _⟩ := T0.out.cells
      go_wp2_with fail
      refine (HRn.out wc BB.out).mono ?_
      rintro e w3 ⟨b3, ⟨hne, rfl⟩ | ⟨hz, v3, rfl, own3⟩⟩
      · exact absurd HQ.out.1 hne
      obtain ⟨o3, c3, rfl, hc3, hR3⟩ := rn_of_own own3
      have hRL := HQ.out.2.2.2.2.2.2.1
      rw [hRL] at hR3 ⊢
      obtain ⟨NR, hNR⟩ : ∃ k, RL.length = k := ⟨_, rfl⟩
      rw [hNR] at HMk ⊢
      replace T0 := hideS (T0.out.keep b3)
      replace BB := hideS (bupS BB.out b3)
      replace BV := hideS (bupS BV.out b3)
      replace T1 := hideS (T1.out.keep b3)
      replace S1 := hideS (S1.out.keep b3)
      have R3 := hideS hR3
      clear k0 k1 b3 hz own3 hR3 hRL hNR HRn
      obtain ⟨k0, k1, _, _⟩ := T0.out.cells
      go_wp2_with fail
      refine (HMk.out o3 c3 w3 R3.out).mono ?_
      rintro e w4 ⟨v4, rfl, own4, b4⟩
      obtain ⟨o4, c4, rfl, hc4, hS4, -⟩ := own_readB own4 HM.out.1
      have hn4 := hideS (fun h => own_noneL own4 h)
      replace T0 := hideS (T0.out.keep b4)
      replace BB := hideS (bupS BB.out b4)
      replace BV := hideS (bupS BV.out b4)
      replace T1 := hideS (T1.out.keep b4)
      replace S1 := hideS (S1.out.keep b4)
      replace R3 := hideS (R3.out.keep b4)
      obtain ⟨W4, hW4⟩ : ∃ W4, w4.alloc (.cells #[.string ss, .slice o4 M c4] 24) = W4 := ⟨_, rfl⟩
      have d4 : Below w4.heap.size w4 W4 := by rw [← hW4]; exact bel1S _ _
      replace T0 := hideS (T0.out.keep d4)
      replace BB := hideS (bupS BB.out d4)
      replace BV := hideS (bupS BV.out d4)
      replace T1 := hideS (T1.out.keep d4)
      replace S1 := hideS (S1.out.keep d4)
      replace R3 := hideS (R3.out.keep d4)
      have T4 := hideS (show Tx W4 w4.heap.size (.string ss) (.slice o4 M c4) by rw [← hW4]; exact Tx.new w4 _ _)
      have S4 := hideS (hS4.keep d4)
      clear own4 b4 d4 hS4 k0 k1 HMk
      go_upto_region 9 with fail
      try rw [hW4]
      clear hW4
      clear R3
      obtain ⟨k0, k1, _, _⟩ := T4.out.cells
      obtain ⟨k2, k3, _, _⟩ := T1.out.cells
      go_wp2_with fail
      refine (HTE.out o4 c4 hc4 W4 S4.out S1.out).mono ?_
      rintro e w5 ⟨rfl, b5⟩
      replace T0 := hideS (T0.out.keep b5)
      replace BB := hideS (bupS BB.out b5)
      replace BV := hideS (bupS BV.out b5)
      replace T1 := hideS (T1.out.keep b5)
      replace S1 := hideS (S1.out.keep b5)
      replace T4 := hideS (T4.out.keep b5)
      replace S4 := hideS (S4.out.keep b5)
      clear b5 k0 k1 k2 k3 HTE
      clear T4 S4
      obtain ⟨k0, k1, _, _⟩ := T0.out.cells
      obtain ⟨x0, x1, x2, x3⟩ := HXc.out w5 BV.out
      go_wp2_with fail
      refine (HSt.out w5 BB.out).mono ?_
      rintro e w6 ⟨v6, rfl, own6, b6⟩
      obtain ⟨o6, c6, rfl, hc6, hS6, -⟩ := own_readB own6 HM.out.2.1
      have hn6 := hideS (fun h => own_noneL own6 h)
      replace T0 := hideS (T0.out.keep b6)
      replace BB := hideS (bupS BB.out b6)
      replace BV := hideS (bupS BV.out b6)
      replace T1 := hideS (T1.out.keep b6)
      replace S1 := hideS (S1.out.keep b6)
      obtain ⟨W6, hW6⟩ : ∃ W6, w6.alloc (.cells #[.string s2, .slice o6 F c6] 24) = W6 := ⟨_, rfl⟩
      have d6 : Below w6.heap.size w6 W6 := by rw [← hW6]; exact bel1S _ _
      replace T0 := hideS (T0.out.keep d6)
      replace BB := hideS (bupS BB.out d6)
      replace BV := hideS (bupS BV.out d6)
      replace T1 := hideS (T1.out.keep d6)
      replace S1 := hideS (S1.out.keep d6)
      have T6 := hideS (show Tx W6 w6.heap.size (.string s2) (.slice o6 F c6) by rw [← hW6]; exact Tx.new w6 _ _)
      have S6 := hideS (hS6.keep d6)
      clear own6 b6 d6 hS6 k0 k1 x0 x1 x2 x3 HSt
      go_upto_region 12 with fail
      try rw [hW6]
      clear hW6
      by_cases her2 : e2 = 0
      · subst her2
        have hF := HM.out.2.2.2.1
        obtain ⟨z1, z2, z3⟩ := set_ok hF
        subst z3
        obtain ⟨z4, z5, z6, z7⟩ := set_two z1 z2 hF
        have hlenF : LF.length = F := HM.out.2.1
        have hnF : o6 = none → LF = [] ∧ c6 = 0 := fun h => ⟨List.length_eq_zero_iff.1 (by rw [hlenF]; exact (hn6.out h).1), (hn6.out h).2⟩
        have hF256 : F ≤ 256 := by rw [← hlenF]; exact (chkT_ok z4).2
        have HNF := hideS (fun (W : World) (hR : SpO W o6 LF) => norm_any s2 LF o6 c6 hs (by rw [hlenF]; exact hc6) hnF W hR)
        have HMF := hideS (fun (W : World) (h : Below w.heap.size w W) (hR : SpO W o6 LF) => HSm.out LF o6 c6 (by rw [hlenF]; exact hc6) hnF W h hR)
        have HTF := hideS (fun (o : Option Addr) (c : Nat) (hc : F ≤ c ∧ c ≤ maxLen) (W : World) (hR : SpO W o LF) (hR1 : SpO W o6 LF) => sametx_sp s2 LF o6 o c6 c (by rw [hlenF]; exact hc6) W hR1 hR)
        have HTG := hideS (fun (W : World) (hR : SpO W o6 LF) (hR1 : SpO W o1 LE) => sametx_two s2 LF LE o6 o1 c6 c1 (by rw [hlenF]; omega) (by rw [hlen]; omega) W hR hR1)
        rw [z7, hlenF] at HNF
        rw [set_same HQ.out.2.2.2.2.2.1 hF, hlenF] at HMF
        rw [hlenF] at HTF
        rw [hlenF, hlen] at HTG
        unfold SplAns at HNF
        simp only [hlenF] at HNF
        obtain ⟨qb, hqb⟩ : ∃ q, decide (LF = LE) = q := ⟨_, rfl⟩
        rw [hqb] at HMF HTG
        clear hF z1 z2 z4 z5 z6 z7 hnF hqb HSm
        obtain ⟨k0, k1, _, _⟩ := T6.out.cells
        go_wp2_with fail
        refine (HNF.out W6 S6.out).mono ?_
        rintro e w7 ⟨v7, rfl, own7, b7⟩
        obtain ⟨o7, c7, rfl, hc7, hS7, -⟩ := own_readB own7 HM.out.2.1
        have hn7 := hideS (fun h => own_noneL own7 h)
        replace T0 := hideS (T0.out.keep b7)
        replace BB := hideS (bupS BB.out b7)
        replace BV := hideS (bupS BV.out b7)
        replace T1 := hideS (T1.out.keep b7)
        replace S1 := hideS (S1.out.keep b7)
        replace T6 := hideS (T6.out.keep b7)
        replace S6 := hideS (S6.out.keep b7)
        obtain ⟨W7, hW7⟩ : ∃ W7, w7.alloc (.cells #[.string s2, .slice o7 F c7] 24) = W7 := ⟨_, rfl⟩
        have d7 : Below w7.heap.size w7 W7 := by rw [← hW7]; exact bel1S _ _
        replace T0 := hideS (T0.out.keep d7)
        replace BB := hideS (bupS BB.out d7)
        replace BV := hideS (bupS BV.out d7)
        replace T1 := hideS (T1.out.keep d7)
        replace S1 := hideS (S1.out.keep d7)
        replace T6 := hideS (T6.out.keep d7)
        replace S6 := hideS (S6.out.keep d7)
        have T7 := hideS (show Tx W7 w7.heap.size (.string s2) (.slice o7 F c7) by rw [← hW7]; exact Tx.new w7 _ _)
        have S7 := hideS (hS7.keep d7)
        clear own7 b7 d7 hS7 k0 k1 HNF
        go_upto_region 13 with fail
        try rw [hW7]
        clear hW7
        go_upto_region 15 with fail
        have hz0 := T0.out.lt
        have hz1 := T1.out.lt
        have hz6 := T6.out.lt
        have hz7 := T7.out.lt
        have q00 : ∀ q : GrownQ W7, q.V.cell? ⟨w.heap.size, 0, none⟩ = some (.string s2) := fun q => (q.h.cell (p := ⟨w.heap.size, 0, none⟩) hz0).trans T0.out.cells.1
        have q01 : ∀ q : GrownQ W7, q.V.cell? ⟨w.heap.size, 1, none⟩ = some (.slice oa N ca) := fun q => (q.h.cell (p := ⟨w.heap.size, 1, none⟩) hz0).trans T0.out.cells.2.1
        have q10 : ∀ q : GrownQ W7, q.V.cell? ⟨w1.heap.size, 0, none⟩ = some (.string s2) := fun q => (q.h.cell (p := ⟨w1.heap.size, 0, none⟩) hz1).trans T1.out.cells.1
        have q11 : ∀ q : GrownQ W7, q.V.cell? ⟨w1.heap.size, 1, none⟩ = some (.slice o1 M c1) := fun q => (q.h.cell (p := ⟨w1.heap.size, 1, none⟩) hz1).trans T1.out.cells.2.1
        have q60 : ∀ q : GrownQ W7, q.V.cell? ⟨w6.heap.size, 0, none⟩ = some (.string s2) := fun q => (q.h.cell (p := ⟨w6.heap.size, 0, none⟩) hz6).trans T6.out.cells.1
        have q61 : ∀ q : GrownQ W7, q.V.cell? ⟨w6.heap.size, 1, none⟩ = some (.slice o6 F c6) := fun q => (q.h.cell (p := ⟨w6.heap.size, 1, none⟩) hz6).trans T6.out.cells.2.1
        have q70 : ∀ q : GrownQ W7, q.V.cell? ⟨w7.heap.size, 0, none⟩ = some (.string s2) := fun q => (q.h.cell (p := ⟨w7.heap.size, 0, none⟩) hz7).trans T7.out.cells.1
        have q71 : ∀ q : GrownQ W7, q.V.cell? ⟨w7.heap.size, 1, none⟩ = some (.slice o7 F c7) := fun q => (q.h.cell (p := ⟨w7.heap.size, 1, none⟩) hz7).trans T7.out.cells.2.1
        have A1 := hideS (fun (W : World) (h : Below W7.heap.size W7 W) => HTF.out o7 c7 hc7 W (S7.out.keep h) (S6.out.keep h))
        have A2 := hideS (fun (W : World) (h : Below W7.heap.size W7 W) => HMF.out W (bupS BB.out h) (S6.out.keep h))
        have A3 := hideS (fun (W : World) (h : Below W7.heap.size W7 W) => HTG.out W (S6.out.keep h) (S1.out.keep h))
        have A4 := hideS (fun (W : World) (h : Below W7.heap.size W7 W) => HH.out W (bupS BB.out h))
        refine region_grown W7 W7 (by kernel_rfl) (by kernel_rfl) (Below.refl _ _) ?_
        cases qb
        · skip
          repeat (go_big_quiet_step (first
            | (go_at_call_of 8 c7; rename_i q; (with_reducible refine (A1.out _ q.h).mono ?_); rintro e V1 ⟨rfl, h1⟩; exact ⟨rfl, ⟨V1, q.h.trans (h1.mono q.h.size)⟩, rfl⟩)
            | (go_at_call_of 8 c1; rename_i q; (with_reducible refine (A3.out _ q.h).mono ?_); rintro e V1 ⟨rfl, h1⟩; exact ⟨rfl, ⟨V1, q.h.trans (h1.mono q.h.size)⟩, rfl⟩)
            | (go_at_call 9; rename_i q; (with_reducible refine (A2.out _ q.h).mono ?_); rintro e V1 ⟨rfl, h1⟩; exact ⟨rfl, ⟨V1, q.h.trans (h1.mono q.h.size)⟩, rfl⟩)
            | (go_at_call 7; rename_i q; (with_reducible refine (A4.out _ q.h).mono ?_); rintro e V1 ⟨rfl, h1⟩; exact ⟨rfl, ⟨V1, q.h.trans (h1.mono q.h.size)⟩, rfl⟩)))
          refine wpQuiet_nil ?_
          rintro W9 ⟨⟨V3, hb3⟩, hv3⟩
          have hv3 : W9 = V3 := hv3
          subst hv3
          have B9 := hideS (bupS BB.out hb3)
          clear hv3 hb3
          go_wp2_with fail
          go_ret
          exact ⟨rfl, B9.out⟩
        · skip
          repeat (go_big_quiet_step (first
            | (go_at_call_of 8 c7; rename_i q; (with_reducible refine (A1.out _ q.h).mono ?_); rintro e V1 ⟨rfl, h1⟩; exact ⟨rfl, ⟨V1, q.h.trans (h1.mono q.h.size)⟩, rfl⟩)
            | (go_at_call_of 8 c1; rename_i q; (with_reducible refine (A3.out _ q.h).mono ?_); rintro e V1 ⟨rfl, h1⟩; exact ⟨rfl, ⟨V1, q.h.trans (h1.mono q.h.size)⟩, rfl⟩)
            | (go_at_call 9; rename_i q; (with_reducible refine (A2.out _ q.h).mono ?_); rintro e V1 ⟨rfl, h1⟩; exact ⟨rfl, ⟨V1, q.h.trans (h1.mono q.h.size)⟩, rfl⟩)
            | (go_at_call 7; rename_i q; (with_reducible refine (A4.out _ q.h).mono ?_); rintro e V1 ⟨rfl, h1⟩; exact ⟨rfl, ⟨V1, q.h.trans (h1.mono q.h.size)⟩, rfl⟩)))
          refine wpQuiet_nil ?_
          rintro W9 ⟨⟨V3, hb3⟩, hv3⟩
          have hv3 : W9 = V3 := hv3
          subst hv3
          have B9 := hideS (bupS BB.out hb3)
          clear hv3 hb3
          go_wp2_with fail
          go_ret
          exact ⟨rfl, B9.out⟩
      · obtain ⟨z1, z2⟩ := set_err HM.out.2.2.2.1 her2
        subst z1 z2
        obtain rfl : 0 = F := HM.out.2.1
        have ecb : (e2 != 0) = true := by simpa using her2
        obtain ⟨R7, hR7⟩ : ∃ R, norM ByteArray.empty [] = R := ⟨_, rfl⟩
        obtain ⟨e7, s7, LG⟩ := R7
        obtain ⟨G, hG⟩ : ∃ G, LG.length = G := ⟨_, rfl⟩
        have HG := hideS hG
        have HNF := hideS (fun (W : World) (hR : SpO W o6 []) => norm_any ByteArray.empty [] o6 c6 (by simp) hc6 (fun h => ⟨rfl, (hn6.out h).2⟩) W hR)
        rw [hR7] at HNF
        unfold SplAns at HNF
        simp only [hG, List.length_nil] at HNF
        clear hG hR7
        obtain ⟨k0, k1, _, _⟩ := T6.out.cells
        go_wp2_with fail
        refine (HNF.out W6 S6.out).mono ?_
        rintro e w7 ⟨v7, rfl, own7, b7⟩
        obtain ⟨o7, c7, rfl, hc7, hS7, -⟩ := own_readB own7 HG.out
        have hn7 := hideS (fun h => own_noneL own7 h)
        replace T0 := hideS (T0.out.keep b7)
        replace BB := hideS (bupS BB.out b7)
        replace BV := hideS (bupS BV.out b7)
        replace T1 := hideS (T1.out.keep b7)
        replace S1 := hideS (S1.out.keep b7)
        replace T6 := hideS (T6.out.keep b7)
        replace S6 := hideS (S6.out.keep b7)
        obtain ⟨W7, hW7⟩ : ∃ W7, w7.alloc (.cells #[.string s7, .slice o7 G c7] 24) = W7 := ⟨_, rfl⟩
        have d7 : Below w7.heap.size w7 W7 := by rw [← hW7]; exact bel1S _ _
        replace T0 := hideS (T0.out.keep d7)
        replace BB := hideS (bupS BB.out d7)
        replace BV := hideS (bupS BV.out d7)
        replace T1 := hideS (T1.out.keep d7)
        replace S1 := hideS (S1.out.keep d7)
        replace T6 := hideS (T6.out.keep d7)
        replace S6 := hideS (S6.out.keep d7)
        have T7 := hideS (show Tx W7 w7.heap.size (.string s7) (.slice o7 G c7) by rw [← hW7]; exact Tx.new w7 _ _)
        have S7 := hideS (hS7.keep d7)
        clear own7 b7 d7 hS7 k0 k1 HNF
        go_upto_region 13 with fail
        try rw [hW7]
        clear hW7
        obtain ⟨k0, k1, _, _⟩ := T6.out.cells
        have hee : (ByteArray.empty.toList == (⟨#[]⟩ : ByteArray).toList) = true := by first | rfl | simp
        go_wp2_with fail
        refine (HH.out W7 BB.out).mono ?_
        rintro e w8 ⟨rfl, b8⟩
        replace T0 := hideS (T0.out.keep b8)
        replace BB := hideS (bupS BB.out b8)
        replace BV := hideS (bupS BV.out b8)
        replace T1 := hideS (T1.out.keep b8)
        replace S1 := hideS (S1.out.keep b8)
        replace T6 := hideS (T6.out.keep b8)
        replace S6 := hideS (S6.out.keep b8)
        replace T7 := hideS (T7.out.keep b8)
        replace S7 := hideS (S7.out.keep b8)
        clear b8 k0 k1
        go_wp2_with fail
        go_ret
        exact ⟨rfl, BB.out⟩
  · have ecb : (er != 0) = true := by simpa using her
    obtain ⟨k0, k1, _, _⟩ := T0.out.cells
    rcases nor_err HM.out.2.2.1 her with hq | ⟨hq, hq2⟩
    · obtain rfl : C = er := by rw [← hq]; exact HM.out.2.2.2.2.symm
      have ecc : (C == C) = true := by simp
      go_wp2_with fail
      refine (HCk.out W1 BB.out).mono ?_
      rintro e w2 ⟨rfl, b2⟩
      replace T0 := hideS (T0.out.keep b2)
      replace BB := hideS (bupS BB.out b2)
      replace BV := hideS (bupS BV.out b2)
      replace T1 := hideS (T1.out.keep b2)
      replace S1 := hideS (S1.out.keep b2)
      clear b2 k0 k1
      go_wp2_with fail
      refine (HH.out w2 BB.out).mono ?_
      rintro e w3 ⟨rfl, b3⟩
      replace T0 := hideS (T0.out.keep b3)
      replace BB := hideS (bupS BB.out b3)
      replace BV := hideS (bupS BV.out b3)
      replace T1 := hideS (T1.out.keep b3)
      replace S1 := hideS (S1.out.keep b3)
      clear b3 
      go_wp2_with fail
      go_ret
      exact ⟨rfl, BB.out⟩
    · obtain rfl : 0 = C := by rw [← hq]; exact HM.out.2.2.2.2
      subst hq2
      have ecc : ((0 : Int) == 2) = false := by decide
      go_wp2_with fail
      refine (HCk.out W1 BB.out).mono ?_
      rintro e w2 ⟨rfl, b2⟩
      replace T0 := hideS (T0.out.keep b2)
      replace BB := hideS (bupS BB.out b2)
      replace BV := hideS (bupS BV.out b2)
      replace T1 := hideS (T1.out.keep b2)
      replace S1 := hideS (S1.out.keep b2)
      clear b2 k0 k1
      go_wp2_with fail
      refine (HH.out w2 BB.out).mono ?_
      rintro e w3 ⟨rfl, b3⟩
      replace T0 := hideS (T0.out.keep b3)
      replace BB := hideS (bupS BB.out b3)
      replace BV := hideS (bupS BV.out b3)
      replace T1 := hideS (T1.out.keep b3)
      replace S1 := hideS (S1.out.keep b3)
      clear b3 
      go_wp2_with fail
      go_ret
      exact ⟨rfl, BB.out⟩
end Go.Proofs.YtkamjlpnenldbaaGreatDoor
