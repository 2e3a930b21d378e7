import Derived.Test.YtlkgnheccoodpaaGreatDoorG8
import Derived.Test.YtlkgnheccoodpaaGreatDoorG9
import Derived.Test.YtlkgnheccoodpaaGreatDoorGK
import Derived.Test.YtlkgnheccoodpaaGreatDoorGL
import Derived.Test.YtlkgnheccoodpaaGreatDoorWxF
namespace Go.Proofs.YtlkgnheccoodpaaGreatDoor

theorem rd_at {D : Tb} {fr : Nat} {ws : List Nat} (h : Rd D fr ws) : ∀ (i t : Nat), ws[i]? = some t → (if i = 0 then fr else ws.getD (i - 1) 0) < t ∧ 0 < D.k t ∧ t ≤ D.n := by
  induction h with
  | nil fr _ => intro i t ht; simp at ht
  | cons fr t0 ws h1 h2 h3 _ _ ih =>
    intro i t ht
    cases i with
    | zero =>
      simp at ht
      subst ht
      exact ⟨h1, h3, h2⟩
    | succ i =>
      rw [List.getElem?_cons_succ] at ht
      have := ih i t ht
      refine ⟨?_, this.2⟩
      rw [if_neg (by omega)]
      cases i with
      | zero => simpa using this.1
      | succ i => simpa using this.1
theorem kinds_eq (s : ByteArray) (t : Nat) (h0 : 0 < t) (h1 : t ≤ (clusters s).length) : kindRL (piecesL s) t = kindL (partsL s) t := by
  exact (kindL_same s t h0 h1).symm
theorem fold_at (s : ByteArray) (wd : Int) (h0 : 0 < (clusters s).length) (ws : List Nat) (hRd : Rd (tbS (piecesL s) wd) 0 ws) : ∀ i, i ≤ ws.length → ∀ (u : ByteArray) (D : List Sp), rtxL (piecesL s) ws i u D = layL ((ws.map (stp s)).take i).reverse u D
  | 0, _, u, D => by simp [rtxL, layL]
  | i + 1, hi, u, D => by
    have hlt : i < ws.length := by omega
    obtain ⟨t, ht⟩ : ∃ t, ws[i]? = some t := ⟨_, List.getElem?_eq_getElem hlt⟩
    obtain ⟨a1, a2, a3⟩ := rd_at hRd i t ht
    have a2 : 0 < kindRL (piecesL s) t := a2
    have a3 : t ≤ (piecesL s).length := a3
    rw [piecesL_len] at a3
    have hg : ws.getD i 0 = t := by rw [List.getD, ht]; rfl
    have hfr : frI ws i < t := a1
    have hk := kinds_eq s t (by omega) a3
    have hks := kindI_set (match (partsL s)[t - 2]? with | some z => decide (1 < t) && dashB z | none => false) ((partsL s).getD (t - 1) ⟨0, 0, 0, 0, false⟩) ((partsL s).getD t ⟨0, 0, 0, 0, false⟩)
    have hk3 : kindL (partsL s) t ≤ 3 := hks.2.2.1
    have hmk : mkI (piecesL s) ws i = decide (kindL (partsL s) t = 2 ∨ kindL (partsL s) t = 3) := by
      unfold mkI
      rw [hg, decide_eq_true hlt, Bool.true_and, hk]
      by_cases h : kindL (partsL s) t = 1
      · rw [decide_eq_false (by simpa using h), decide_eq_false (by omega)]
      · rw [decide_eq_true h, decide_eq_true (by omega)]
    have hbg : BgOk (partsL s) (frI ws i) := by
      refine bg_of s wd _ (by omega) ?_
      unfold frI
      by_cases h : i = 0
      · rw [if_pos h]; exact .inl rfl
      · rw [if_neg h]
        have h9 : ws[i - 1]? = some (ws.getD (i - 1) 0) := getD_some (by omega)
        exact .inr (rd_at hRd (i - 1) _ h9).2.1
    have hto : toI ws (piecesL s).length i = t := by unfold toI; rw [if_pos hlt, hg]
    have key := lay_same s (frI ws i) t (kindL (partsL s) t) h0 hbg (by omega) a3 (fun _ => hard_cl _ _) (fun h => by omega) (by omega) u D
    unfold rtxL
    rw [if_neg (by omega), hto, hmk, key]
    have hst : (ws.map (stp s))[i]? = some (stp s t) := by rw [List.getElem?_map, ht]; rfl
    rw [List.take_add_one, hst, Option.toList_some, List.reverse_append, List.reverse_singleton, List.singleton_append]
    show _ = layL (stp s t :: _) u D
    unfold layL
    rw [← fold_at s wd h0 ws hRd i (by omega)]
    rfl
theorem fold_all (s : ByteArray) (wd : Int) (h0 : 0 < (clusters s).length) (ws : List Nat) (hRd : Rd (tbS (piecesL s) wd) 0 ws) (hle : ∀ i, i ≤ ws.length → frI ws i ≤ toI ws (piecesL s).length i) (u : ByteArray) (D : List Sp) : rtxL (piecesL s) ws (ws.length + 1) u D = layL (ws.map (stp s) ++ [fnS s]).reverse u D := by
  have hall := fold_at s wd h0 ws hRd ws.length (Nat.le_refl _)
  have htk : (ws.map (stp s)).take ws.length = ws.map (stp s) := by rw [List.take_of_length_le (by rw [List.length_map]; exact Nat.le_refl _)]
  rw [htk] at hall
  rw [List.reverse_append, List.reverse_singleton, List.singleton_append]
  have hpl := piecesL_len s
  have hfn : fnS s = stpAt (partsL s) (clusters s).length 0 := by unfold fnS; rw [partsL_len]; rfl
  have hto : toI ws (piecesL s).length ws.length = (clusters s).length := by unfold toI; rw [if_neg (by omega), hpl]
  have hmk : mkI (piecesL s) ws ws.length = false := by unfold mkI; rw [decide_eq_false (by omega), Bool.false_and]
  unfold rtxL layL
  by_cases hend : endsB ((piecesL s).getD ((piecesL s).length - 1) pc0) = true
  · rw [if_pos ⟨rfl, hend⟩]
    have hc := (piece_cl s ((clusters s).length - 1) (by omega)).1
    rw [hpl] at hend
    rw [hend] at hc
    have hc1 : ((partsL s).getD ((clusters s).length - 1) pt0).cl = 1 := of_decide_eq_true hc.symm
    have hst : stripB (partsL s) (clusters s).length = (clusters s).length := by
      obtain ⟨m, hm⟩ : ∃ m, (clusters s).length = m + 1 := ⟨(clusters s).length - 1, by omega⟩
      rw [hm] at hc1 ⊢
      unfold stripB
      have hc1 : ((partsL s).getD m pt0).cl = 1 := by simpa using hc1
      rw [if_neg (by intro h; have h : ((partsL s).getD m pt0).cl = 2 := by simpa using h
                     omega)]
    have hl : layM (fnS s) u D = (0, u, D) := by
      rw [hfn]
      unfold layM layI stpAt
      have : stopE 0 (clusters s).length = (clusters s).length := rfl
      rw [this, hst]
      rw [if_neg (show ¬ (0:Int) = 1 by decide), if_neg (show ¬ ((0:Int) = 2 ∨ (0:Int) = 3) by decide), if_pos rfl]
    rw [hl, if_pos rfl]
    exact hall u D
  · rw [if_neg (fun q => hend q.2), hto, hmk]
    have hc := (piece_cl s ((clusters s).length - 1) (by omega)).1
    rw [hpl] at hend
    have hc1 : ¬ ((partsL s).getD ((clusters s).length - 1) pt0).cl = 1 := fun h => hend (by rw [hc]; exact decide_eq_true h)
    have hfrn : frI ws ws.length ≤ (clusters s).length := by have := hle ws.length (Nat.le_refl _); rw [hto] at this; exact this
    have hbg : BgOk (partsL s) (frI ws ws.length) := by
      refine bg_of s wd _ hfrn ?_
      unfold frI
      by_cases h : ws.length = 0
      · rw [if_pos h]; exact .inl rfl
      · rw [if_neg h]
        have h9 : ws[ws.length - 1]? = some (ws.getD (ws.length - 1) 0) := getD_some (by omega)
        exact .inr (rd_at hRd (ws.length - 1) _ h9).2.1
    have hlast : frI ws ws.length = (clusters s).length → (frI ws ws.length = 0 ∨ ((partsL s).getD (frI ws ws.length - 1) pt0).cl ≠ 2) := by
      intro h
      exfalso
      unfold frI at h
      by_cases h8 : ws.length = 0
      · rw [if_pos h8] at h; omega
      · rw [if_neg h8] at h
        have h9 : ws[ws.length - 1]? = some (ws.getD (ws.length - 1) 0) := getD_some (by omega)
        have h7 : 0 < kindRL (piecesL s) (ws.getD (ws.length - 1) 0) := (rd_at hRd (ws.length - 1) _ h9).2.1
        rw [h] at h7
        unfold kindRL at h7
        rw [if_neg (by omega), if_neg hend] at h7
        exact absurd h7 (by decide)
    have key := lay_same s (frI ws ws.length) (clusters s).length 0 h0 hbg hfrn (Nat.le_refl _) (fun _ => ⟨fun h => absurd h (by decide), fun h => absurd h hc1⟩) (fun h => ⟨by decide, hlast h⟩) (.inl rfl) u D
    rw [show (decide ((0 : Int) = 2 ∨ (0 : Int) = 3)) = false by decide, ← hfn] at key
    rw [key]
    split
    · rw [← hall]
    · rfl
end Go.Proofs.YtlkgnheccoodpaaGreatDoor
namespace Go.Proofs.YtlkgnheccoodpaaGreatDoor
open Go.RowKit Go.Shelf
attribute [local go_sem] Oper.semAt_some
set_option maxRecDepth 100000 in
set_option maxHeartbeats 8000000 in
theorem rtext_bad (s : ByteArray) (o : Option Addr) (N cap : Nat) (wd : Int) (e1 e2 er : Int) (he : (¬ e1 = 0 ∧ er = e1) ∨ (e1 = 0 ∧ ¬ e2 = 0 ∧ er = e2)) (w : World)
    (HCk : ∀ W, Below w.heap.size w W → Calls Tryz.prog 18 #[.agg #[.string s, .slice o N cap]] W fun e w' => e = .returned (.int .i64 e1) ∧ Below W.heap.size W w')
    (HWc : ∀ W, Calls Tryz.prog 19 #[.string s, .int .i64 wd] W fun e w' => e = .returned (.int .i64 e2) ∧ w' = W) :
    Calls Tryz.prog 7 #[.agg #[.string s, .slice o N cap], .int .i64 wd] w (TxAns w (er, ByteArray.empty, [])) := by
  replace HCk := hideS HCk
  replace HWc := hideS HWc
  have HE := hideS he
  clear he
  go_enter Tryz.func7, Tryz.ntmps7
  go_wp2_with fail
  have hex : Below w.heap.size w ((w.alloc (.cells #[.string s, .slice o N cap] 24)).alloc (.cells #[.string ⟨#[]⟩, .slice none 0 0] 24)) ∧ Tx ((w.alloc (.cells #[.string s, .slice o N cap] 24)).alloc (.cells #[.string ⟨#[]⟩, .slice none 0 0] 24)) w.heap.size (.string s) (.slice o N cap) ∧ Tx ((w.alloc (.cells #[.string s, .slice o N cap] 24)).alloc (.cells #[.string ⟨#[]⟩, .slice none 0 0] 24)) (w.heap.size + 1) (.string ⟨#[]⟩) (.slice none 0 0) := by
    refine ⟨bupS (bel1S _ _) (bel1S _ _), (Tx.new w _ _).keep (bel1S _ _), ?_⟩
    have h9 := Tx.new (w.alloc (.cells #[.string s, .slice o N cap] 24)) (.string ⟨#[]⟩) (.slice none 0 0)
    rw [World.size_alloc] at h9
    exact h9
  obtain ⟨V, hV⟩ : ∃ V, (w.alloc (.cells #[.string s, .slice o N cap] 24)).alloc (.cells #[.string ⟨#[]⟩, .slice none 0 0] 24) = V := ⟨_, rfl⟩
  rw [hV] at hex
  try rw [hV]
  clear hV
  have HV := hideS hex
  clear hex
  refine (HCk.out _ HV.out.1).mono ?_
  rintro e w1 ⟨rfl, b1⟩
  replace HV := hideS (And.intro (bupS HV.out.1 b1) (And.intro (HV.out.2.1.keep b1) (HV.out.2.2.keep b1)))
  clear b1 HCk
  obtain ⟨c0, c1, c2, c3⟩ := HV.out.2.1.cells
  obtain ⟨r0, r1, r2, r3⟩ := HV.out.2.2.cells
  have hz := HV.out.2.2.lt
  by_cases g : e1 = 0
  · subst g
    have hq : ¬ e2 = 0 ∧ er = e2 := by
      rcases HE.out with h | h
      · exact absurd rfl h.1
      · exact h.2
    obtain ⟨g2, rfl⟩ := hq
    have g' : (er != 0) = true := by simpa using g2
    go_wp2_with fail
    refine (HWc.out _).mono ?_
    rintro e w2 ⟨rfl, hq⟩
    obtain rfl : w2 = w1 := hq
    go_wp2_with fail
    have ⟨k0, k1, _⟩ := (HV.out.2.2.set (.string ⟨#[]⟩) (.slice none 0 0)).cells
    refine bodyPost_ret (v := .tuple #[.agg #[.string ⟨#[]⟩, .slice none 0 0], .int .i64 er]) (by simp [results, Tryz.results7, go_sem, k0, k1]) rfl ?_
    exact ⟨none, 0, rfl, ⟨Nat.le_refl _, Nat.zero_le _⟩, fun _ => ⟨rfl, rfl⟩, SpO.nil _ _, fun a h => (nomatch h), (HV.out.1.setCell (by simp) _).setCell (by simp) _⟩
  · have hq : er = e1 := by
      rcases HE.out with h | h
      · exact h.2
      · exact absurd h.1 g
    subst hq
    have g' : (er != 0) = true := by simpa using g
    go_wp2_with fail
    have ⟨k0, k1, _⟩ := (HV.out.2.2.set (.string ⟨#[]⟩) (.slice none 0 0)).cells
    refine bodyPost_ret (v := .tuple #[.agg #[.string ⟨#[]⟩, .slice none 0 0], .int .i64 er]) (by simp [results, Tryz.results7, go_sem, k0, k1]) rfl ?_
    exact ⟨none, 0, rfl, ⟨Nat.le_refl _, Nat.zero_le _⟩, fun _ => ⟨rfl, rfl⟩, SpO.nil _ _, fun a h => (nomatch h), (HV.out.1.setCell (by simp) _).setCell (by simp) _⟩

end Go.Proofs.YtlkgnheccoodpaaGreatDoor
namespace Go.Proofs.YtlkgnheccoodpaaGreatDoor
open Go.RowKit Go.Shelf
attribute [local go_sem] Oper.semAt_some
set_option maxRecDepth 100000 in
set_option maxHeartbeats 8000000 in
theorem rtext_nil (s : ByteArray) (hs : s.size ≤ 4096) (hs0 : (piecesL s).length = 0) (D : List Sp) (o : Option Addr) (N cap : Nat) (hN : D.length = N) (hN5 : N ≤ 256) (hc : N ≤ cap ∧ cap ≤ maxLen) (hn : o = none → D = [] ∧ cap = 0) (hck0 : chkT s D = 0) (wd : Int) (hw : 2 ≤ wd ∧ wd ≤ 200) (w : World) (hR : SpO w o D) :
    Calls Tryz.prog 7 #[.agg #[.string s, .slice o N cap], .int .i64 wd] w (TxAns w (0, s, D)) := by
  obtain ⟨i0, hi, hz0, hz1, hz2'⟩ := info_parts infoSp
  have HCk := hideS (fun W (h : Below w.heap.size w W) => rcheck_any s D o cap W (hR.keep h))
  rw [hck0, hN] at HCk
  have HC := hideS (rcheckW_any s wd)
  have hck : wcheckI s.size wd = 0 := by unfold wcheckI; rw [if_neg (by omega), if_neg (by omega)]
  rw [hck] at HC
  have HP := hideS (pieces_walk s hs)
  have eP : piecesL s = [] := List.eq_nil_of_length_eq_zero hs0
  rw [eP] at HP
  have hrn := row_nil wd hw.1
  have eT : tabE (tbS [] wd) 0 = ⟨wd * wd, 0, 0⟩ := by
    unfold tabE
    rw [hrn]
    rfl
  have HWy := hideS (fun oa ca U => way_walk oa 0 ca wd (tbS [] wd) (Nat.zero_le _) [] (Nat.zero_le _) (by rw [eT]; rfl) (fun t ht => by simp at ht) U (by rw [hrn]; exact table_nil oa ca wd hw U))
  rw [eT] at HWy
  have HD := hideS (And.intro hN (And.intro hc (And.intro hn hR)))
  have HNj := hideS hN
  obtain ⟨R, hRR⟩ : ∃ R : Int × ByteArray × List Sp, (0, s, D) = R := ⟨_, rfl⟩
  rw [hRR]
  have HRz := hideS hRR
  clear hR hn hc hN hRR hck eP hs0 eT hrn
  go_enter Tryz.func7, Tryz.ntmps7
  go_wp2_with fail
  have hex : Below w.heap.size w ((w.alloc (.cells #[.string s, .slice o N cap] 24)).alloc (.cells #[.string ⟨#[]⟩, .slice none 0 0] 24)) ∧ Tx ((w.alloc (.cells #[.string s, .slice o N cap] 24)).alloc (.cells #[.string ⟨#[]⟩, .slice none 0 0] 24)) w.heap.size (.string s) (.slice o N cap) ∧ Tx ((w.alloc (.cells #[.string s, .slice o N cap] 24)).alloc (.cells #[.string ⟨#[]⟩, .slice none 0 0] 24)) (w.heap.size + 1) (.string ⟨#[]⟩) (.slice none 0 0) := by
    refine ⟨bupS (bel1S _ _) (bel1S _ _), (Tx.new w _ _).keep (bel1S _ _), ?_⟩
    have h9 := Tx.new (w.alloc (.cells #[.string s, .slice o N cap] 24)) (.string ⟨#[]⟩) (.slice none 0 0)
    rw [World.size_alloc] at h9
    exact h9
  obtain ⟨V, hV⟩ : ∃ V, (w.alloc (.cells #[.string s, .slice o N cap] 24)).alloc (.cells #[.string ⟨#[]⟩, .slice none 0 0] 24) = V := ⟨_, rfl⟩
  rw [hV] at hex
  try rw [hV]
  clear hV
  have HV := hideS hex
  clear hex
  refine (HCk.out _ HV.out.1).mono ?_
  rintro e w1 ⟨rfl, b1⟩
  replace HV := hideS (And.intro (bupS HV.out.1 b1) (And.intro (HV.out.2.1.keep b1) (HV.out.2.2.keep b1)))
  clear b1 HCk
  obtain ⟨c0, c1, c2, c3⟩ := HV.out.2.1.cells
  go_wp2_with fail
  refine (HC.out _).mono ?_
  rintro e w2 ⟨rfl, hq⟩
  obtain rfl : w2 = w1 := hq
  go_wp2_with fail
  refine (HP.out _).mono ?_
  rintro e w3 ⟨v1, rfl, o1, b3⟩
  obtain ⟨oa, ca, rfl⟩ := slice_lenN o1
  have HKS := hideS (kinds_nil oa ca w3)
  replace HV := hideS (And.intro (bupS HV.out.1 b3) (And.intro (HV.out.2.1.keep b3) (HV.out.2.2.keep b3)))
  clear o1 b3 HP HC c0 c1 c2 c3
  rw [List.length_nil]
  go_wp2_with fail
  refine HKS.out.mono ?_
  rintro e w4 ⟨rfl, b4⟩
  replace HV := hideS (And.intro (bupS HV.out.1 b4) (And.intro (HV.out.2.1.keep b4) (HV.out.2.2.keep b4)))
  clear b4 HKS
  go_wp2_with fail
  refine (HWy.out _ _ _).mono ?_
  rintro e w5 ⟨v3, rfl, o3, b5⟩
  obtain ⟨ov, cv, rfl⟩ := slice_lenN o3
  replace HV := hideS (And.intro (bupS HV.out.1 b5) (And.intro (HV.out.2.1.keep b5) (And.intro (HV.out.2.2.keep b5) trivial)))
  clear o3 b5 HWy
  rw [List.length_nil]
  obtain ⟨c0, c1, c2, c3⟩ := HV.out.2.1.cells
  go_upto_region 11 with fail
  have HT0 := hideS (show RtI w5 (w5.alloc (.cells #[.string s, .slice o N cap] 24)) s D o cap from by
    obtain ⟨q1, q2, q3, q4⟩ := HD.out
    have hz5 := HV.out.1.size
    refine ⟨by rw [q1]; exact Tx.new w5 _ _, by rw [q1]; exact q2, q3, q4.keep (bupS HV.out.1 (bel1S _ _)), fun a ha hne => ?_, bel1S _ _⟩
    cases hD : D with
    | nil => exact absurd hD hne
    | cons x D' =>
      obtain ⟨a', ha', hlt, _⟩ := q4 0 x (by rw [hD]; rfl)
      rw [ha] at ha'
      obtain rfl := Option.some.inj ha'
      omega)
  generalize w5.alloc (.cells #[.string s, .slice o N cap] 24) = W0 at *
  clear c0 c1 c2 c3
  go_wp2_with fail
  go_loopw [12] (fun iv wq => ∃ j : Nat, iv = .int .i64 ((j : Int) - 1) ∧ j ≤ 1 ∧ RtI w5 wq s D o cap) (fun iv _ => (intOf iv + 1).toNat)
  case atStart => exact ⟨1, by simp, Nat.le_refl _, HT0.out⟩
  case round =>
    obtain ⟨j, rfl, hjL, hT⟩ := hrel
    obtain ⟨wq, rfl⟩ : ∃ wq, wq = wr := ⟨_, rfl⟩
    have HT := hideS hT
    clear hT HT0
    cases j with
    | zero =>
      have ⟨t0, t1, t2, t3⟩ := HT.out.1.cells
      rw [HNj.out] at t1
      have hzq := HT.out.1.lt
      have hm1 : ¬ (0 : Int) ≤ ((0 : Nat) : Int) - 1 := by omega
      have hNj5 : N ≤ 256 := hN5
      cases o with
      | none =>
        have hd := HT.out.2.2.1 rfl
        obtain ⟨hd1, hd2⟩ := hd
        have hN0 : N = 0 := by rw [← HNj.out, hd1]; rfl
        subst hN0 hd2
        have HA1 := hideS (HT.out.1.keep (bel1S wq (.cells #[] 42)))
        have ⟨k0, k1, k2, k3⟩ := HA1.out.cells
        go_upto_region 35 with (at_builtin; refine wpList_append_own_none rfl _ _ 22 rfl wq.heap.size 42 i0 4 Tryz.underlying22 hi _ _ _ rfl (own_empty wq _ 4) rfl ?_)
        have HB1 := hideS (show Below w5.heap.size w5 ((wq.setCell ⟨w5.heap.size, 1, none⟩ (.slice (some ⟨wq.heap.size, 0, none⟩) 0 0)).alloc (.cells #[] 42)) from bupS (HT.out.2.2.2.2.2.setCell (by simp) _) (bel1S _ _))
        have HA2 := hideS ((HT.out.1.set1 (.slice (some ⟨wq.heap.size, 0, none⟩) 0 0)).keep (bel1S _ (.cells #[] 42)))
        generalize (wq.setCell ⟨w5.heap.size, 1, none⟩ (.slice (some ⟨wq.heap.size, 0, none⟩) 0 0)).alloc (.cells #[] 42) = W9 at *
        clear t0 t1 t2 t3 k0 k1 k2 k3
        have ⟨t0, t1, t2, t3⟩ := HA2.out.cells
        have HZ := hideS (HV.out.2.2.1.keep HB1.out)
        have ⟨k0, k1, k2, k3⟩ := HZ.out.cells
        have hz9 := HZ.out.lt
        go_wp2_with fail
        have ⟨m0, m1, _⟩ := (HZ.out.set (.string s) (.slice (some ⟨wq.heap.size, 0, none⟩) 0 0)).cells
        refine bodyPost_ret (v := .tuple #[.agg #[.string s, .slice (some ⟨wq.heap.size, 0, none⟩) 0 0], .int .i64 0]) (by simp [results, Tryz.results7, go_sem, m0, m1]) rfl ?_
        have hr := HRz.out
        rw [hd1] at hr
        subst hr
        exact ⟨some ⟨wq.heap.size, 0, none⟩, 0, rfl, ⟨Nat.le_refl _, Nat.zero_le _⟩, fun h => (nomatch h), SpO.nil _ _, (fun a h => by obtain rfl := Option.some.inj h; exact Nat.le_trans HV.out.1.size HT.out.2.2.2.2.2.size), ((bupS HV.out.1 HB1.out).setCell (by simp) _).setCell (by simp) _⟩
      | some a =>
        have HFl := hideS HT.out.2.2.2.1.flat
        have HBk : Hid (∀ j u, (flat4 D)[j]? = some u → (a.add j).block < wq.heap.size) := hideS fun j u hj => by
          obtain ⟨p, hp, _⟩ := flat4_cell hj
          obtain ⟨a', ha, hb, _⟩ := HT.out.2.2.2.1 _ p hp
          obtain rfl : a = a' := by simpa using ha
          rw [addrS_block]
          exact hb
        have HO := hideS (flat4_one D)
        have HL : Hid ((flat4 D).length = N * 4) := hideS (by rw [flat4_len, HNj.out])
        go_upto_region 35 with (at_builtin; refine wpList_append_spW rfl _ _ 22 rfl wq.heap.size 42 i0 (.agg #[.int .i64 0, .int .i64 0, .int .i64 0, .int .i64 0]) 4 32 Tryz.underlying22 hi hz0 hz1 hz2' rfl (by decide) _ rfl (own_empty wq _ 4) a N cap (flat4 D) rfl HL.out (fun j u hj => (Below.cell (bel1S wq _) (HBk.out j u hj)).trans (HFl.out j u hj)) HO.out (by unfold maxLen; omega) (by omega) (by simp) ?_; intro o9 c9 w6 hown' hgrow; have B6 : Hid (Below wq.heap.size wq w6) := hideS (Below.grown (bel1S wq (.cells #[] 42)) hgrow (by simp) (fun j hj => by cases hj; exact Nat.le_refl _)); have O6 := hideS hown'; clear hown' hgrow; have ⟨k0, k1, k2, k3⟩ := (HT.out.1.keep B6.out).cells)
        have O7 := O6.out
        obtain ⟨o9', c9', he9, r1, r2, r3⟩ := own_readB O7 HNj.out
        obtain ⟨rfl, -, rfl⟩ : o9 = o9' ∧ N = N ∧ c9 = c9' := by injection he9 with h1 h2 h3; exact ⟨h1, rfl, h3⟩
        have HB1 := hideS (show Below w5.heap.size w5 (w6.setCell ⟨w5.heap.size, 1, none⟩ (.slice o9 N c9)) from (bupS HT.out.2.2.2.2.2 B6.out).setCell (by simp) _)
        have HA2 := hideS ((HT.out.1.keep B6.out).set1 (.slice o9 N c9))
        have HS2 := hideS (show SpO (w6.setCell ⟨w5.heap.size, 1, none⟩ (.slice o9 N c9)) o9 D ∧ (N ≤ c9 ∧ c9 ≤ maxLen) ∧ (o9 = none → D = [] ∧ c9 = 0) ∧ ∀ a, o9 = some a → wq.heap.size ≤ a.block from ⟨r2.setW (fun a ha => by have := r3 a ha; omega), r1, fun h => ⟨List.length_eq_zero_iff.1 (by rw [HNj.out]; exact (own_noneW O7 h).1), (own_noneW O7 h).2⟩, r3⟩)
        generalize w6.setCell ⟨w5.heap.size, 1, none⟩ (.slice o9 N c9) = W9 at *
        clear t0 t1 t2 t3 k0 k1 k2 k3 O6 O7 r1 r2 r3
        have ⟨t0, t1, t2, t3⟩ := HA2.out.cells
        have HZ := hideS (HV.out.2.2.1.keep HB1.out)
        have ⟨k0, k1, k2, k3⟩ := HZ.out.cells
        have hz9 := HZ.out.lt
        have hrb : w.heap.size + 1 < w5.heap.size := HV.out.2.2.1.lt
        go_wp2_with fail
        have ⟨m0, m1, _⟩ := (HZ.out.set (.string s) (.slice o9 N c9)).cells
        refine bodyPost_ret (v := .tuple #[.agg #[.string s, .slice o9 N c9], .int .i64 0]) (by simp [results, Tryz.results7, go_sem, m0, m1]) rfl ?_
        have hr := HRz.out
        subst hr
        have hne : ∀ a, o9 = some a → a.block ≠ w.heap.size + 1 := fun a ha => by have := HS2.out.2.2.2 a ha; omega
        exact ⟨o9, c9, by simp only [HNj.out], by simp only [HNj.out]; exact HS2.out.2.1, HS2.out.2.2.1, (HS2.out.1.setW hne).setW hne, (fun a h => Nat.le_trans (Nat.le_trans HV.out.1.size HT.out.2.2.2.2.2.size) (HS2.out.2.2.2 a h)), ((bupS HV.out.1 HB1.out).setCell (by simp) _).setCell (by simp) _⟩
    | succ i =>
      obtain rfl : i = 0 := by omega
      have HLi := hideS (line_nil oa ca)
      go_wp2_with fail
      refine (HLi.out _).mono ?_
      rintro e w6 ⟨rfl, b6⟩
      have H6 := hideS (HT.out.keep b6)
      clear b6
      go_wp2_with fail
      go_roundw
      case rel => exact ⟨0, by simp, by omega, H6.out⟩
      case measure => simp [intOf] <;> omega
end Go.Proofs.YtlkgnheccoodpaaGreatDoor
namespace Go.Proofs.YtlkgnheccoodpaaGreatDoor
open Go.RowKit Go.Shelf

theorem rd_fr {D : Tb} {ws : List Nat} (h : Rd D 0 ws) (i : Nat) (hi : i ≤ ws.length) : frI ws i ≤ toI ws D.n i := by
  unfold toI
  by_cases h1 : i < ws.length
  · rw [if_pos h1]
    have h2 := (rd_at h i _ (getD_some (d := 0) h1)).1
    exact Nat.le_of_lt h2
  · rw [if_neg h1]
    unfold frI
    by_cases h2 : i = 0
    · rw [if_pos h2]; omega
    · rw [if_neg h2]
      exact (rd_at h (i - 1) _ (getD_some (d := 0) (by omega))).2.2
theorem rtext_any (s : ByteArray) (D : List Sp) (o : Option Addr) (cap : Nat) (wd : Int) (hc : D.length ≤ cap ∧ cap ≤ maxLen) (hn : o = none → D = [] ∧ cap = 0) (w : World) (hR : SpO w o D) :
    Calls Tryz.prog 7 #[.agg #[.string s, .slice o D.length cap], .int .i64 wd] w (TxAns w (wtxM s D wd)) := by
  have HCk := fun W (h : Below w.heap.size w W) => rcheck_any s D o cap W (hR.keep h)
  have HWc := fun W => rcheckW_any s wd W
  unfold wtxM
  by_cases h1 : chkT s D = 0
  · rw [if_neg (by simpa using h1)]
    obtain ⟨hs4, hD4⟩ := chkT_ok h1
    by_cases h2 : wcheckI s.size wd = 0
    · rw [if_neg (by simpa using h2)]
      have hwd : 2 ≤ wd ∧ wd ≤ 200 := by
        unfold wcheckI at h2
        by_cases h3 : wd < 2 ∨ 200 < wd
        · rw [if_pos h3] at h2; omega
        · omega
      obtain ⟨_, _, _, _, way, x, a5, a6, _⟩ := wrapW_all s hs4 wd hwd
      obtain ⟨ws, f1, f2, f3, _, f5⟩ := least_rd s hs4 wd hwd way x a5
      obtain ⟨hx, _⟩ := best_all s hs4 wd hwd way x a5
      have hpl := piecesL_len s
      have hlw : way.length = ws.length := by rw [f1, List.length_map]
      rw [a5, f1, hx]
      by_cases h0 : 0 < (clusters s).length
      · have hle : ∀ i, i ≤ ws.length → frI ws i ≤ toI ws (piecesL s).length i := fun i hi => rd_fr f5 i hi
        rw [← fold_all s wd h0 ws f5 hle s D]
        exact rtext_some s hs4 (by omega) D o D.length cap rfl hD4 hc hn h1 wd hwd ws (by omega) f3 (by rw [hpl]; exact f2) hle (fun g cap hc U hU => table_some (piecesL s) g cap (by omega) (by rw [piecesL_len]; have := clusters_length s; omega) hc (pieces_ce s) wd hwd U hU) w hR
      · have hz : (clusters s).length = 0 := by omega
        have ew : ws = [] := by
          cases ws with
          | nil => rfl
          | cons t l => have := f2 t (List.mem_cons_self ..); omega
        subst ew
        have hl : layM (fnS s) s D = (0, s, D) := by
          have hfn : fnS s = stpAt (partsL s) 0 0 := by unfold fnS; rw [partsL_len, hz]
          rw [hfn]
          unfold layM layI stpAt
          have e0 : stopE 0 0 = 0 := rfl
          rw [e0]
          unfold stripB
          rw [if_neg (show ¬ (0:Int) = 1 by decide), if_neg (show ¬ ((0:Int) = 2 ∨ (0:Int) = 3) by decide), if_pos rfl]
        have hll : layL ([].map (stp s) ++ [fnS s]).reverse s D = (0, s, D) := by
          show layL [fnS s] s D = _
          unfold layL
          rw [hl, if_pos rfl]
          rfl
        rw [hll]
        exact rtext_nil s hs4 (by omega) D o D.length cap rfl hD4 hc hn h1 wd hwd w hR
    · rw [if_pos h2]
      rw [h1] at HCk
      exact rtext_bad s o D.length cap wd 0 _ _ (.inr ⟨rfl, h2, rfl⟩) w HCk HWc
  · rw [if_pos h1]
    exact rtext_bad s o D.length cap wd _ _ _ (.inl ⟨h1, rfl⟩) w HCk HWc
end Go.Proofs.YtlkgnheccoodpaaGreatDoor
namespace Go.Proofs.YtlkgnheccoodpaaGreatDoor
open Go.RowKit Go.Shelf
attribute [local go_sem] Oper.semAt_some

set_option maxRecDepth 100000 in
set_option maxHeartbeats 4000000 in
theorem wtexts_some (s : ByteArray) (D : List Sp) (oa : Option Addr) (ca : Nat) (wd : Int) (hs : s.size ≤ 140737488355328) (h3 : D.length ≤ 300) (hc : D.length ≤ ca ∧ ca ≤ maxLen) (hna : oa = none → D = [] ∧ ca = 0) (T : Nat) (w : World) (hT : Tabs T w) (hw : 4 ≤ w.heap.size) (hU : Lib.Utf8Tabs 2 3 w) (hRa : SpO w oa D) :
    Calls Tryz.prog 3 #[.agg #[.string s, .slice oa D.length ca], .int .i64 wd] w fun e w' => e = .returned (.bool true) ∧ Below w.heap.size w w' := by
  have hl : D.length ≤ 4398046510976 := by omega
  have HLd := hideS (fun (W : World) (h : Below w.heap.size w W) => lend_any7 s D oa ca hl hna W (hRa.keep h))
  have HCk := hideS (fun (W : World) (h : Below w.heap.size w W) (g c : Nat) (hc : D.length ≤ c ∧ c ≤ maxLen) (hR : SpO W (some ⟨g, 0, none⟩) D) => wtext_any s D (some ⟨g, 0, none⟩) c wd hs hc (fun e => nomatch e) T W (hT.below h) (Nat.le_trans hw h.size) (tabs_below hw hU h) hR)
  have HRc := hideS (fun (W : World) (hR : SpO W oa D) => rtext_any s D oa ca wd hc hna W hR)
  have HBk := hideS (fun (W : World) (g c B : Nat) (hR : SpO W oa D) (hO : W.ownsRow B 42 4 (.slice (some ⟨g, 0, none⟩) (D.length + 1) c) (D.length + 1) (flat4 (D ++ [mkS]))) => back_any7 s s D oa ca g c B hl W hR hO)
  have HFs := hideS (fun (W : World) (B g c : Nat) (h : W.ownsRow B 42 4 (.slice (some ⟨g, 0, none⟩) (D.length + 1) c) (D.length + 1) (flat4 (D ++ [mkS]))) => front_spoB h rfl)
  obtain ⟨N, hN⟩ : ∃ N, D.length = N := ⟨_, rfl⟩
  obtain ⟨R, hR⟩ : ∃ R, wtxM s D wd = R := ⟨_, rfl⟩
  obtain ⟨er, ss, LS⟩ := R
  rw [hN] at HLd HCk HRc HBk HFs h3 ⊢
  rw [hR] at HCk HRc
  obtain ⟨M, hM⟩ : ∃ M, LS.length = M := ⟨_, rfl⟩
  have HM := hideS hM
  unfold TxAns at HCk HRc
  simp only [hM] at HCk HRc
  have HX := hideS (And.intro hRa hT)
  have h3' : ¬ (300 : Int) < (N : Int) := by omega
  clear hRa hT hU hN hR hna hM hl
  obtain ⟨V, hV⟩ : ∃ V, w.alloc (.cells #[.string s, .slice oa N ca] 24) = V := ⟨_, rfl⟩
  have t0 : Tx V w.heap.size (.string s) (.slice oa N ca) := by rw [← hV]; exact Tx.new w _ _
  have bV : Below w.heap.size w V := by rw [← hV]; exact bel1S _ _
  have HV := hideS (And.intro t0 bV)
  obtain ⟨k0, k1, _, _⟩ := t0.cells
  clear t0 bV
  go_enter Tryz.func3, Tryz.ntmps3
  go_wp2_with fail
  try rw [hV]
  clear hV k0 k1
  refine (HLd.out V HV.out.2).mono ?_
  rintro e w1 ⟨g, c, rfl, own1, b1⟩
  have h1f := HFs.out w1 _ g c own1
  obtain ⟨W2, hW2⟩ : ∃ W2, w1.alloc (.cells #[.string s, .slice (some ⟨g, 0, none⟩) N c] 24) = W2 := ⟨_, rfl⟩
  have b12 : Below w1.heap.size w1 W2 := by rw [← hW2]; exact bel1S _ _
  have tm : Tx W2 w1.heap.size (.string s) (.slice (some ⟨g, 0, none⟩) N c) := by rw [← hW2]; exact Tx.new w1 _ _
  have H2 := hideS (show Tx W2 w1.heap.size (.string s) (.slice (some ⟨g, 0, none⟩) N c) ∧ Tx W2 w.heap.size (.string s) (.slice oa N ca) ∧ W2.ownsRow V.heap.size 42 4 (.slice (some ⟨g, 0, none⟩) (N + 1) c) (N + 1) (flat4 (D ++ [mkS])) ∧ Below w.heap.size w W2 from ⟨tm, (HV.out.1.keep b1).keep b12, own_keepS own1 b12, bupS (bupS HV.out.2 b1) b12⟩)
  have hgV : V.heap.size ≤ g := h1f.2.1
  have hg1 : g < w1.heap.size := own_ltB own1
  have s12 := b12.size
  have HC2 := hideS (HCk.out W2 H2.out.2.2.2 g c h1f.2.2 (h1f.1.keep b12))
  obtain ⟨m0, m1, _, _⟩ := tm.cells
  have hlm : w1.heap.size < W2.heap.size := tm.lt
  clear tm b12 own1 b1 h1f HLd HCk HFs
  go_wp2_with fail
  try rw [hW2]
  clear hW2 m0 m1
  refine HC2.out.mono ?_
  rintro e w3 ⟨ox, cx, rfl, hcx, -, hSx, hox, b3⟩
  have H3 := hideS (show Tx w3 w1.heap.size (.string s) (.slice (some ⟨g, 0, none⟩) N c) ∧ Tx w3 w.heap.size (.string s) (.slice oa N ca) ∧ w3.ownsRow V.heap.size 42 4 (.slice (some ⟨g, 0, none⟩) (N + 1) c) (N + 1) (flat4 (D ++ [mkS])) ∧ SpO w3 ox LS ∧ Below w.heap.size w w3 from ⟨H2.out.1.keep b3, H2.out.2.1.keep b3, own_keepS H2.out.2.2.1 b3, hSx, bupS H2.out.2.2.2 b3⟩)
  have s13 : w1.heap.size ≤ w3.heap.size := Nat.le_trans s12 b3.size
  have gx : ∀ ad, ox = some ad → ¬ ad.block = g := fun ad h => by have := hox ad h; omega
  have HGX := hideS gx
  clear H2 b3 HC2 hSx hox gx
  go_upto_region 5 with fail
  obtain ⟨W5, hW5⟩ : ∃ W5, w3.alloc (.cells #[.string ss, .slice ox M cx] 24) = W5 := ⟨_, rfl⟩
  have b45 : Below w3.heap.size w3 W5 := by rw [← hW5]; exact bel1S _ _
  have tp : Tx W5 w3.heap.size (.string ss) (.slice ox M cx) := by rw [← hW5]; exact Tx.new w3 _ _
  have H5 := hideS (show Tx W5 w1.heap.size (.string s) (.slice (some ⟨g, 0, none⟩) N c) ∧ Tx W5 w.heap.size (.string s) (.slice oa N ca) ∧ W5.ownsRow V.heap.size 42 4 (.slice (some ⟨g, 0, none⟩) (N + 1) c) (N + 1) (flat4 (D ++ [mkS])) ∧ Tx W5 w3.heap.size (.string ss) (.slice ox M cx) ∧ SpO W5 ox LS ∧ Below w.heap.size w W5 from ⟨H3.out.1.keep b45, H3.out.2.1.keep b45, own_keepS H3.out.2.2.1 b45, tp, H3.out.2.2.2.1.keep b45, bupS H3.out.2.2.2.2 b45⟩)
  rw [hW5]
  have s15 : w1.heap.size ≤ W5.heap.size := Nat.le_trans s13 b45.size
  clear H3 b45 tp hW5
  obtain ⟨k0, k1, _, _⟩ := H5.out.2.1.cells
  have HR5 := hideS (HRc.out W5 (HX.out.1.keep H5.out.2.2.2.2.2))
  go_wp2_with fail
  refine HR5.out.mono ?_
  rintro e w6 ⟨oy, cy, rfl, hcy, -, hSy, hoy, b6⟩
  have s16 : w1.heap.size ≤ w6.heap.size := Nat.le_trans s15 b6.size
  have gy : ∀ ad, oy = some ad → ¬ ad.block = g := fun ad h => by have := hoy ad h; omega
  have HGY := hideS gy
  have HS6 := hideS (And.intro hSy b6)
  clear k0 k1 hSy hoy gy b6 HR5 HRc
  go_upto_region 6 with fail
  obtain ⟨W7, hW7⟩ : ∃ W7, w6.alloc (.cells #[.string ss, .slice oy M cy] 24) = W7 := ⟨_, rfl⟩
  have b67 : Below w6.heap.size w6 W7 := by rw [← hW7]; exact bel1S _ _
  have tq : Tx W7 w6.heap.size (.string ss) (.slice oy M cy) := by rw [← hW7]; exact Tx.new w6 _ _
  have H7 := hideS (show Tx W7 w1.heap.size (.string s) (.slice (some ⟨g, 0, none⟩) N c) ∧ Tx W7 w.heap.size (.string s) (.slice oa N ca) ∧ W7.ownsRow V.heap.size 42 4 (.slice (some ⟨g, 0, none⟩) (N + 1) c) (N + 1) (flat4 (D ++ [mkS])) ∧ Tx W7 w3.heap.size (.string ss) (.slice ox M cx) ∧ Tx W7 w6.heap.size (.string ss) (.slice oy M cy) ∧ SpO W7 ox LS ∧ SpO W7 oy LS ∧ Below w.heap.size w W7 from ⟨(H5.out.1.keep HS6.out.2).keep b67, (H5.out.2.1.keep HS6.out.2).keep b67, own_keepS (own_keepS H5.out.2.2.1 HS6.out.2) b67, (H5.out.2.2.2.1.keep HS6.out.2).keep b67, tq, (H5.out.2.2.2.2.1.keep HS6.out.2).keep b67, HS6.out.1.keep b67, bupS (bupS H5.out.2.2.2.2.2 HS6.out.2) b67⟩)
  rw [hW7]
  clear H5 HS6 b67 tq hW7
  obtain ⟨k0, k1, _, _⟩ := H7.out.1.cells
  obtain ⟨k2, k3, _, _⟩ := H7.out.2.1.cells
  have HB7 := hideS (HBk.out W7 g c V.heap.size (HX.out.1.keep H7.out.2.2.2.2.2.2.2) H7.out.2.2.1)
  go_wp2_with fail
  refine HB7.out.mono ?_
  rintro e w8 ⟨rfl, b8⟩
  have hgw : w.heap.size < g := by have := HV.out.1.lt; omega
  have H8 := hideS (show Tx w8 w3.heap.size (.string ss) (.slice ox M cx) ∧ Tx w8 w6.heap.size (.string ss) (.slice oy M cy) ∧ SpO w8 ox LS ∧ SpO w8 oy LS ∧ Below w.heap.size w w8 from ⟨H7.out.2.2.2.1.butB b8 (by omega), H7.out.2.2.2.2.1.butB b8 (by omega), H7.out.2.2.2.2.2.1.but b8 HGX.out, H7.out.2.2.2.2.2.2.1.but b8 HGY.out, H7.out.2.2.2.2.2.2.2.trans (b8.below H7.out.2.2.2.2.2.2.2.size (fun k e => by omega))⟩)
  clear H7 b8 HB7 HBk k0 k1 k2 k3
  obtain ⟨k0, k1, _, _⟩ := H8.out.1.cells
  obtain ⟨k2, k3, _, _⟩ := H8.out.2.1.cells
  have HSt := hideS (sametx_sp ss LS ox oy cx cy (by rw [HM.out]; exact hcx) w8 H8.out.2.2.1 H8.out.2.2.2.1)
  rw [HM.out] at HSt
  have hcc : (er == er) = true := by simp
  go_wp2_with fail
  refine HSt.out.mono ?_
  rintro e w10 ⟨rfl, b10⟩
  have H10 := hideS (bupS H8.out.2.2.2.2 b10)
  clear b10 HSt k0 k1 k2 k3 H8
  have HH := hideS (head10 T w10 (HX.out.2.below H10.out))
  go_wp2_with fail
  refine HH.out.mono ?_
  rintro e w11 ⟨rfl, b11⟩
  have H11 := hideS (bupS H10.out b11)
  clear b11
  go_wp2_with fail
  go_ret
  exact ⟨rfl, H11.out⟩
set_option maxRecDepth 100000 in
set_option maxHeartbeats 1000000 in
theorem wtexts_many (s : ByteArray) (N : Nat) (h3 : 300 < N) (oa : Option Addr) (ca : Nat) (wd : Int) (T : Nat) (w : World) (hT : Tabs T w) :
    Calls Tryz.prog 3 #[.agg #[.string s, .slice oa N ca], .int .i64 wd] w fun e w' => e = .returned (.bool true) ∧ Below w.heap.size w w' := by
  obtain ⟨V, hV⟩ : ∃ V, w.alloc (.cells #[.string s, .slice oa N ca] 24) = V := ⟨_, rfl⟩
  have t0 : Tx V w.heap.size (.string s) (.slice oa N ca) := by rw [← hV]; exact Tx.new w _ _
  have bV : Below w.heap.size w V := by rw [← hV]; exact bel1S _ _
  have HV := hideS bV
  obtain ⟨k0, k1, _, _⟩ := t0.cells
  have HH := hideS (head10 T V (hT.below bV))
  have h3' : (300 : Int) < (N : Int) := by omega
  clear t0 bV
  go_enter Tryz.func3, Tryz.ntmps3
  go_wp2_with fail
  try rw [hV]
  clear hV k0 k1
  refine HH.out.mono ?_
  rintro e w1 ⟨rfl, b1⟩
  have H1 := hideS (bupS HV.out b1)
  clear b1
  go_wp2_with fail
  go_ret
  exact ⟨rfl, H1.out⟩
theorem wtexts_walk (s : ByteArray) (D : List Sp) (oa : Option Addr) (ca : Nat) (wd : Int) (hs : s.size ≤ 140737488355328) (hc : D.length ≤ ca ∧ ca ≤ maxLen) (hna : oa = none → D = [] ∧ ca = 0) (T : Nat) (w : World) (hT : Tabs T w) (hw : 4 ≤ w.heap.size) (hU : Lib.Utf8Tabs 2 3 w) (hRa : SpO w oa D) :
    Calls Tryz.prog 3 #[.agg #[.string s, .slice oa D.length ca], .int .i64 wd] w fun e w' => e = .returned (.bool true) ∧ Below w.heap.size w w' := by
  by_cases h3 : D.length ≤ 300
  · exact wtexts_some s D oa ca wd hs h3 hc hna T w hT hw hU hRa
  · exact wtexts_many s D.length (by omega) oa ca wd T w hT
end Go.Proofs.YtlkgnheccoodpaaGreatDoor
