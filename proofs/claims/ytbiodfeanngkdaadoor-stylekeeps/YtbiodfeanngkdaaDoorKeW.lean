/- StyleKeeps (P0708, P0712, P0713): the walk. -/
import Derived.Test.YtbiodfeanngkdaaDoorGK
import Derived.Test.YtbiodfeanngkdaaDoorKeR
import Derived.Test.YtbiodfeanngkdaaDoorGN
namespace Go.Proofs.YtbiodfeanngkdaaDoor
open Go.RowKit Go.Shelf
attribute [local go_sem] Oper.semAt_some

theorem own_noneK {W : World} {base n c : Nat} {e : TypeId} {size : Nat} {o : Option Addr} {xs : List Value} (h : W.ownsRow base e size (.slice o n c) n xs) (ho : o = none) : n = 0 ∧ c = 0 := by
  subst ho
  rcases h.2 with ⟨q, _⟩ | ⟨g, cap, cur, q, _⟩
  · simp at q
    omega
  · simp at q
theorem go_allK {s : ByteArray} {D : List Sp} (hb : chkT s D = 0) : goA s D = alls D (signs s).length := by unfold goA; rw [if_pos hb]
theorem lookK_any (s : ByteArray) (D : List Sp) (oa : Option Addr) (ca : Nat) (hs : s.size ≤ 140737488355328) (hca : D.length ≤ ca ∧ ca ≤ maxLen) (hna : oa = none → D = [] ∧ ca = 0) (w : World) (hRa : SpO w oa D) :
    Calls Tryd.prog 6 #[.agg #[.string s, .slice oa D.length ca]] w fun e w' => ∃ o c, e = .returned (.slice o (goA s D).length c) ∧ ((goA s D).length ≤ c ∧ c ≤ maxLen) ∧ (o = none → (goA s D).length = 0 ∧ c = 0) ∧ AtO w' o (goA s D) ∧ Below w.heap.size w w' := by
  refine (looks7_any s D oa ca hs hca hna w hRa).mono ?_
  rintro e w1 ⟨v, B, rfl, hB, own, b⟩
  obtain ⟨o, c, rfl, hc, hA⟩ := at_of_own own
  exact ⟨o, c, rfl, hc, fun h => own_noneK own h, hA, b⟩
theorem atc_newK (w : World) (a : At) : AtC (w.alloc (.cells #[.bool a.b, .bool a.i, .bool a.u, .bool a.s, .int .i64 a.c] 38)) w.heap.size a := World.alloc_heap_new w _
theorem AtO.takeAny {W : World} {o : Option Addr} {L : List At} (h : AtO W o L) (k : Nat) : AtO W o (L.take k) := fun i r hr => by
  rw [List.getElem?_take] at hr
  by_cases hk : i < k
  · rw [if_pos hk] at hr
    exact h i r hr
  · rw [if_neg hk] at hr
    cases hr
/-- Where a row begins that is sliced from a place on. -/
def slF (o : Option Addr) (c k : Nat) : Option Addr := match o with
  | none => none
  | some a => if c = k then some a else some (a.add (k * 5))
theorem AtO.dropAny {W : World} {o : Option Addr} {L : List At} {c : Nat} (h : AtO W o L) (hc : L.length ≤ c) (k : Nat) : AtO W (slF o c k) (L.drop k) := by
  cases o with
  | none =>
    have e : L = [] := by
      cases L with
      | nil => rfl
      | cons r L =>
        obtain ⟨a, ha, _⟩ := h 0 r rfl
        cases ha
    subst e
    rw [List.drop_nil]
    exact AtO.nil _ _
  | some a => exact h.back hc k _ rfl
set_option maxRecDepth 100000 in
set_option maxHeartbeats 16000000 in
theorem skeeps_walk (s : ByteArray) (D : List Sp) (oa : Option Addr) (ca : Nat) (p q : Int) (u : ByteArray) (E : List Sp) (ob : Option Addr) (cb : Nat) (hs : s.size ≤ 140737488355328) (hu : u.size ≤ 140737488355328) (hca : D.length ≤ ca ∧ ca ≤ maxLen) (hcb : E.length ≤ cb ∧ cb ≤ maxLen) (hna : oa = none → D = [] ∧ ca = 0) (hnb : ob = none → E = [] ∧ cb = 0) (w : World) (hw : 2 ≤ w.heap.size) (hT : Lib.Utf8Tabs 0 1 w) (hRa : SpO w oa D) (hRb : SpO w ob E) :
    Calls Tryd.prog 3 #[.agg #[.string s, .slice oa D.length ca], .int .i64 p, .int .i64 q, .agg #[.string u, .slice ob E.length cb]] w fun e w' => e = .returned (.bool true) ∧ Below w.heap.size w w' := by
  have HC1 := hideS (fun (W : World) (h : Below w.heap.size w W) => check7_any s D oa ca hs hca hna W (hRa.keep h))
  have HC2 := hideS (fun (W : World) (h : Below w.heap.size w W) => check7_any u E ob cb hu hcb hnb W (hRb.keep h))
  have HL1 := hideS (fun (W : World) (h : Below w.heap.size w W) => lookK_any s D oa ca hs hca hna W (hRa.keep h))
  have HL2 := hideS (fun (W : World) (h : Below w.heap.size w W) => lookK_any u E ob cb hu hcb hnb W (hRb.keep h))
  have HSp := hideS (fun (a b : Int) (W : World) (h : Below w.heap.size w W) => splice_any s u D E oa ob ca cb a b hs hu hca hcb hna hnb W (Nat.le_trans hw h.size) (tabs_below hw hT h) (hRa.keep h) (hRb.keep h))
  have HCu := hideS (fun (i j : Nat) (h1 : i ≤ j) (h2 : j ≤ (signs s).length) (W : World) => cutS_any s hs i j (bAt s i) (bAt s j) h1 h2 (bAt_eq s i (by omega)).1 (bAt_eq s j h2).1 (bAt_mono s i j h1 h2) (bAt_eq s j h2).2 W)
  have HMe := hideS (fun (x y : ByteArray) (hx : x.size ≤ 140737488355328) (hy : y.size ≤ 140737488355328) (W : World) (h : Below w.heap.size w W) => melts_any x y W hx hy (Nat.le_trans hw h.size) (tabs_below hw hT h))
  have HAr := hideS (fun (f t : Int) (hl : D.length ≤ 5000) (hk : ∀ x ∈ D, 1 ≤ x.kd ∧ x.kd ≤ 5) (W : World) (h : Below w.heap.size w W) => around7_any s D oa ca f t hl hk W (hRa.keep h))
  have HH := hideS (fun (Y : World) (h : Below w.heap.size w Y) => head7 Y (Nat.le_trans hw h.size) (tabs_below hw hT h))
  obtain ⟨N, hN⟩ : ∃ N, D.length = N := ⟨_, rfl⟩
  obtain ⟨NE, hNE⟩ : ∃ N, E.length = N := ⟨_, rfl⟩
  rw [hN] at HC1 HL1 HAr
  simp only [hN, hNE] at HSp
  rw [hNE] at HC2 HL2
  rw [hN, hNE]
  have HN := hideS (And.intro hN hNE)
  clear hRa hRb hT hN hNE hna hnb hca hcb
  obtain ⟨V, hV⟩ : ∃ V, (w.alloc (.cells #[.string s, .slice oa N ca] 24)).alloc (.cells #[.string u, .slice ob NE cb] 24) = V := ⟨_, rfl⟩
  have tt := hideS (show Tx V w.heap.size (.string s) (.slice oa N ca) ∧ Tx V (w.heap.size + 1) (.string u) (.slice ob NE cb) by
    rw [← hV]
    refine ⟨(Tx.new w _ _).keep (bel1S _ _), ?_⟩
    have h9 := Tx.new (w.alloc (.cells #[.string s, .slice oa N ca] 24)) (.string u) (.slice ob NE cb)
    rw [World.size_alloc] at h9
    exact h9)
  have T0 := hideS tt.out.1
  have TU := hideS tt.out.2
  have BB := hideS (show Below w.heap.size w V by rw [← hV]; exact bupS (bel1S _ _) (bel1S _ _))
  clear tt
  obtain ⟨k0, k1, -, -⟩ := T0.out.cells
  obtain ⟨k2, k3, -, -⟩ := TU.out.cells
  go_enter Tryd.func3, Tryd.ntmps3
  go_upto_region 1 with fail
  try rw [hV]
  clear hV
  go_wp2_with fail
  refine (HC1.out V BB.out).mono ?_
  rintro e w1 ⟨rfl, b1⟩
  replace T0 := hideS (T0.out.keep b1)
  replace TU := hideS (TU.out.keep b1)
  replace BB := hideS (bupS BB.out b1)
  clear b1 k0 k1 k2 k3
  by_cases hb1 : chkT s D = 0
  · skip
    rw [hb1]
    obtain ⟨k0, k1, -, -⟩ := TU.out.cells
    go_wp2_with fail
    refine (HC2.out w1 BB.out).mono ?_
    rintro e w2 ⟨rfl, b2⟩
    replace T0 := hideS (T0.out.keep b2)
    replace TU := hideS (TU.out.keep b2)
    replace BB := hideS (bupS BB.out b2)
    clear b2 k0 k1
    by_cases hb2 : chkT u E = 0
    · skip
      rw [hb2]
      obtain ⟨z1, z2⟩ := chkT_ok hb1
      obtain ⟨z3, z4⟩ := chkT_ok hb2
      rw [HN.out.1] at z2
      rw [HN.out.2] at z4
      have n4 := signs_le s
      have m4 := signs_le u
      have hk5 := fun x hx => ((chk_all hb1).1 x hx).2
      rw [go_allK hb1, alls_len] at HL1
      rw [go_allK hb2, alls_len] at HL2
      have hln := alls_len D (signs s).length
      have hlm := alls_len E (signs u).length
      obtain ⟨n, hn⟩ : ∃ n, (signs s).length = n := ⟨_, rfl⟩
      obtain ⟨m, hm⟩ : ∃ n, (signs u).length = n := ⟨_, rfl⟩
      rw [hn] at HL1 n4 HCu hln
      rw [hm] at HL2 m4 hlm
      obtain ⟨k0, k1, -, -⟩ := T0.out.cells
      go_wp2_with fail
      refine (HL1.out w2 BB.out).mono ?_
      rintro e w3 ⟨ol, cl, rfl, hcl, hnl, hAl, b3⟩
      replace T0 := hideS (T0.out.keep b3)
      replace TU := hideS (TU.out.keep b3)
      replace BB := hideS (bupS BB.out b3)
      have AL := hideS hAl
      clear k0 k1 b3 hAl HL1
      have ni := Int.emod_nonneg p (show (n : Int) + 1 ≠ 0 by omega)
      have nu := Int.emod_lt_of_pos p (show 0 < (n : Int) + 1 by omega)
      obtain ⟨f, hf⟩ : ∃ i : Nat, p % ((n : Int) + 1) = i := ⟨(p % ((n : Int) + 1)).toNat, by omega⟩
      have hfn : f ≤ n := by omega
      have mi := Int.emod_nonneg q (show (n : Int) - f + 1 ≠ 0 by omega)
      have mu := Int.emod_lt_of_pos q (show 0 < (n : Int) - f + 1 by omega)
      obtain ⟨d, hd⟩ : ∃ d : Nat, q % ((n : Int) - f + 1) = d := ⟨(q % ((n : Int) - f + 1)).toNat, by omega⟩
      obtain ⟨t, ht⟩ : ∃ j : Nat, f + d = j := ⟨_, rfl⟩
      have hft : f ≤ t ∧ t ≤ n := by omega
      have HW1 := hideS (fun (W : World) => within7_any p ((n : Int) + 1) ⟨by omega, by omega⟩ W)
      have HW2 := hideS (fun (W : World) => within7_any q ((n : Int) - f + 1) ⟨by omega, by omega⟩ W)
      rw [hf] at HW1
      rw [hd] at HW2
      have wr1 : IntKind.i64.wrap ((n : Int) + 1) = (n : Int) + 1 := IntWalk.i64_in _ ⟨by omega, by omega⟩
      have wr2 : IntKind.i64.wrap ((n : Int) - f) = (n : Int) - f := IntWalk.i64_in _ ⟨by omega, by omega⟩
      have wr3 : IntKind.i64.wrap ((n : Int) - f + 1) = (n : Int) - f + 1 := IntWalk.i64_in _ ⟨by omega, by omega⟩
      have wr4 : IntKind.i64.wrap ((f : Int) + d) = (t : Nat) := by rw [show (f : Int) + d = (t : Nat) by omega]; exact IntWalk.i64_in _ ⟨by omega, by omega⟩
      clear ni nu mi mu hf hd ht
      go_wp2_with fail
      refine (HW1.out w3).mono ?_
      rintro e w3' ⟨rfl, hq⟩
      obtain rfl : w3' = w3 := hq
      go_wp2_with fail
      refine (HW2.out w3').mono ?_
      rintro e w4 ⟨rfl, hq⟩
      obtain rfl : w4 = w3' := hq
      clear wr1 wr2 wr3 HW1 HW2
      have HSp1 := hideS (HSp.out f t w4 BB.out)
      obtain ⟨R, hR⟩ : ∃ R, splM s D f t u E = R := ⟨_, rfl⟩
      have hform := spl_form hb1 hb2 hft.1 (by rw [hn]; exact hft.2)
      rw [hR, hn, hm] at hform
      rw [hR] at HSp1
      obtain ⟨er, zs, LZ⟩ := R
      obtain ⟨M, hM⟩ : ∃ M, LZ.length = M := ⟨_, rfl⟩
      have HM := hideS hM
      unfold SplAns at HSp1
      simp only [hM] at HSp1
      have HF := hideS (And.intro hform (And.intro hb1 (And.intro hb2 (And.intro hn (And.intro hm (And.intro hk5 (And.intro hln hlm)))))))
      have HCu1 := hideS (HCu.out 0 f (by omega) (by omega))
      have HCu2 := hideS (HCu.out t n hft.2 (Nat.le_refl _))
      have hx4 : (cutM s 0 f).size ≤ 4096 := Nat.le_trans (cutM_size s 0 f) z1
      have hy4 : (cutM s t n).size ≤ 4096 := Nat.le_trans (cutM_size s t n) z1
      obtain ⟨x, hx⟩ : ∃ x, cutM s 0 f = x := ⟨_, rfl⟩
      obtain ⟨y, hy⟩ : ∃ y, cutM s t n = y := ⟨_, rfl⟩
      have HXY := hideS (And.intro hx hy)
      change Hid (∀ W : World, Calls Tryd.prog 9 #[.string s, .int .i64 2, .int .i64 0, .int .i64 (f : Nat)] W fun e w' => e = .returned (.tuple #[.string (cutM s 0 f), .int .i64 0]) ∧ Below W.heap.size W w') at HCu1
      change Hid (∀ W : World, Calls Tryd.prog 9 #[.string s, .int .i64 2, .int .i64 (t : Nat), .int .i64 (n : Nat)] W fun e w' => e = .returned (.tuple #[.string (cutM s t n), .int .i64 0]) ∧ Below W.heap.size W w') at HCu2
      rw [hx] at HCu1 hx4
      rw [hy] at HCu2 hy4
      clear hR hM hform hb1 hb2 hn hm hk5 HSp hx hy HCu hln hlm
      obtain ⟨k0, k1, -, -⟩ := T0.out.cells
      obtain ⟨k2, k3, -, -⟩ := TU.out.cells
      go_wp2_with fail
      refine (HSp1.out).mono ?_
      rintro e w5 ⟨v5, rfl, own5, b5⟩
      obtain ⟨o5, c5, rfl, hc5, hS5, -⟩ := own_readB own5 HM.out
      have hn5 := hideS (fun h => own_noneK own5 h)
      replace T0 := hideS (T0.out.keep b5)
      replace TU := hideS (TU.out.keep b5)
      replace BB := hideS (bupS BB.out b5)
      replace AL := hideS (AL.out.keep b5)
      obtain ⟨W5, hW5⟩ : ∃ W5, w5.alloc (.cells #[.string zs, .slice o5 M c5] 24) = W5 := ⟨_, rfl⟩
      have d5 : Below w5.heap.size w5 W5 := by rw [← hW5]; exact bel1S _ _
      replace T0 := hideS (T0.out.keep d5)
      replace TU := hideS (TU.out.keep d5)
      replace BB := hideS (bupS BB.out d5)
      replace AL := hideS (AL.out.keep d5)
      have T5 := hideS (show Tx W5 w5.heap.size (.string zs) (.slice o5 M c5) by rw [← hW5]; exact Tx.new w5 _ _)
      have S5 := hideS (hS5.keep d5)
      clear own5 b5 d5 hS5 k0 k1 k2 k3 HSp1
      go_upto_region 7 with fail
      try rw [hW5]
      clear hW5
      obtain ⟨k0, k1, -, -⟩ := T0.out.cells
      go_wp2_with fail
      refine (HCu1.out W5).mono ?_
      rintro e w6 ⟨rfl, b6⟩
      replace T0 := hideS (T0.out.keep b6)
      replace TU := hideS (TU.out.keep b6)
      replace BB := hideS (bupS BB.out b6)
      replace AL := hideS (AL.out.keep b6)
      replace T5 := hideS (T5.out.keep b6)
      replace S5 := hideS (S5.out.keep b6)
      clear b6 k0 k1 HCu1
      obtain ⟨k0, k1, -, -⟩ := T0.out.cells
      go_wp2_with fail
      refine (HCu2.out w6).mono ?_
      rintro e w7 ⟨rfl, b7⟩
      replace T0 := hideS (T0.out.keep b7)
      replace TU := hideS (TU.out.keep b7)
      replace BB := hideS (bupS BB.out b7)
      replace AL := hideS (AL.out.keep b7)
      replace T5 := hideS (T5.out.keep b7)
      replace S5 := hideS (S5.out.keep b7)
      clear b7 k0 k1 HCu2
      obtain ⟨k0, k1, -, -⟩ := TU.out.cells
      obtain ⟨k2, k3, -, -⟩ := T0.out.cells
      obtain ⟨k4, k5, -, -⟩ := T5.out.cells
      have hz1 : ¬ 9223372036854775807 < x.size + u.size := by omega
      have hz2 : ¬ 9223372036854775807 < x.size + u.size + y.size := by omega
      have hzz : (x ++ u ++ y).size = x.size + u.size + y.size := by rw [ByteArray.size_append, ByteArray.size_append]
      have HZ := hideS hzz
      have hform := HF.out.1
      rw [HXY.out.1, HXY.out.2] at hform
      rw [hzz] at hform
      clear hzz
      by_cases g1 : 4096 < x.size + u.size + y.size
      · rw [if_pos g1] at hform
        obtain ⟨rfl, hform⟩ := Prod.mk.inj hform
        have d1 : (4096 : Int) < ((x.size + u.size + y.size : Nat) : Int) := by omega
        have d1' : (4096 : Int) < (x.size : Int) + (u.size : Int) + (y.size : Int) := by omega
        go_wp2_with fail
        refine (HH.out w7 BB.out).mono ?_
        rintro e whA ⟨rfl, bhA⟩
        replace T0 := hideS (T0.out.keep bhA)
        replace TU := hideS (TU.out.keep bhA)
        replace BB := hideS (bupS BB.out bhA)
        replace AL := hideS (AL.out.keep bhA)
        replace T5 := hideS (T5.out.keep bhA)
        replace S5 := hideS (S5.out.keep bhA)
        clear bhA 
        go_wp2_with fail
        go_ret
        exact ⟨rfl, BB.out⟩
      rw [if_neg g1] at hform
      have d1 : ¬ (4096 : Int) < ((x.size + u.size + y.size : Nat) : Int) := by omega
      have d1' : ¬ (4096 : Int) < (x.size : Int) + (u.size : Int) + (y.size : Int) := by omega
      have HM1 := hideS (HMe.out x u (by omega) (by omega) w7 BB.out)
      obtain ⟨b1, hb1⟩ : ∃ b, meltsB x u = b := ⟨_, rfl⟩
      rw [hb1] at HM1 hform
      go_wp2_with fail
      refine HM1.out.mono ?_
      rintro e w8 ⟨rfl, b8⟩
      replace T0 := hideS (T0.out.keep b8)
      replace TU := hideS (TU.out.keep b8)
      replace BB := hideS (bupS BB.out b8)
      replace AL := hideS (AL.out.keep b8)
      replace T5 := hideS (T5.out.keep b8)
      replace S5 := hideS (S5.out.keep b8)
      clear b8 HM1 k0 k1 k2 k3 k4 k5
      obtain ⟨k0, k1, -, -⟩ := TU.out.cells
      obtain ⟨k2, k3, -, -⟩ := T0.out.cells
      obtain ⟨k4, k5, -, -⟩ := T5.out.cells
      cases b1 with
      | true =>
        rw [if_pos rfl] at hform
        obtain ⟨rfl, hform⟩ := Prod.mk.inj hform
        go_wp2_with fail
        refine (HH.out w8 BB.out).mono ?_
        rintro e whB ⟨rfl, bhB⟩
        replace T0 := hideS (T0.out.keep bhB)
        replace TU := hideS (TU.out.keep bhB)
        replace BB := hideS (bupS BB.out bhB)
        replace AL := hideS (AL.out.keep bhB)
        replace T5 := hideS (T5.out.keep bhB)
        replace S5 := hideS (S5.out.keep bhB)
        clear bhB 
        go_wp2_with fail
        go_ret
        exact ⟨rfl, BB.out⟩
      | false =>
        rw [if_neg (by simp)] at hform
        have HM2 := hideS (HMe.out (x ++ u) y (by rw [ByteArray.size_append]; omega) (by omega) w8 BB.out)
        obtain ⟨b2, hb2⟩ : ∃ b, meltsB (x ++ u) y = b := ⟨_, rfl⟩
        rw [hb2] at HM2 hform
        go_wp2_with fail
        refine HM2.out.mono ?_
        rintro e w9 ⟨rfl, b9⟩
        replace T0 := hideS (T0.out.keep b9)
        replace TU := hideS (TU.out.keep b9)
        replace BB := hideS (bupS BB.out b9)
        replace AL := hideS (AL.out.keep b9)
        replace T5 := hideS (T5.out.keep b9)
        replace S5 := hideS (S5.out.keep b9)
        clear b9 HM2 k0 k1 k2 k3 k4 k5
        obtain ⟨k0, k1, -, -⟩ := TU.out.cells
        obtain ⟨k2, k3, -, -⟩ := T0.out.cells
        obtain ⟨k4, k5, -, -⟩ := T5.out.cells
        cases b2 with
        | true =>
          rw [if_pos rfl] at hform
          obtain ⟨rfl, hform⟩ := Prod.mk.inj hform
          go_wp2_with fail
          refine (HH.out w9 BB.out).mono ?_
          rintro e whC ⟨rfl, bhC⟩
          replace T0 := hideS (T0.out.keep bhC)
          replace TU := hideS (TU.out.keep bhC)
          replace BB := hideS (bupS BB.out bhC)
          replace AL := hideS (AL.out.keep bhC)
          replace T5 := hideS (T5.out.keep bhC)
          replace S5 := hideS (S5.out.keep bhC)
          clear bhC 
          go_wp2_with fail
          go_ret
          exact ⟨rfl, BB.out⟩
        | false =>
          rw [if_neg (by simp)] at hform
          by_cases g2 : 256 < (spZ D f t m E).length
          · rw [if_pos g2] at hform
            obtain ⟨rfl, hf2⟩ := Prod.mk.inj hform
            obtain ⟨-, rfl⟩ := Prod.mk.inj hf2
            obtain rfl : 0 = M := HM.out
            have hsum : 256 < N + NE := by have := spZ_len D f t m E; rw [HN.out.1, HN.out.2] at this; omega
            have d2 : (256 : Int) < (N : Int) + (NE : Int) := by omega
            have wr5 : IntKind.i64.wrap ((N : Int) + (NE : Int)) = (N : Int) + (NE : Int) := IntWalk.i64_in _ ⟨by omega, by omega⟩
            go_wp2_with fail
            refine (HH.out w9 BB.out).mono ?_
            rintro e whD ⟨rfl, bhD⟩
            replace T0 := hideS (T0.out.keep bhD)
            replace TU := hideS (TU.out.keep bhD)
            replace BB := hideS (bupS BB.out bhD)
            replace AL := hideS (AL.out.keep bhD)
            replace T5 := hideS (T5.out.keep bhD)
            replace S5 := hideS (S5.out.keep bhD)
            clear bhD 
            go_wp2_with fail
            go_ret
            exact ⟨rfl, BB.out⟩
          rw [if_neg g2] at hform
          obtain ⟨rfl, hf2⟩ := Prod.mk.inj hform
          obtain ⟨hzs, hLZ⟩ := Prod.mk.inj hf2
          clear hf2 hform
          subst hzs
          obtain ⟨-, j1, j2, j3, j4, j5, j6, j7⟩ := HF.out
          obtain ⟨r1, r2⟩ := spl_right j1 j2 hft.1 (by rw [j3]; exact hft.2) (by rw [HXY.out.1]; exact hb1) (by rw [j3, HXY.out.1, HXY.out.2]; exact hb2) (by rw [j3, HXY.out.1, HXY.out.2, HZ.out]; omega) (by rw [j4]; omega)
          rw [j3, j4, HXY.out.1, HXY.out.2] at r1 r2
          rw [← hLZ] at r2
          obtain ⟨p1, p2, p3⟩ := spl_all j1 j2 hft.1 hft.2 j3 j4
          rw [← hLZ] at p1 p2 p3
          have hzl : (x ++ u ++ y).size ≤ 140737488355328 := by rw [HZ.out]; omega
          have hnz : o5 = none → LZ = [] ∧ c5 = 0 := fun h => ⟨List.length_eq_zero_iff.1 (by rw [HM.out]; exact (hn5.out h).1), (hn5.out h).2⟩
          have HC5 := hideS (fun (W : World) (hR : SpO W o5 LZ) => check7_any (x ++ u ++ y) LZ o5 c5 hzl (by rw [HM.out]; exact hc5) hnz W hR)
          have HL5 := hideS (fun (W : World) (hR : SpO W o5 LZ) => lookK_any (x ++ u ++ y) LZ o5 c5 hzl (by rw [HM.out]; exact hc5) hnz W hR)
          rw [r2, HM.out] at HC5
          rw [go_allK r2, alls_len, r1, HM.out] at HL5
          have hlz := alls_len LZ (f + m + (n - t))
          obtain ⟨LN, hLN⟩ : ∃ L, alls LZ (f + m + (n - t)) = L := ⟨_, rfl⟩
          rw [hLN] at HL5 p1 p2 p3 hlz
          obtain ⟨LA, hLA⟩ : ∃ L, alls D n = L := ⟨_, rfl⟩
          obtain ⟨LE, hLE⟩ : ∃ L, alls E m = L := ⟨_, rfl⟩
          rw [hLA] at p1 p2 AL j6
          rw [hLE] at p3 HL2 j7
          have HAr1 := hideS (HAr.out f t (by omega) j5)
          obtain ⟨ba, hba⟩ : ∃ b, arnd D f t = b := ⟨_, rfl⟩
          rw [hba] at p3 HAr1
          unfold At.val at HAr1
          have HP := hideS (And.intro p1 (And.intro p2 (And.intro p3 (And.intro hlz (And.intro j6 j7)))))
          have hss : ((x ++ u ++ y).toList == (x ++ u ++ y).toList) = true := by simp
          clear p1 p2 p3 hlz j1 j2 j3 j4 j5 j6 j7 r1 r2 hzl hnz hLN hLA hLE hba hLZ HF HAr hb1 hb2
          obtain ⟨N', hN'⟩ : ∃ k, f + m + (n - t) = k := ⟨_, rfl⟩
          rw [hN'] at HL5
          go_wp2_with fail
          refine (HC5.out w9 S5.out).mono ?_
          rintro e wa ⟨rfl, ba'⟩
          replace T0 := hideS (T0.out.keep ba')
          replace TU := hideS (TU.out.keep ba')
          replace BB := hideS (bupS BB.out ba')
          replace AL := hideS (AL.out.keep ba')
          replace T5 := hideS (T5.out.keep ba')
          replace S5 := hideS (S5.out.keep ba')
          clear ba' HC5 k0 k1 k2 k3 k4 k5
          obtain ⟨k0, k1, -, -⟩ := T5.out.cells
          go_wp2_with fail
          refine (HL5.out wa S5.out).mono ?_
          rintro e wb ⟨on, cn, rfl, hcn, hnn, hAn, bb⟩
          replace T0 := hideS (T0.out.keep bb)
          replace TU := hideS (TU.out.keep bb)
          replace BB := hideS (bupS BB.out bb)
          replace AL := hideS (AL.out.keep bb)
          replace T5 := hideS (T5.out.keep bb)
          replace S5 := hideS (S5.out.keep bb)
          have AN := hideS hAn
          clear bb hAn HL5 k0 k1
          obtain ⟨k0, k1, -, -⟩ := TU.out.cells
          go_wp2_with fail
          refine (HL2.out wb BB.out).mono ?_
          rintro e wc ⟨om, cm, rfl, hcm, hnm, hAm, bc⟩
          replace T0 := hideS (T0.out.keep bc)
          replace TU := hideS (TU.out.keep bc)
          replace BB := hideS (bupS BB.out bc)
          replace AL := hideS (AL.out.keep bc)
          replace T5 := hideS (T5.out.keep bc)
          replace S5 := hideS (S5.out.keep bc)
          replace AN := hideS (AN.out.keep bc)
          have AM := hideS hAm
          clear bc hAm HL2 k0 k1
          have e1 : IntKind.i64.wrap ((f : Int) + (m : Int)) = ((f + m : Nat) : Int) := by rw [show ((f + m : Nat) : Int) = (f : Int) + m by omega]; exact IntWalk.i64_in _ ⟨by omega, by omega⟩
          have e2 : IntKind.i64.wrap (((f + m : Nat) : Int) + (n : Int)) = ((f + m + n : Nat) : Int) := by rw [show ((f + m + n : Nat) : Int) = ((f + m : Nat) : Int) + n by omega]; exact IntWalk.i64_in _ ⟨by omega, by omega⟩
          have e3 : IntKind.i64.wrap (((f + m + n : Nat) : Int) - (t : Int)) = (N' : Int) := by rw [show ((f + m + n : Nat) : Int) - (t : Int) = (N' : Int) by omega]; exact IntWalk.i64_in _ ⟨by omega, by omega⟩
          obtain ⟨FM, hFM⟩ : ∃ k, f + m = k := ⟨_, rfl⟩
          obtain ⟨FN, hFN⟩ : ∃ k, f + m + n = k := ⟨_, rfl⟩
          rw [hFN] at e2 e3
          rw [hFM] at e1 e2
          have l1 : f ≤ N' := by omega
          have l2 : FM ≤ N' := by omega
          have l3 : N' - FM = n - t := by omega
          go_upto_region 21 with fail
          have A1 := hideS (fun (W : World) (h : Below wc.heap.size wc W) => sameA_any (LA.take f) on ol cn cl (by rw [List.length_take]; omega) W (by rw [← HP.out.1]; exact (AN.out.keep h).takeAny f) ((AL.out.keep h).takeAny f))
          rw [show (LA.take f).length = f by rw [List.length_take, HP.out.2.2.2.2.1]; omega] at A1
          have A2 := hideS (fun (W : World) (h : Below wc.heap.size wc W) => show Calls Tryd.prog 11 #[.slice (slF on cn FM) (N' - FM) (cn - FM), .slice (slF ol cl t) (n - t) (cl - t)] W (fun e w' => e = .returned (.bool true) ∧ Below W.heap.size W w') by
            have h9 := sameA_any (LA.drop t) (slF on cn FM) (slF ol cl t) (cn - FM) (cl - t) (by rw [List.length_drop, HP.out.2.2.2.2.1]; omega) W (by rw [← HP.out.2.1, hFM]; exact (AN.out.keep h).dropAny (by rw [HP.out.2.2.2.1, hN']; exact hcn.1) FM) ((AL.out.keep h).dropAny (by rw [HP.out.2.2.2.2.1]; exact hcl.1) t)
            rw [List.length_drop, HP.out.2.2.2.2.1] at h9
            rw [l3]
            exact h9)
          have le1 : f ≤ cl := by omega
          have le2 : t ≤ cl := by omega
          have le3 : n ≤ cl := by omega
          have le4 : f ≤ cn := by omega
          have le5 : FM ≤ cn := by omega
          have le6 : N' ≤ cn := by omega
          have HLL := hideS (And.intro hN' (And.intro hFM (And.intro hFN l3)))
          clear hN' hFM hFN l3
          go_cut [177] (fun o wx => o = .bool false ∧ Below wc.heap.size wc wx)
          case first =>
            as_aux_lemma =>
            cases ol with
            | none =>
              have hH0 := hideS (hnl rfl)
              clear hnl
              cases on with
              | none =>
                have hH1 := hideS (hnn rfl)
                clear hnn
                simp only [slF] at A2
                refine region_grown wc wc (by kernel_rfl) (by kernel_rfl) (Below.refl _ _) ?_
                repeat (go_big_quiet_step (first
                  | (go_at_call 11; rename_i q; (with_reducible refine (A1.out _ q.h).mono ?_); rintro e V1 ⟨rfl, h1⟩; exact ⟨rfl, ⟨V1, q.h.trans (h1.mono q.h.size)⟩, rfl⟩)
                  | (go_at_call 11; rename_i q; (with_reducible refine (A2.out _ q.h).mono ?_); rintro e V1 ⟨rfl, h1⟩; exact ⟨rfl, ⟨V1, q.h.trans (h1.mono q.h.size)⟩, rfl⟩)))
                refine wpQuiet_nil ?_
                rintro W9 ⟨⟨V3, hb3⟩, hv3⟩
                have hv3 : W9 = V3 := hv3
                subst hv3
                first | go_wp2_with fail | skip
                go_meet
                exact ⟨rfl, hb3⟩
              | some an =>
                simp only [slF] at A2
                obtain ⟨oI, hoI⟩ : ∃ o, (if cn = FM then some an else some (an.add (FM * 5))) = o := ⟨_, rfl⟩
                rw [hoI] at A2
                refine region_grown wc wc (by kernel_rfl) (by kernel_rfl) (Below.refl _ _) ?_
                repeat (go_big_quiet_step (first
                  | (go_at_call 11; rename_i q; (with_reducible refine (A1.out _ q.h).mono ?_); rintro e V1 ⟨rfl, h1⟩; exact ⟨rfl, ⟨V1, q.h.trans (h1.mono q.h.size)⟩, rfl⟩)
                  | (go_at_call 11; rename_i q; (with_reducible refine (A2.out _ q.h).mono ?_); rintro e V1 ⟨rfl, h1⟩; exact ⟨rfl, ⟨V1, q.h.trans (h1.mono q.h.size)⟩, rfl⟩)))
                refine wpQuiet_nil ?_
                rintro W9 ⟨⟨V3, hb3⟩, hv3⟩
                have hv3 : W9 = V3 := hv3
                subst hv3
                first | go_wp2_with fail | skip
                go_meet
                exact ⟨rfl, hb3⟩
            | some al =>
              obtain ⟨oJ, hoJ⟩ : ∃ o, (if cl = t then some al else some (al.add (t * 5))) = o := ⟨_, rfl⟩
              cases on with
              | none =>
                have hH1 := hideS (hnn rfl)
                clear hnn
                simp only [slF] at A2
                rw [hoJ] at A2
                refine region_grown wc wc (by kernel_rfl) (by kernel_rfl) (Below.refl _ _) ?_
                repeat (go_big_quiet_step (first
                  | (go_at_call 11; rename_i q; (with_reducible refine (A1.out _ q.h).mono ?_); rintro e V1 ⟨rfl, h1⟩; exact ⟨rfl, ⟨V1, q.h.trans (h1.mono q.h.size)⟩, rfl⟩)
                  | (go_at_call 11; rename_i q; (with_reducible refine (A2.out _ q.h).mono ?_); rintro e V1 ⟨rfl, h1⟩; exact ⟨rfl, ⟨V1, q.h.trans (h1.mono q.h.size)⟩, rfl⟩)))
                refine wpQuiet_nil ?_
                rintro W9 ⟨⟨V3, hb3⟩, hv3⟩
                have hv3 : W9 = V3 := hv3
                subst hv3
                first | go_wp2_with fail | skip
                go_meet
                exact ⟨rfl, hb3⟩
              | some an =>
                simp only [slF] at A2
                obtain ⟨oI, hoI⟩ : ∃ o, (if cn = FM then some an else some (an.add (FM * 5))) = o := ⟨_, rfl⟩
                rw [hoI, hoJ] at A2
                refine region_grown wc wc (by kernel_rfl) (by kernel_rfl) (Below.refl _ _) ?_
                repeat (go_big_quiet_step (first
                  | (go_at_call 11; rename_i q; (with_reducible refine (A1.out _ q.h).mono ?_); rintro e V1 ⟨rfl, h1⟩; exact ⟨rfl, ⟨V1, q.h.trans (h1.mono q.h.size)⟩, rfl⟩)
                  | (go_at_call 11; rename_i q; (with_reducible refine (A2.out _ q.h).mono ?_); rintro e V1 ⟨rfl, h1⟩; exact ⟨rfl, ⟨V1, q.h.trans (h1.mono q.h.size)⟩, rfl⟩)))
                refine wpQuiet_nil ?_
                rintro W9 ⟨⟨V3, hb3⟩, hv3⟩
                have hv3 : W9 = V3 := hv3
                subst hv3
                first | go_wp2_with fail | skip
                go_meet
                exact ⟨rfl, hb3⟩
          case rest =>
            as_aux_lemma =>
            obtain ⟨rfl, bd⟩ := hcut
            skip
            have BD := hideS bd
            skip
            replace T0 := hideS (T0.out.keep bd)
            replace TU := hideS (TU.out.keep bd)
            replace BB := hideS (bupS BB.out bd)
            replace AL := hideS (AL.out.keep bd)
            replace T5 := hideS (T5.out.keep bd)
            replace S5 := hideS (S5.out.keep bd)
            replace AN := hideS (AN.out.keep bd)
            replace AM := hideS (AM.out.keep bd)
            clear bd BD A1 A2
            have HS0 := hideS hcm
            go_wp2_with fail
            go_loopw [20] (fun iv wq => ∃ i : Nat, iv = .int .i64 (i : Nat) ∧ i ≤ m ∧ Below w.heap.size w wq ∧ Tx wq w.heap.size (.string s) (.slice oa N ca) ∧ AtO wq on LN ∧ AtO wq om LE) (fun iv _ => m - (intOf iv).toNat)
            case atStart => exact ⟨0, rfl, Nat.zero_le _, BB.out, T0.out, AN.out, AM.out⟩
            case round =>
              obtain ⟨i, rfl, hiN, hb, ht0, han, ham⟩ := hrel
              obtain ⟨wq, rfl⟩ : ∃ wq, wq = wr := ⟨_, rfl⟩
              by_cases hlt : i < m
              · obtain ⟨a, ee, ha, hee, hmid⟩ := HP.out.2.2.1 i hlt
                obtain ⟨FI, hFI⟩ : ∃ k, f + i = k := ⟨_, rfl⟩
                rw [hFI] at ha
                have hFN' : FI < N' := by have := HLL.out.1; omega
                obtain ⟨A, rfl, hA0, k0, k1, k2, k3, k4⟩ := han FI a ha
                have d1 : (i : Int) < (m : Int) := by omega
                have wi : IntKind.i64.wrap ((i : Int) + 1) = ((i + 1 : Nat) : Int) := by rw [show ((i + 1 : Nat) : Int) = (i : Int) + 1 by omega]; exact IntWalk.i64_in _ ⟨by omega, by omega⟩
                have wf : IntKind.i64.wrap ((f : Int) + (i : Int)) = (FI : Int) := by rw [show (f : Int) + (i : Int) = (FI : Int) by omega]; exact IntWalk.i64_in _ ⟨by omega, by omega⟩
                have df : (FI : Int) < (N' : Int) := by omega
                obtain ⟨a0, a1, a2, a3, a4⟩ := a
                obtain ⟨e0, e1, e2, e3, e4⟩ := ee
                obtain ⟨b0, b1, b2, b3, b4⟩ := ba
                simp only at k0 k1 k2 k3 k4 HAr1
                have HQ := hideS (And.intro hb (And.intro ht0 (And.intro han (And.intro ham (And.intro hee hmid)))))
                clear hb ht0 han ham ha hee hmid hFI
                go_upto_region 27 with fail
                obtain ⟨W3, hW3⟩ : ∃ W3, wq.alloc (.cells #[.bool a0, .bool a1, .bool a2, .bool a3, .int .i64 a4] 38) = W3 := ⟨_, rfl⟩
                try rw [hW3]
                have v3 : Below wq.heap.size wq W3 := by rw [← hW3]; exact bel1S _ _
                have A3 := hideS (show AtC W3 wq.heap.size ⟨a0, a1, a2, a3, a4⟩ by rw [← hW3]; exact atc_newK wq ⟨a0, a1, a2, a3, a4⟩)
                clear hW3 k0 k1 k2 k3 k4
                have Q3 := hideS (And.intro (bupS HQ.out.1 v3) (HQ.out.2.1.keep v3))
                obtain ⟨t0, t1, -, -⟩ := Q3.out.2.cells
                have V3 := hideS v3
                clear v3
                go_wp2_with fail
                refine (HAr1.out W3 Q3.out.1).mono ?_
                rintro e w5' ⟨rfl, b5⟩
                obtain ⟨W6, hW6⟩ : ∃ W6, w5'.alloc (.cells #[.bool b0, .bool b1, .bool b2, .bool b3, .int .i64 b4] 38) = W6 := ⟨_, rfl⟩
                have d6 : Below w5'.heap.size w5' W6 := by rw [← hW6]; exact bel1S _ _
                have A6 : AtC W6 w5'.heap.size ⟨b0, b1, b2, b3, b4⟩ := by rw [← hW6]; exact atc_newK w5' ⟨b0, b1, b2, b3, b4⟩
                have X6 := bupS (bupS V3.out b5) d6
                have A36 := (A3.out.keep b5).keep d6
                clear t0 t1
                go_upto_region 28 with fail
                try rw [hW6]
                clear hW6
                obtain ⟨z0, z1, z2, z3, z4⟩ := A36.five
                obtain ⟨y0, y1, y2, y3, y4⟩ := A6.five
                obtain ⟨Bm, rfl, hB0, c0, c1', c2', c3', c4'⟩ := HQ.out.2.2.2.1.keep X6 i _ HQ.out.2.2.2.2.1
                simp only at z0 z1 z2 z3 z4 y0 y1 y2 y3 y4 c0 c1' c2' c3' c4'
                obtain ⟨m0, m1, m2, m3, m4', m5, m6⟩ := HQ.out.2.2.2.2.2
                simp only at m0 m1 m2 m3 m4' m5 m6
                obtain ⟨x0, hx0⟩ : ∃ x, (e0 || b0) = x := ⟨_, rfl⟩
                obtain ⟨x1, hx1⟩ : ∃ x, (e1 || b1) = x := ⟨_, rfl⟩
                obtain ⟨x2, hx2⟩ : ∃ x, (e2 || b2) = x := ⟨_, rfl⟩
                obtain ⟨x3, hx3⟩ : ∃ x, (e3 || b3) = x := ⟨_, rfl⟩
                rw [hx0] at m0
                rw [hx1] at m1
                rw [hx2] at m2
                rw [hx3] at m3
                subst m0 m1 m2 m3
                have H6 := hideS (show Below w.heap.size w W6 ∧ Tx W6 w.heap.size (.string s) (.slice oa N ca) ∧ AtO W6 (some A) LN ∧ AtO W6 (some Bm) LE from ⟨bupS HQ.out.1 X6, HQ.out.2.1.keep X6, HQ.out.2.2.1.keep X6, HQ.out.2.2.2.1.keep X6⟩)
                have HMM := hideS (And.intro m4' (And.intro m5 m6))
                have V6 := hideS X6
                clear A36 A6 X6 d6 b5 m4' m5 m6 HQ Q3 A3 V3
                go_cut [281] (fun o wx => o = .bool false ∧ Below W6.heap.size W6 wx)
                case first =>
                  as_aux_lemma =>
                  rename_i J9 K9 hJ9 hK9
                  refine reg28 (by kernel_rfl) hx0 hx1 hx2 hx3 HMM.out.1 HMM.out.2.1 HMM.out.2.2 d1 z0 z1 z2 z3 z4 y0 y1 y2 y3 y4 c0 c1' c2' c3' c4' ?_
                  clear HMe HH HC1 HC2 HN HAr1 HLL HS0 HP HMM
                  intro z193 z194 z195 z196 z197 z198 z199 z200 z201 z202 z203 z204 z205 z206 z207 z208 z209 z210 z211 z212 z213 z214 z215 z216 z217 z218 z219 z220 z221 z222 z223 z224 z225 z226 z227 z228 z229 z230 z231 z232 z233 z234 z235 z236 z237 z238 z239 z240 z241 z242 z243 z244 z245 z246 z247 z248 z249 z250 z251 z252 z253 z254 z255 z256 z257 z258 z259 z260 z261 z262 z263 z264 z265 z266 z267 z268 z269 z270 z271 z272 z273 z274 z275 z276 z277 z278 z279 z280 n9
                  dsimp only
                  refine hK9 _ _ (Met.intro (hJ9 _ _ ?_))
                  repeat apply Exists.intro
                  exact ⟨⟨rfl, below_dnS (Below.refl _ _) n9⟩, rfl⟩
                case rest =>
                  obtain ⟨rfl, b9⟩ := hcut
                  have H9 := hideS b9
                  clear b9
                  go_wp2_with fail
                  go_roundw
                  case rel => exact ⟨i + 1, by first | rfl | simp, by omega, bupS H6.out.1 H9.out, H6.out.2.1.keep H9.out, H6.out.2.2.1.keep H9.out, H6.out.2.2.2.keep H9.out⟩
                  case measure => simp [intOf]; omega
              · have d1 : ¬ (i : Int) < (m : Int) := by omega
                have HBq := hideS hb
                clear hb ht0 han ham
                go_wp2_with fail
                refine (HH.out wq HBq.out).mono ?_
                rintro e wz ⟨rfl, bz⟩
                have Hz := hideS (bupS HBq.out bz)
                clear bz
                go_wp2_with fail
                go_ret
                exact ⟨rfl, Hz.out⟩
    · have ecb : (chkT u E != 0) = true := by simpa using hb2
      obtain ⟨cc, hcc⟩ : ∃ c, chkT u E = c := ⟨_, rfl⟩
      rw [hcc] at ecb ⊢
      clear hcc
      go_wp2_with fail
      refine (HH.out w2 BB.out).mono ?_
      rintro e whY ⟨rfl, bhY⟩
      replace T0 := hideS (T0.out.keep bhY)
      replace TU := hideS (TU.out.keep bhY)
      replace BB := hideS (bupS BB.out bhY)
      clear bhY 
      go_wp2_with fail
      go_ret
      exact ⟨rfl, BB.out⟩
  · have ecb : (chkT s D != 0) = true := by simpa using hb1
    obtain ⟨cc, hcc⟩ : ∃ c, chkT s D = c := ⟨_, rfl⟩
    rw [hcc] at ecb ⊢
    clear hcc
    go_wp2_with fail
    refine (HH.out w1 BB.out).mono ?_
    rintro e whX ⟨rfl, bhX⟩
    replace T0 := hideS (T0.out.keep bhX)
    replace TU := hideS (TU.out.keep bhX)
    replace BB := hideS (bupS BB.out bhX)
    clear bhX 
    go_wp2_with fail
    go_ret
    exact ⟨rfl, BB.out⟩
end Go.Proofs.YtbiodfeanngkdaaDoor
