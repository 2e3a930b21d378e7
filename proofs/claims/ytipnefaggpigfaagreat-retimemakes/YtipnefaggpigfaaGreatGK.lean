/- Several texts, one behind the other. -/
import Derived.Test.YtipnefaggpigfaaGreatGA
import Derived.Test.YtipnefaggpigfaaGreatGF
import Derived.Test.YtipnefaggpigfaaGreatGR
import Derived.Test.YtipnefaggpigfaaGreatGU
/- A map from two rates: retime's and the reference's Rates (chapter 6). -/
namespace Go.Proofs.YtipnefaggpigfaaGreat
open Go.RowKit Go.Shelf

def raL (fn fd tn td : Int) : List Kn := scL (divA ⟨fn, fd⟩ ⟨tn, td⟩).1 ⟨0, 1⟩
def raE (fn fd : Int) (fr : Bool) (tn td : Int) (tr : Bool) : Int := if ¬ checkI fn fd fr = 0 then checkI fn fd fr else if ¬ checkI tn td tr = 0 then checkI tn td tr else if ¬ (divA ⟨fn, fd⟩ ⟨tn, td⟩).2 = 0 then (divA ⟨fn, fd⟩ ⟨tn, td⟩).2 else scE (divA ⟨fn, fd⟩ ⟨tn, td⟩).1 ⟨0, 1⟩
theorem check_new {n d : Int} {dr : Bool} (h : checkI n d dr = 0) : newA n d = (⟨n, d⟩, 0) ∧ RtIn ⟨n, d⟩ ∧ ¬ d = 0 := by
  unfold checkI at h
  split at h
  · rename_i hh
    obtain ⟨h1, h2, h3, h4, -, -, hr, -⟩ := hh
    have h0 : ¬ d = 0 := by omega
    refine ⟨?_, ⟨⟨by show -9223372036854775808 ≤ n; omega, by show n ≤ 9223372036854775807; omega⟩, by show -9223372036854775808 ≤ d; omega, by show d ≤ 9223372036854775807; omega⟩, h0⟩
    unfold newA
    rw [if_neg h0]
    exact low_right ⟨n, d⟩ hr
  · cases h
def TriK (V : World) (R : Nat) (x y z : Value) : Prop := R < V.heap.size ∧ V.cell? ⟨R, 0, none⟩ = some x ∧ V.cell? ⟨R, 1, none⟩ = some y ∧ V.cell? ⟨R, 2, none⟩ = some z
theorem TriK.new (W : World) (x y z : Value) (t : TypeId) : TriK (W.alloc (.cells #[x, y, z] t)) W.heap.size x y z := ⟨by simp, by go_simp, by go_simp, by go_simp⟩
theorem TriK.keep {V W : World} {R : Nat} {x y z : Value} (h : TriK V R x y z) (q : Below V.heap.size V W) : TriK W R x y z := by
  obtain ⟨h0, c0, c1, c2⟩ := h
  exact ⟨Nat.lt_of_lt_of_le h0 q.size, (q.cell (p := ⟨R, 0, none⟩) h0).trans c0, (q.cell (p := ⟨R, 1, none⟩) h0).trans c1, (q.cell (p := ⟨R, 2, none⟩) h0).trans c2⟩
def frR (n d : Int) (dr : Bool) : Rt := if checkI n d dr = 0 then ⟨n, d⟩ else ⟨0, 0⟩
set_option maxRecDepth 100000 in
set_option maxHeartbeats 2000000 in
theorem frames6 (n d : Int) (dr : Bool) (hn : I64 n) (hd : I64 d) (w : World) :
    Calls Tryz.prog 26 #[.agg #[.int .i64 n, .int .i64 d, .bool dr]] w fun e w' => e = .returned (.tuple #[.agg #[.int .i64 (frR n d dr).N, .int .i64 (frR n d dr).D], .int .i64 (checkI n d dr)]) ∧ Below w.heap.size w w' := by
  have HC := hideK (fun (W : World) => check_any n d dr hn hd W)
  have HN := hideK (fun (W : World) => new_any n d hn hd W)
  have HZ : Hid (checkI n d dr = 0 → (newA n d).1 = ⟨n, d⟩ ∧ (newA n d).2 = 0) := hideK (fun h => by rw [(check_new h).1]; exact ⟨rfl, rfl⟩)
  have HF : Hid (frR n d dr = if checkI n d dr = 0 then ⟨n, d⟩ else ⟨0, 0⟩) := hideK rfl
  unfold rtv at HN
  obtain ⟨PO, hPO⟩ : ∃ PO : Ending → World → Prop, (fun e w' => e = .returned (.tuple #[.agg #[.int .i64 (frR n d dr).N, .int .i64 (frR n d dr).D], .int .i64 (checkI n d dr)]) ∧ Below w.heap.size w w') = PO := ⟨_, rfl⟩
  have HP := hideK hPO
  rw [hPO]
  clear hPO
  generalize frR n d dr = fr at *
  generalize checkI n d dr = ck at *
  generalize newA n d = nw at *
  go_enter Tryz.func26, Tryz.ntmps26
  go_upto_region 1 with fail
  obtain ⟨V, hV⟩ : ∃ V, (w.alloc (.cells #[.int .i64 n, .int .i64 d, .bool dr] 25)).alloc (.cells #[.int .i64 0, .int .i64 0] 23) = V := ⟨_, rfl⟩
  have HV : Hid (Below w.heap.size w V ∧ (TriK V w.heap.size (.int .i64 n) (.int .i64 d) (.bool dr) ∧ Two V (w.heap.size + 1) (.int .i64 0) (.int .i64 0)) ∧ w.heap.size ≤ V.heap.size) := hideK (by
    rw [← hV]
    have h2 := Two.new (w.alloc (.cells #[.int .i64 n, .int .i64 d, .bool dr] 25)) (.int .i64 0) (.int .i64 0) 23
    rw [World.size_alloc] at h2
    exact ⟨bup (bel1 _ _) (bel1 _ _), ⟨(TriK.new w _ _ _ _).keep (bel1 _ _), h2⟩, by rw [World.size_alloc, World.size_alloc]; omega⟩)
  rw [hV]
  clear hV
  generalize w.heap.size = D at *
  obtain ⟨_, k0, k1, k2⟩ := HV.out.2.1.1
  go_wp2_with fail
  refine (HC.out V).mono ?_
  rintro e w1 ⟨rfl, b1⟩
  have C1 : Hid (TriK w1 D (.int .i64 n) (.int .i64 d) (.bool dr) ∧ Two w1 (D + 1) (.int .i64 0) (.int .i64 0) ∧ Below D w w1) := hideK ⟨HV.out.2.1.1.keep b1, HV.out.2.1.2.keep b1, HV.out.1.trans (b1.mono HV.out.2.2)⟩
  clear b1 k0 k1 k2 HC
  have hD1 : D ≤ D + 1 := by omega
  by_cases hz : ck = 0
  · have HZ2 := hideK (HZ.out hz)
    have hf := HF.out
    rw [if_pos hz] at hf
    have HF2 := hideK hf
    clear hf HF HZ
    subst hz
    obtain ⟨_, k0, k1, k2⟩ := C1.out.1
    go_wp2_with fail
    refine (HN.out w1).mono ?_
    rintro e w2 ⟨rfl, b2⟩
    have hD := C1.out.2.1.1
    have C2 := hideK (And.intro (C1.out.2.1.keep b2) (C1.out.2.2.trans (b2.mono (by omega))))
    obtain ⟨_, g0, g1, h0, h1⟩ := C2.out.1
    rw [HZ2.out.1, HZ2.out.2]
    clear b2 k0 k1 k2 C1
    have HB : Hid (Below D w ((w2.setCell ⟨D + 1, 0, none⟩ (.int .i64 n)).setCell ⟨D + 1, 1, none⟩ (.int .i64 d)) ∧ Two ((w2.setCell ⟨D + 1, 0, none⟩ (.int .i64 n)).setCell ⟨D + 1, 1, none⟩ (.int .i64 d)) (D + 1) (.int .i64 n) (.int .i64 d)) := hideK ⟨(C2.out.2.setCell hD1 _).setCell hD1 _, C2.out.1.set⟩
    go_wp2_with fail
    obtain ⟨_, r0, r1, _, _⟩ := HB.out.2
    refine bodyPost_ret (v := .tuple #[.agg #[.int .i64 n, .int .i64 d], .int .i64 0]) (by simp [results, Tryz.results26, go_sem, r0, r1]) rfl ?_
    rw [← HP.out]
    exact ⟨by rw [HF2.out], HB.out.1⟩
  · have hf := HF.out
    rw [if_neg hz] at hf
    have HF2 := hideK hf
    clear hf HF HZ
    obtain ⟨hD, g0, g1, h0, h1⟩ := C1.out.2.1
    have HB : Hid (Below D w ((w1.setCell ⟨D + 1, 0, none⟩ (.int .i64 0)).setCell ⟨D + 1, 1, none⟩ (.int .i64 0)) ∧ Two ((w1.setCell ⟨D + 1, 0, none⟩ (.int .i64 0)).setCell ⟨D + 1, 1, none⟩ (.int .i64 0)) (D + 1) (.int .i64 0) (.int .i64 0)) := hideK ⟨(C1.out.2.2.setCell hD1 _).setCell hD1 _, C1.out.2.1.set⟩
    clear C1
    go_wp2_with fail
    obtain ⟨_, r0, r1, _, _⟩ := HB.out.2
    refine bodyPost_ret (v := .tuple #[.agg #[.int .i64 0, .int .i64 0], .int .i64 ck]) (by simp [results, Tryz.results26, go_sem, r0, r1]) rfl ?_
    rw [← HP.out]
    exact ⟨by rw [HF2.out], HB.out.1⟩
set_option maxRecDepth 100000 in
set_option maxHeartbeats 4000000 in
theorem rates6p (fn fd : Int) (fr : Bool) (tn td : Int) (tr : Bool) (h1 : I64 fn) (h2 : I64 fd) (h3 : I64 tn) (h4 : I64 td) (w : World) :
    Calls Tryz.prog 10 #[.agg #[.int .i64 fn, .int .i64 fd, .bool fr], .agg #[.int .i64 tn, .int .i64 td, .bool tr]] w fun e w' => ∃ p, e = .returned (.tuple #[p, .int .i64 (raE fn fd fr tn td tr)]) ∧ PtP w' p (raE fn fd fr tn td tr) (raL fn fd tn td) ∧ Below w.heap.size w w' := by
  have HS : Hid (∀ (W : World), RtIn (divA ⟨fn, fd⟩ ⟨tn, td⟩).1 → Calls Tryz.prog 8 #[.agg #[.int .i64 (divA ⟨fn, fd⟩ ⟨tn, td⟩).1.N, .int .i64 (divA ⟨fn, fd⟩ ⟨tn, td⟩).1.D], .agg #[.int .i64 0, .int .i64 1]] W fun e w' => ∃ p, e = .returned (.tuple #[p, .int .i64 (scE (divA ⟨fn, fd⟩ ⟨tn, td⟩).1 ⟨0, 1⟩)]) ∧ PtP w' p (scE (divA ⟨fn, fd⟩ ⟨tn, td⟩).1 ⟨0, 1⟩) (raL fn fd tn td) ∧ Below W.heap.size W w') := hideK (fun W hi => scale6p _ ⟨0, 1⟩ hi zero_in W)
  have HD : Hid (∀ (W : World), RtIn ⟨fn, fd⟩ → RtIn ⟨tn, td⟩ → Calls Tryz.prog 27 #[.agg #[.int .i64 fn, .int .i64 fd], .agg #[.int .i64 tn, .int .i64 td]] W fun e w' => e = .returned (.tuple #[.agg #[.int .i64 (divA ⟨fn, fd⟩ ⟨tn, td⟩).1.N, .int .i64 (divA ⟨fn, fd⟩ ⟨tn, td⟩).1.D], .int .i64 (divA ⟨fn, fd⟩ ⟨tn, td⟩).2]) ∧ Below W.heap.size W w') := hideK (fun W a b => quo_any ⟨fn, fd⟩ ⟨tn, td⟩ a b W)
  have HZf : Hid (checkI fn fd fr = 0 → newA fn fd = (⟨fn, fd⟩, 0) ∧ RtIn ⟨fn, fd⟩ ∧ ¬ fd = 0) := hideK check_new
  have HZt : Hid (checkI tn td tr = 0 → newA tn td = (⟨tn, td⟩, 0) ∧ RtIn ⟨tn, td⟩ ∧ ¬ td = 0) := hideK check_new
  have hqi : RtIn (divA ⟨fn, fd⟩ ⟨tn, td⟩).1 := divA_inK _ _
  have HCf := hideK (fun (W : World) => frames6 fn fd fr h1 h2 W)
  have HCt := hideK (fun (W : World) => frames6 tn td tr h3 h4 W)
  have HFf : Hid (checkI fn fd fr = 0 → frR fn fd fr = ⟨fn, fd⟩) := hideK (fun h => by unfold frR; rw [if_pos h])
  have HFt : Hid (checkI tn td tr = 0 → frR tn td tr = ⟨tn, td⟩) := hideK (fun h => by unfold frR; rw [if_pos h])
  obtain ⟨PO, hPO⟩ : ∃ PO : Ending → World → Prop, (fun e w' => ∃ p, e = .returned (.tuple #[p, .int .i64 (raE fn fd fr tn td tr)]) ∧ PtP w' p (raE fn fd fr tn td tr) (raL fn fd tn td) ∧ Below w.heap.size w w') = PO := ⟨_, rfl⟩
  have HP := hideK hPO
  rw [hPO]
  clear hPO
  have HE : Hid (raE fn fd fr tn td tr = if ¬ checkI fn fd fr = 0 then checkI fn fd fr else if ¬ checkI tn td tr = 0 then checkI tn td tr else if ¬ (divA ⟨fn, fd⟩ ⟨tn, td⟩).2 = 0 then (divA ⟨fn, fd⟩ ⟨tn, td⟩).2 else scE (divA ⟨fn, fd⟩ ⟨tn, td⟩).1 ⟨0, 1⟩) := hideK rfl
  generalize raE fn fd fr tn td tr = EE at *
  generalize raL fn fd tn td = LL at *
  generalize divA ⟨fn, fd⟩ ⟨tn, td⟩ = q at *
  generalize checkI fn fd fr = cf at *
  generalize checkI tn td tr = ct at *
  obtain ⟨EN, hEN⟩ : ∃ E, scE q.1 ⟨0, 1⟩ = E := ⟨_, rfl⟩
  rw [hEN] at HS HE
  clear hEN h1 h2 h3 h4
  generalize frR fn fd fr = rf at *
  generalize frR tn td tr = rt at *
  go_enter Tryz.func10, Tryz.ntmps10
  go_upto_region 1 with fail
  obtain ⟨V, hV⟩ : ∃ V, (w.alloc (.cells #[.int .i64 fn, .int .i64 fd, .bool fr] 25)).alloc (.cells #[.int .i64 tn, .int .i64 td, .bool tr] 25) = V := ⟨_, rfl⟩
  have HV : Hid (Below w.heap.size w V ∧ (TriK V w.heap.size (.int .i64 fn) (.int .i64 fd) (.bool fr) ∧ TriK V (w.heap.size + 1) (.int .i64 tn) (.int .i64 td) (.bool tr)) ∧ w.heap.size ≤ V.heap.size) := hideK (by
    rw [← hV]
    have h2 := TriK.new (w.alloc (.cells #[.int .i64 fn, .int .i64 fd, .bool fr] 25)) (.int .i64 tn) (.int .i64 td) (.bool tr) 25
    rw [World.size_alloc] at h2
    exact ⟨bup (bel1 _ _) (bel1 _ _), ⟨(TriK.new w _ _ _ _).keep (bel1 _ _), h2⟩, by rw [World.size_alloc, World.size_alloc]; omega⟩)
  rw [hV]
  clear hV
  generalize w.heap.size = D at *
  have HK : Hid (∀ w', Below V.heap.size V w' → w'.cell? ⟨D, 0, none⟩ = some (.int .i64 fn) ∧ w'.cell? ⟨D, 1, none⟩ = some (.int .i64 fd) ∧ w'.cell? ⟨D, 2, none⟩ = some (.bool fr) ∧ w'.cell? ⟨D + 1, 0, none⟩ = some (.int .i64 tn) ∧ w'.cell? ⟨D + 1, 1, none⟩ = some (.int .i64 td) ∧ w'.cell? ⟨D + 1, 2, none⟩ = some (.bool tr)) := hideK (fun W q => by
    obtain ⟨_, c0, c1, c2⟩ := HV.out.2.1.1.keep q
    obtain ⟨_, d0, d1, d2⟩ := HV.out.2.1.2.keep q
    exact ⟨c0, c1, c2, d0, d1, d2⟩)
  obtain ⟨k0, k1, k2, k3, k4, k5⟩ := HK.out V (Below.refl _ _)
  go_wp2_with fail
  refine (HCf.out V).mono ?_
  rintro e w1 ⟨rfl, b9⟩
  have C1 := hideK (show Below V.heap.size V w1 from bup (Below.refl V.heap.size V) b9)
  clear b9 k0 k1 k2 k3 k4 k5
  go_upto_region 2 with fail
  obtain ⟨q1, hq1⟩ : ∃ q, w1.heap.size = q := ⟨_, rfl⟩
  obtain ⟨w2, hw2⟩ : ∃ W, w1.alloc (.cells #[.int .i64 rf.N, .int .i64 rf.D] 23) = W := ⟨_, rfl⟩
  have C2 : Hid (Below V.heap.size V w2 ∧ Two w2 q1 (.int .i64 rf.N) (.int .i64 rf.D)) := hideK (by
    rw [← hw2, ← hq1]
    exact ⟨bup C1.out (bel1 _ _), Two.new _ _ _ _⟩)
  rw [hw2, hq1]
  clear hw2 hq1 C1
  obtain ⟨k0, k1, k2, k3, k4, k5⟩ := HK.out w2 C2.out.1
  by_cases hcf : cf = 0
  case neg =>
    have HF : Hid (PtP w2 (.pointer none) EE LL ∧ Below D w w2) := hideK ⟨.inr ⟨by rw [HE.out]; rw [if_pos hcf]; exact hcf, rfl⟩, HV.out.1.trans (C2.out.1.mono HV.out.2.2)⟩
    have hee : EE = cf := by rw [HE.out]; rw [if_pos hcf]
    rw [hee] at HF HP
    first | go_wp2_with fail | skip
    first
      | (rw [← HP.out]; exact ⟨_, rfl, HF.out.1, HF.out.2⟩)
      | (refine bodyPost_ret (v := .tuple #[.pointer none, .int .i64 (cf)]) (by simp [results, Tryz.results10, go_sem]) rfl ?_; rw [← HP.out]; exact ⟨_, rfl, HF.out.1, HF.out.2⟩)
  case pos =>
  rw [if_neg (fun h => h hcf)] at HE
  rw [HFf.out hcf] at C2
  go_wp2_with fail
  refine (HCt.out w2).mono ?_
  rintro e w3 ⟨rfl, b9⟩
  have C3 := hideK (show Below V.heap.size V w3 ∧ _ from ⟨bup C2.out.1 b9, (C2.out.2).keep b9⟩)
  clear b9 k0 k1 k2 k3 k4 k5
  go_upto_region 5 with fail
  obtain ⟨q2, hq2⟩ : ∃ q, w3.heap.size = q := ⟨_, rfl⟩
  obtain ⟨w4, hw4⟩ : ∃ W, w3.alloc (.cells #[.int .i64 rt.N, .int .i64 rt.D] 23) = W := ⟨_, rfl⟩
  have C4 : Hid (Below V.heap.size V w4 ∧ Two w4 q1 (.int .i64 (⟨fn, fd⟩ : Rt).N) (.int .i64 (⟨fn, fd⟩ : Rt).D) ∧ Two w4 q2 (.int .i64 rt.N) (.int .i64 rt.D)) := hideK (by
    rw [← hw4, ← hq2]
    exact ⟨bup C3.out.1 (bel1 _ _), (C3.out.2).keep (bel1 _ _), Two.new _ _ _ _⟩)
  rw [hw4, hq2]
  clear hw4 hq2 C3
  obtain ⟨k0, k1, k2, k3, k4, k5⟩ := HK.out w4 C4.out.1
  by_cases hct : ct = 0
  case neg =>
    have HF : Hid (PtP w4 (.pointer none) EE LL ∧ Below D w w4) := hideK ⟨.inr ⟨by rw [HE.out]; rw [if_pos hct]; exact hct, rfl⟩, HV.out.1.trans (C4.out.1.mono HV.out.2.2)⟩
    have hee : EE = ct := by rw [HE.out]; rw [if_pos hct]
    rw [hee] at HF HP
    first | go_wp2_with fail | skip
    first
      | (rw [← HP.out]; exact ⟨_, rfl, HF.out.1, HF.out.2⟩)
      | (refine bodyPost_ret (v := .tuple #[.pointer none, .int .i64 (ct)]) (by simp [results, Tryz.results10, go_sem]) rfl ?_; rw [← HP.out]; exact ⟨_, rfl, HF.out.1, HF.out.2⟩)
  case pos =>
  rw [if_neg (fun h => h hct)] at HE
  rw [HFt.out hct] at C4
  obtain ⟨⟨_, g0, g1, _, _⟩, ⟨_, g2, g3, _, _⟩⟩ := C4.out.2
  have hfi := (HZf.out hcf).2.1
  have hti := (HZt.out hct).2.1
  go_wp2_with fail
  refine (HD.out w4 hfi hti).mono ?_
  rintro e w5 ⟨rfl, b9⟩
  have C5 := hideK (show Below V.heap.size V w5 from bup C4.out.1 b9)
  clear b9 g0 g1 g2 g3 k0 k1 k2 k3 k4 k5
  go_upto_region 8 with fail
  obtain ⟨q3, hq3⟩ : ∃ q, w5.heap.size = q := ⟨_, rfl⟩
  obtain ⟨w6, hw6⟩ : ∃ W, w5.alloc (.cells #[.int .i64 q.1.N, .int .i64 q.1.D] 23) = W := ⟨_, rfl⟩
  have C6 : Hid (Below V.heap.size V w6 ∧ Two w6 q3 (.int .i64 q.1.N) (.int .i64 q.1.D)) := hideK (by
    rw [← hw6, ← hq3]
    exact ⟨bup C5.out (bel1 _ _), Two.new _ _ _ _⟩)
  rw [hw6, hq3]
  clear hw6 hq3 C5
  obtain ⟨k0, k1, k2, k3, k4, k5⟩ := HK.out w6 C6.out.1
  by_cases hq : q.2 = 0
  case neg =>
    have HF : Hid (PtP w6 (.pointer none) EE LL ∧ Below D w w6) := hideK ⟨.inr ⟨by rw [HE.out]; rw [if_pos hq]; exact hq, rfl⟩, HV.out.1.trans (C6.out.1.mono HV.out.2.2)⟩
    have hee : EE = q.2 := by rw [HE.out]; rw [if_pos hq]
    rw [hee] at HF HP
    first | go_wp2_with fail | skip
    first
      | (rw [← HP.out]; exact ⟨_, rfl, HF.out.1, HF.out.2⟩)
      | (refine bodyPost_ret (v := .tuple #[.pointer none, .int .i64 (q.2)]) (by simp [results, Tryz.results10, go_sem]) rfl ?_; rw [← HP.out]; exact ⟨_, rfl, HF.out.1, HF.out.2⟩)
  case pos =>
  rw [if_neg (fun h => h hq)] at HE
  go_upto_region 10 with fail
  clear k0 k1 k2 k3 k4 k5
  obtain ⟨_, g0, g1, _, _⟩ := C6.out.2
  have HQ : Hid (∀ w', Below w6.heap.size w6 w' → w'.cell? ⟨q3, 0, none⟩ = some (.int .i64 q.1.N) ∧ w'.cell? ⟨q3, 1, none⟩ = some (.int .i64 q.1.D)) := hideK (fun W b => by
    obtain ⟨_, c0, c1, _, _⟩ := C6.out.2.keep b
    exact ⟨c0, c1⟩)
  go_region_held3 (fun w' => w'.cell? ⟨q3, 0, none⟩ = some (.int .i64 q.1.N) ∧ w'.cell? ⟨q3, 1, none⟩ = some (.int .i64 q.1.D)) (first | assumption | exact HQ.out _ (Below.refl _ _).drew | exact HQ.out _ c4 | exact HQ.out _ c5 | go_keep) (first
    | (go_at_call 17; (with_reducible refine Calls.mono (whole6 0 _) ?_); rintro e v4 ⟨rfl, b4⟩; have c4 : Below w6.heap.size w6 v4 := (Below.refl w6.heap.size w6).drew.trans b4; obtain ⟨e0, e1⟩ := HQ.out _ c4)
    | (go_at_call 8; (with_reducible refine Calls.mono (HS.out _ hqi) ?_); rintro e v5 ⟨p5, rfl, hp5, b5⟩; have c5 : Below w6.heap.size w6 v5 := bup c4 b5; obtain ⟨m0, m1⟩ := HQ.out _ c5))
  all_goals
    have hee : EE = EN := HE.out
    have HF : Hid (PtP v5 p5 EE LL ∧ Below D w v5) := hideK ⟨by rw [hee]; exact hp5, HV.out.1.trans ((bup C6.out.1 c5).mono HV.out.2.2)⟩
    first | go_wp2_with fail | skip
    first
      | (rw [← HP.out]; exact ⟨p5, by first | rfl | (rw [hee]; try rfl), HF.out.1, HF.out.2⟩)
      | (refine bodyPost_ret (v := .tuple #[p5, .int .i64 EN]) (by simp [results, Tryz.results10, go_sem]) rfl ?_; rw [← HP.out]; exact ⟨p5, by first | rfl | (rw [hee]; try rfl), HF.out.1, HF.out.2⟩)
set_option maxRecDepth 100000 in
set_option maxHeartbeats 4000000 in
theorem rates6r (fn fd : Int) (fr : Bool) (tn td : Int) (tr : Bool) (h1 : I64 fn) (h2 : I64 fd) (h3 : I64 tn) (h4 : I64 td) (w : World) :
    Calls Tryz.prog 11 #[.agg #[.int .i64 fn, .int .i64 fd, .bool fr], .agg #[.int .i64 tn, .int .i64 td, .bool tr]] w fun e w' => ∃ p, e = .returned (.tuple #[p, .int .i64 (raE fn fd fr tn td tr)]) ∧ PtR w' p (raE fn fd fr tn td tr) (raL fn fd tn td) ∧ Below w.heap.size w w' := by
  have HS : Hid (∀ (W : World), RtIn (divA ⟨fn, fd⟩ ⟨tn, td⟩).1 → Calls Tryz.prog 9 #[.agg #[.int .i64 (divA ⟨fn, fd⟩ ⟨tn, td⟩).1.N, .int .i64 (divA ⟨fn, fd⟩ ⟨tn, td⟩).1.D], .agg #[.int .i64 0, .int .i64 1]] W fun e w' => ∃ p, e = .returned (.tuple #[p, .int .i64 (scE (divA ⟨fn, fd⟩ ⟨tn, td⟩).1 ⟨0, 1⟩)]) ∧ PtR w' p (scE (divA ⟨fn, fd⟩ ⟨tn, td⟩).1 ⟨0, 1⟩) (raL fn fd tn td) ∧ Below W.heap.size W w') := hideK (fun W hi => scale6r _ ⟨0, 1⟩ hi zero_in W)
  have HD : Hid (∀ (W : World), RtIn ⟨fn, fd⟩ → RtIn ⟨tn, td⟩ → Calls Tryz.prog 30 #[.agg #[.int .i64 fn, .int .i64 fd], .agg #[.int .i64 tn, .int .i64 td]] W fun e w' => e = .returned (.tuple #[.agg #[.int .i64 (divA ⟨fn, fd⟩ ⟨tn, td⟩).1.N, .int .i64 (divA ⟨fn, fd⟩ ⟨tn, td⟩).1.D], .int .i64 (divA ⟨fn, fd⟩ ⟨tn, td⟩).2]) ∧ Below W.heap.size W w') := hideK (fun W a b => rdiv_any ⟨fn, fd⟩ ⟨tn, td⟩ a b W)
  have HZf : Hid (checkI fn fd fr = 0 → newA fn fd = (⟨fn, fd⟩, 0) ∧ RtIn ⟨fn, fd⟩ ∧ ¬ fd = 0) := hideK check_new
  have HZt : Hid (checkI tn td tr = 0 → newA tn td = (⟨tn, td⟩, 0) ∧ RtIn ⟨tn, td⟩ ∧ ¬ td = 0) := hideK check_new
  have hqi : RtIn (divA ⟨fn, fd⟩ ⟨tn, td⟩).1 := divA_inK _ _
  have HCf := hideK (fun (W : World) => rcheck_any fn fd fr W)
  have HCt := hideK (fun (W : World) => rcheck_any tn td tr W)
  have HNf := hideK (fun (W : World) (h : ¬ fd = 0) => rnew_any fn fd h1 h2 h W)
  have HNt := hideK (fun (W : World) (h : ¬ td = 0) => rnew_any tn td h3 h4 h W)
  unfold rtv at HNf HNt
  obtain ⟨PO, hPO⟩ : ∃ PO : Ending → World → Prop, (fun e w' => ∃ p, e = .returned (.tuple #[p, .int .i64 (raE fn fd fr tn td tr)]) ∧ PtR w' p (raE fn fd fr tn td tr) (raL fn fd tn td) ∧ Below w.heap.size w w') = PO := ⟨_, rfl⟩
  have HP := hideK hPO
  rw [hPO]
  clear hPO
  have HE : Hid (raE fn fd fr tn td tr = if ¬ checkI fn fd fr = 0 then checkI fn fd fr else if ¬ checkI tn td tr = 0 then checkI tn td tr else if ¬ (divA ⟨fn, fd⟩ ⟨tn, td⟩).2 = 0 then (divA ⟨fn, fd⟩ ⟨tn, td⟩).2 else scE (divA ⟨fn, fd⟩ ⟨tn, td⟩).1 ⟨0, 1⟩) := hideK rfl
  generalize raE fn fd fr tn td tr = EE at *
  generalize raL fn fd tn td = LL at *
  generalize divA ⟨fn, fd⟩ ⟨tn, td⟩ = q at *
  generalize checkI fn fd fr = cf at *
  generalize checkI tn td tr = ct at *
  obtain ⟨EN, hEN⟩ : ∃ E, scE q.1 ⟨0, 1⟩ = E := ⟨_, rfl⟩
  rw [hEN] at HS HE
  clear hEN h1 h2 h3 h4
  generalize newA fn fd = nf at *
  generalize newA tn td = nt at *
  go_enter Tryz.func11, Tryz.ntmps11
  go_upto_region 1 with fail
  obtain ⟨V, hV⟩ : ∃ V, (w.alloc (.cells #[.int .i64 fn, .int .i64 fd, .bool fr] 25)).alloc (.cells #[.int .i64 tn, .int .i64 td, .bool tr] 25) = V := ⟨_, rfl⟩
  have HV : Hid (Below w.heap.size w V ∧ (TriK V w.heap.size (.int .i64 fn) (.int .i64 fd) (.bool fr) ∧ TriK V (w.heap.size + 1) (.int .i64 tn) (.int .i64 td) (.bool tr)) ∧ w.heap.size ≤ V.heap.size) := hideK (by
    rw [← hV]
    have h2 := TriK.new (w.alloc (.cells #[.int .i64 fn, .int .i64 fd, .bool fr] 25)) (.int .i64 tn) (.int .i64 td) (.bool tr) 25
    rw [World.size_alloc] at h2
    exact ⟨bup (bel1 _ _) (bel1 _ _), ⟨(TriK.new w _ _ _ _).keep (bel1 _ _), h2⟩, by rw [World.size_alloc, World.size_alloc]; omega⟩)
  rw [hV]
  clear hV
  generalize w.heap.size = D at *
  have HK : Hid (∀ w', Below V.heap.size V w' → w'.cell? ⟨D, 0, none⟩ = some (.int .i64 fn) ∧ w'.cell? ⟨D, 1, none⟩ = some (.int .i64 fd) ∧ w'.cell? ⟨D, 2, none⟩ = some (.bool fr) ∧ w'.cell? ⟨D + 1, 0, none⟩ = some (.int .i64 tn) ∧ w'.cell? ⟨D + 1, 1, none⟩ = some (.int .i64 td) ∧ w'.cell? ⟨D + 1, 2, none⟩ = some (.bool tr)) := hideK (fun W q => by
    obtain ⟨_, c0, c1, c2⟩ := HV.out.2.1.1.keep q
    obtain ⟨_, d0, d1, d2⟩ := HV.out.2.1.2.keep q
    exact ⟨c0, c1, c2, d0, d1, d2⟩)
  obtain ⟨k0, k1, k2, k3, k4, k5⟩ := HK.out V (Below.refl _ _)
  go_wp2_with fail
  refine (HCf.out V).mono ?_
  rintro e w1 ⟨rfl, b9⟩
  have C1 := hideK (show Below V.heap.size V w1 from bup (Below.refl V.heap.size V) b9)
  clear b9 k0 k1 k2 k3 k4 k5
  obtain ⟨k0, k1, k2, k3, k4, k5⟩ := HK.out w1 C1.out
  by_cases hcf : cf = 0
  case neg =>
    have HF : Hid (PtR w1 (.pointer none) EE LL ∧ Below D w w1) := hideK ⟨.inr ⟨by rw [HE.out]; rw [if_pos hcf]; exact hcf, rfl⟩, HV.out.1.trans (C1.out.mono HV.out.2.2)⟩
    have hee : EE = cf := by rw [HE.out]; rw [if_pos hcf]
    rw [hee] at HF HP
    first | go_wp2_with fail | skip
    first
      | (rw [← HP.out]; exact ⟨_, rfl, HF.out.1, HF.out.2⟩)
      | (refine bodyPost_ret (v := .tuple #[.pointer none, .int .i64 (cf)]) (by simp [results, Tryz.results11, go_sem]) rfl ?_; rw [← HP.out]; exact ⟨_, rfl, HF.out.1, HF.out.2⟩)
  case pos =>
  rw [if_neg (fun h => h hcf)] at HE
  go_wp2_with fail
  refine (HCt.out w1).mono ?_
  rintro e w2 ⟨rfl, b9⟩
  have C2 := hideK (show Below V.heap.size V w2 from bup C1.out b9)
  clear b9 k0 k1 k2 k3 k4 k5
  obtain ⟨k0, k1, k2, k3, k4, k5⟩ := HK.out w2 C2.out
  by_cases hct : ct = 0
  case neg =>
    have HF : Hid (PtR w2 (.pointer none) EE LL ∧ Below D w w2) := hideK ⟨.inr ⟨by rw [HE.out]; rw [if_pos hct]; exact hct, rfl⟩, HV.out.1.trans (C2.out.mono HV.out.2.2)⟩
    have hee : EE = ct := by rw [HE.out]; rw [if_pos hct]
    rw [hee] at HF HP
    first | go_wp2_with fail | skip
    first
      | (rw [← HP.out]; exact ⟨_, rfl, HF.out.1, HF.out.2⟩)
      | (refine bodyPost_ret (v := .tuple #[.pointer none, .int .i64 (ct)]) (by simp [results, Tryz.results11, go_sem]) rfl ?_; rw [← HP.out]; exact ⟨_, rfl, HF.out.1, HF.out.2⟩)
  case pos =>
  rw [if_neg (fun h => h hct)] at HE
  obtain ⟨e1, hfi, hfd⟩ := HZf.out hcf
  obtain ⟨e2, hti, htd⟩ := HZt.out hct
  subst e1
  subst e2
  go_wp2_with fail
  refine (HNf.out w2 hfd).mono ?_
  rintro e w3 ⟨rfl, b9⟩
  have C3 := hideK (show Below V.heap.size V w3 from bup C2.out b9)
  clear b9 k0 k1 k2 k3 k4 k5
  go_upto_region 8 with fail
  obtain ⟨q1, hq1⟩ : ∃ q, w3.heap.size = q := ⟨_, rfl⟩
  obtain ⟨w4, hw4⟩ : ∃ W, w3.alloc (.cells #[.int .i64 (⟨fn, fd⟩ : Rt).N, .int .i64 (⟨fn, fd⟩ : Rt).D] 23) = W := ⟨_, rfl⟩
  have C4 : Hid (Below V.heap.size V w4 ∧ Two w4 q1 (.int .i64 (⟨fn, fd⟩ : Rt).N) (.int .i64 (⟨fn, fd⟩ : Rt).D)) := hideK (by
    rw [← hw4, ← hq1]
    exact ⟨bup C3.out (bel1 _ _), Two.new _ _ _ _⟩)
  rw [hw4, hq1]
  clear hw4 hq1 C3
  obtain ⟨k0, k1, k2, k3, k4, k5⟩ := HK.out w4 C4.out.1
  go_wp2_with fail
  refine (HNt.out w4 htd).mono ?_
  rintro e w5 ⟨rfl, b9⟩
  have C5 := hideK (show Below V.heap.size V w5 ∧ _ from ⟨bup C4.out.1 b9, (C4.out.2).keep b9⟩)
  clear b9 k0 k1 k2 k3 k4 k5
  go_upto_region 11 with fail
  obtain ⟨q2, hq2⟩ : ∃ q, w5.heap.size = q := ⟨_, rfl⟩
  obtain ⟨w6, hw6⟩ : ∃ W, w5.alloc (.cells #[.int .i64 (⟨tn, td⟩ : Rt).N, .int .i64 (⟨tn, td⟩ : Rt).D] 23) = W := ⟨_, rfl⟩
  have C6 : Hid (Below V.heap.size V w6 ∧ Two w6 q1 (.int .i64 (⟨fn, fd⟩ : Rt).N) (.int .i64 (⟨fn, fd⟩ : Rt).D) ∧ Two w6 q2 (.int .i64 (⟨tn, td⟩ : Rt).N) (.int .i64 (⟨tn, td⟩ : Rt).D)) := hideK (by
    rw [← hw6, ← hq2]
    exact ⟨bup C5.out.1 (bel1 _ _), (C5.out.2).keep (bel1 _ _), Two.new _ _ _ _⟩)
  rw [hw6, hq2]
  clear hw6 hq2 C5
  obtain ⟨k0, k1, k2, k3, k4, k5⟩ := HK.out w6 C6.out.1
  obtain ⟨⟨_, g0, g1, _, _⟩, ⟨_, g2, g3, _, _⟩⟩ := C6.out.2
  go_wp2_with fail
  refine (HD.out w6 hfi hti).mono ?_
  rintro e w7 ⟨rfl, b9⟩
  have C7 := hideK (show Below V.heap.size V w7 from bup C6.out.1 b9)
  clear b9 g0 g1 g2 g3 k0 k1 k2 k3 k4 k5
  go_upto_region 14 with fail
  obtain ⟨q3, hq3⟩ : ∃ q, w7.heap.size = q := ⟨_, rfl⟩
  obtain ⟨w8, hw8⟩ : ∃ W, w7.alloc (.cells #[.int .i64 q.1.N, .int .i64 q.1.D] 23) = W := ⟨_, rfl⟩
  have C8 : Hid (Below V.heap.size V w8 ∧ Two w8 q3 (.int .i64 q.1.N) (.int .i64 q.1.D)) := hideK (by
    rw [← hw8, ← hq3]
    exact ⟨bup C7.out (bel1 _ _), Two.new _ _ _ _⟩)
  rw [hw8, hq3]
  clear hw8 hq3 C7
  obtain ⟨k0, k1, k2, k3, k4, k5⟩ := HK.out w8 C8.out.1
  by_cases hq : q.2 = 0
  case neg =>
    have HF : Hid (PtR w8 (.pointer none) EE LL ∧ Below D w w8) := hideK ⟨.inr ⟨by rw [HE.out]; rw [if_pos hq]; exact hq, rfl⟩, HV.out.1.trans (C8.out.1.mono HV.out.2.2)⟩
    have hee : EE = q.2 := by rw [HE.out]; rw [if_pos hq]
    rw [hee] at HF HP
    first | go_wp2_with fail | skip
    first
      | (rw [← HP.out]; exact ⟨_, rfl, HF.out.1, HF.out.2⟩)
      | (refine bodyPost_ret (v := .tuple #[.pointer none, .int .i64 (q.2)]) (by simp [results, Tryz.results11, go_sem]) rfl ?_; rw [← HP.out]; exact ⟨_, rfl, HF.out.1, HF.out.2⟩)
  case pos =>
  rw [if_neg (fun h => h hq)] at HE
  go_upto_region 16 with fail
  clear k0 k1 k2 k3 k4 k5
  obtain ⟨_, g0, g1, _, _⟩ := C8.out.2
  have HQ : Hid (∀ w', Below w8.heap.size w8 w' → w'.cell? ⟨q3, 0, none⟩ = some (.int .i64 q.1.N) ∧ w'.cell? ⟨q3, 1, none⟩ = some (.int .i64 q.1.D)) := hideK (fun W b => by
    obtain ⟨_, c0, c1, _, _⟩ := C8.out.2.keep b
    exact ⟨c0, c1⟩)
  go_region_held3 (fun w' => w'.cell? ⟨q3, 0, none⟩ = some (.int .i64 q.1.N) ∧ w'.cell? ⟨q3, 1, none⟩ = some (.int .i64 q.1.D)) (first | assumption | exact HQ.out _ (Below.refl _ _).drew | exact HQ.out _ c4 | exact HQ.out _ c5 | go_keep) (first
    | (go_at_call 19; (with_reducible refine Calls.mono (rnought6 _) ?_); rintro e v4 ⟨rfl, b4⟩; have c4 : Below w8.heap.size w8 v4 := (Below.refl w8.heap.size w8).drew.trans b4; obtain ⟨e0, e1⟩ := HQ.out _ c4)
    | (go_at_call 9; (with_reducible refine Calls.mono (HS.out _ hqi) ?_); rintro e v5 ⟨p5, rfl, hp5, b5⟩; have c5 : Below w8.heap.size w8 v5 := bup c4 b5; obtain ⟨m0, m1⟩ := HQ.out _ c5))
  all_goals
    have hee : EE = EN := HE.out
    have HF : Hid (PtR v5 p5 EE LL ∧ Below D w v5) := hideK ⟨by rw [hee]; exact hp5, HV.out.1.trans ((bup C8.out.1 c5).mono HV.out.2.2)⟩
    first | go_wp2_with fail | skip
    first
      | (rw [← HP.out]; exact ⟨p5, by first | rfl | (rw [hee]; try rfl), HF.out.1, HF.out.2⟩)
      | (refine bodyPost_ret (v := .tuple #[p5, .int .i64 EN]) (by simp [results, Tryz.results11, go_sem]) rfl ?_; rw [← HP.out]; exact ⟨p5, by first | rfl | (rw [hee]; try rfl), HF.out.1, HF.out.2⟩)
end Go.Proofs.YtipnefaggpigfaaGreat

/- RetimeMakes: the walk (chapter 6). -/
namespace Go.Proofs.YtipnefaggpigfaaGreat
open Go.RowKit Go.Shelf

set_option maxRecDepth 100000 in
set_option maxHeartbeats 2000000 in
theorem made6_any (L : List Kn) (hL : ∀ x ∈ L, KnIn x) (p q : Value) (E : Int) (T : List Rt) (ot : Option Addr) (c : Nat) (hT : ∀ t ∈ T, RtIn t) (hc : T.length ≤ c ∧ c ≤ maxLen) (hn : T.length ≤ 2000) (w : World) (hp : PtP w p E L) (hq : PtR w q E L) (hO : RtO w ot T) :
    Calls Tryz.prog 7 #[p, .int .i64 E, q, .int .i64 E, .slice ot T.length c] w fun e w' => e = .returned (.bool true) ∧ Below w.heap.size w w' := by
  rcases hp with ⟨h0, hz, B, rfl, hm⟩ | ⟨h0, rfl⟩
  · rcases hq with ⟨-, -, B2, rfl, hr⟩ | ⟨h1, -⟩
    case inr => exact absurd h0 h1
    subst h0
    have HL := hideK (like6_any (newK L) (new_gd hL hz) B B2 T ot c hT hc hn w hm hr hO)
    clear hm hr hO hc hn hT
    go_enter Tryz.func7, Tryz.ntmps7
    go_wp2_with fail
    refine HL.out.mono ?_
    rintro e w1 ⟨rfl, b1⟩
    have HB := hideK b1
    clear b1
    go_wp2_with fail
    go_ret
    exact ⟨rfl, HB.out⟩
  · rcases hq with ⟨h1, -⟩ | ⟨-, rfl⟩
    · exact absurd h1 h0
    go_enter Tryz.func7, Tryz.ntmps7
    go_wp2_with fail
    go_ret
    exact ⟨rfl, Below.refl _ _⟩
theorem ra_in (fn fd tn td : Int) : ∀ x ∈ raL fn fd tn td, KnIn x := sc_in zero_in
set_option maxRecDepth 100000 in
set_option maxHeartbeats 4000000 in
theorem makes6_walk (b a : Rt) (fn fd : Int) (fr : Bool) (tn td : Int) (tr : Bool) (T : List Rt) (ot : Option Addr) (ct : Nat) (hb : RtIn b) (ha : RtIn a) (h1 : I64 fn) (h2 : I64 fd) (h3 : I64 tn) (h4 : I64 td) (hT : ∀ t ∈ T, RtIn t) (hct : T.length ≤ ct ∧ ct ≤ maxLen) (w : World) (hR : RtO w ot T) :
    Calls Tryz.prog 3 #[.agg #[.int .i64 b.N, .int .i64 b.D], .agg #[.int .i64 a.N, .int .i64 a.D], .agg #[.int .i64 fn, .int .i64 fd, .bool fr], .agg #[.int .i64 tn, .int .i64 td, .bool tr], .slice ot T.length ct] w fun e w' => e = .returned (.bool true) ∧ Below w.heap.size w w' := by
  obtain ⟨m, hm⟩ : ∃ m, T.length = m := ⟨_, rfl⟩
  have HM := hideK hm
  have HR := hideK hR
  have HMd : Hid (T.length ≤ 2000 → ∀ (L : List Kn), (∀ x ∈ L, KnIn x) → ∀ (p q : Value) (E : Int) (W : World), PtP W p E L → PtR W q E L → Below w.heap.size w W → Calls Tryz.prog 7 #[p, .int .i64 E, q, .int .i64 E, .slice ot T.length ct] W fun e w' => e = .returned (.bool true) ∧ Below W.heap.size W w') := hideK (fun hn L hL p q E W hp hq q' => made6_any L hL p q E T ot ct hT hct hn W hp hq (hR.keep q'))
  have HS1 := hideK (fun W => shift6p b hb W)
  have HS2 := hideK (fun W => shift6r b hb W)
  have HC1 := hideK (fun W => scale6p b a hb ha W)
  have HC2 := hideK (fun W => scale6r b a hb ha W)
  have HR1 := hideK (fun W => rates6p fn fd fr tn td tr h1 h2 h3 h4 W)
  have HR2 := hideK (fun W => rates6r fn fd fr tn td tr h1 h2 h3 h4 W)
  have HI1 := hideK (sh_in hb)
  have HI2 := hideK (sc_in (b := b) ha)
  have HI3 := hideK (ra_in fn fd tn td)
  rw [hm] at hct HMd ⊢
  clear hm hR hT hb ha h1 h2 h3 h4
  generalize newE (shL b) = E1 at *
  generalize shL b = L1 at *
  generalize scE b a = E2 at *
  generalize scL b a = L2 at *
  generalize raE fn fd fr tn td tr = E3 at *
  generalize raL fn fd tn td = L3 at *
  obtain ⟨PO, hPO⟩ : ∃ PO : Ending → World → Prop, (fun e w' => e = .returned (.bool true) ∧ Below w.heap.size w w') = PO := ⟨_, rfl⟩
  have HP := hideK hPO
  rw [hPO]
  clear hPO
  go_enter Tryz.func3, Tryz.ntmps3
  go_upto_region 1 with fail
  obtain ⟨V, hV⟩ : ∃ V, (((w.alloc (.cells #[.int .i64 b.N, .int .i64 b.D] 23)).alloc (.cells #[.int .i64 a.N, .int .i64 a.D] 23)).alloc (.cells #[.int .i64 fn, .int .i64 fd, .bool fr] 25)).alloc (.cells #[.int .i64 tn, .int .i64 td, .bool tr] 25) = V := ⟨_, rfl⟩
  have HV : Hid (Below w.heap.size w V ∧ (Two V w.heap.size (.int .i64 b.N) (.int .i64 b.D) ∧ Two V (w.heap.size + 1) (.int .i64 a.N) (.int .i64 a.D) ∧ TriK V (w.heap.size + 1 + 1) (.int .i64 fn) (.int .i64 fd) (.bool fr) ∧ TriK V (w.heap.size + 1 + 1 + 1) (.int .i64 tn) (.int .i64 td) (.bool tr)) ∧ w.heap.size ≤ V.heap.size) := hideK (by
    rw [← hV]
    have h2 := Two.new (w.alloc (.cells #[.int .i64 b.N, .int .i64 b.D] 23)) (.int .i64 a.N) (.int .i64 a.D) 23
    have h3 := TriK.new ((w.alloc (.cells #[.int .i64 b.N, .int .i64 b.D] 23)).alloc (.cells #[.int .i64 a.N, .int .i64 a.D] 23)) (.int .i64 fn) (.int .i64 fd) (.bool fr) 25
    have h4 := TriK.new (((w.alloc (.cells #[.int .i64 b.N, .int .i64 b.D] 23)).alloc (.cells #[.int .i64 a.N, .int .i64 a.D] 23)).alloc (.cells #[.int .i64 fn, .int .i64 fd, .bool fr] 25)) (.int .i64 tn) (.int .i64 td) (.bool tr) 25
    rw [World.size_alloc] at h2
    rw [World.size_alloc, World.size_alloc] at h3
    rw [World.size_alloc, World.size_alloc, World.size_alloc] at h4
    exact ⟨bup (bel1 _ _) (bup (bel1 _ _) (bup (bel1 _ _) (bel1 _ _))), ⟨(Two.new w _ _ _).keep (bup (bel1 _ _) (bup (bel1 _ _) (bel1 _ _))), h2.keep (bup (bel1 _ _) (bel1 _ _)), h3.keep (bel1 _ _), h4⟩, by rw [World.size_alloc, World.size_alloc, World.size_alloc, World.size_alloc]; omega⟩)
  rw [hV]
  clear hV
  generalize w.heap.size = D at *
  have HK : Hid (∀ W, Below V.heap.size V W → W.cell? ⟨D, 0, none⟩ = some (.int .i64 b.N) ∧ W.cell? ⟨D, 1, none⟩ = some (.int .i64 b.D) ∧ W.cell? ⟨D + 1, 0, none⟩ = some (.int .i64 a.N) ∧ W.cell? ⟨D + 1, 1, none⟩ = some (.int .i64 a.D) ∧ W.cell? ⟨D + 1 + 1, 0, none⟩ = some (.int .i64 fn) ∧ W.cell? ⟨D + 1 + 1, 1, none⟩ = some (.int .i64 fd) ∧ W.cell? ⟨D + 1 + 1, 2, none⟩ = some (.bool fr) ∧ W.cell? ⟨D + 1 + 1 + 1, 0, none⟩ = some (.int .i64 tn) ∧ W.cell? ⟨D + 1 + 1 + 1, 1, none⟩ = some (.int .i64 td) ∧ W.cell? ⟨D + 1 + 1 + 1, 2, none⟩ = some (.bool tr)) := hideK (fun W q => by
    obtain ⟨_, c0, c1, _, _⟩ := HV.out.2.1.1.keep q
    obtain ⟨_, d0, d1, _, _⟩ := HV.out.2.1.2.1.keep q
    obtain ⟨_, x0, x1, x2⟩ := HV.out.2.1.2.2.1.keep q
    obtain ⟨_, y0, y1, y2⟩ := HV.out.2.1.2.2.2.keep q
    exact ⟨c0, c1, d0, d1, x0, x1, x2, y0, y1, y2⟩)
  go_wp2_with fail
  refine (known6_any V).mono ?_
  rintro e w1 ⟨rfl, b1⟩
  have C1 := hideK b1
  clear b1
  by_cases h2m : 2000 < m
  · have d4 : (2000 : Int) < (m : Int) := by omega
    have HF : Hid (Below D w w1) := hideK (HV.out.1.trans (C1.out.mono HV.out.2.2))
    go_wp2_with fail
    rw [← HP.out]
    exact ⟨rfl, HF.out⟩
  have d4 : ¬ (2000 : Int) < (m : Int) := by omega
  have hTl : m ≤ 2000 := by omega
  obtain ⟨k0, k1, k2, k3, k4, k5, k6, k7, k8, k9⟩ := HK.out w1 C1.out
  go_wp2_with fail
  refine (HS1.out w1).mono ?_
  rintro e w2 ⟨p1, rfl, hp, b9⟩
  have C2 := hideK (And.intro (bup C1.out b9) hp)
  clear hp b9 k0 k1 k2 k3 k4 k5 k6 k7 k8 k9 C1 HS1
  obtain ⟨k0, k1, k2, k3, k4, k5, k6, k7, k8, k9⟩ := HK.out w2 C2.out.1
  go_wp2_with fail
  refine (HS2.out w2).mono ?_
  rintro e w3 ⟨q1, rfl, hq, b9⟩
  have C3 := hideK (And.intro (bup C2.out.1 b9) (And.intro (C2.out.2.keep b9) hq))
  clear hq b9 k0 k1 k2 k3 k4 k5 k6 k7 k8 k9 C2 HS2
  obtain ⟨k0, k1, k2, k3, k4, k5, k6, k7, k8, k9⟩ := HK.out w3 C3.out.1
  have hmd := hideK (HMd.out hTl L1 HI1.out p1 q1 E1 w3 C3.out.2.1 C3.out.2.2 (HV.out.1.trans (C3.out.1.mono HV.out.2.2)))
  go_wp2_with fail
  refine hmd.out.mono ?_
  rintro e w4 ⟨rfl, b9⟩
  have C4 := hideK (bup C3.out.1 b9)
  clear b9 k0 k1 k2 k3 k4 k5 k6 k7 k8 k9 C3 hmd
  obtain ⟨k0, k1, k2, k3, k4, k5, k6, k7, k8, k9⟩ := HK.out w4 C4.out
  go_wp2_with fail
  refine (HC1.out w4).mono ?_
  rintro e w5 ⟨p2, rfl, hp, b9⟩
  have C5 := hideK (And.intro (bup C4.out b9) hp)
  clear hp b9 k0 k1 k2 k3 k4 k5 k6 k7 k8 k9 C4 HC1
  obtain ⟨k0, k1, k2, k3, k4, k5, k6, k7, k8, k9⟩ := HK.out w5 C5.out.1
  go_wp2_with fail
  refine (HC2.out w5).mono ?_
  rintro e w6 ⟨q2, rfl, hq, b9⟩
  have C6 := hideK (And.intro (bup C5.out.1 b9) (And.intro (C5.out.2.keep b9) hq))
  clear hq b9 k0 k1 k2 k3 k4 k5 k6 k7 k8 k9 C5 HC2
  obtain ⟨k0, k1, k2, k3, k4, k5, k6, k7, k8, k9⟩ := HK.out w6 C6.out.1
  have hmd := hideK (HMd.out hTl L2 HI2.out p2 q2 E2 w6 C6.out.2.1 C6.out.2.2 (HV.out.1.trans (C6.out.1.mono HV.out.2.2)))
  go_wp2_with fail
  refine hmd.out.mono ?_
  rintro e w7 ⟨rfl, b9⟩
  have C7 := hideK (bup C6.out.1 b9)
  clear b9 k0 k1 k2 k3 k4 k5 k6 k7 k8 k9 C6 hmd
  obtain ⟨k0, k1, k2, k3, k4, k5, k6, k7, k8, k9⟩ := HK.out w7 C7.out
  go_wp2_with fail
  refine (HR1.out w7).mono ?_
  rintro e w8 ⟨p3, rfl, hp, b9⟩
  have C8 := hideK (And.intro (bup C7.out b9) hp)
  clear hp b9 k0 k1 k2 k3 k4 k5 k6 k7 k8 k9 C7 HR1
  obtain ⟨k0, k1, k2, k3, k4, k5, k6, k7, k8, k9⟩ := HK.out w8 C8.out.1
  go_wp2_with fail
  refine (HR2.out w8).mono ?_
  rintro e w9 ⟨q3, rfl, hq, b9⟩
  have C9 := hideK (And.intro (bup C8.out.1 b9) (And.intro (C8.out.2.keep b9) hq))
  clear hq b9 k0 k1 k2 k3 k4 k5 k6 k7 k8 k9 C8 HR2
  obtain ⟨k0, k1, k2, k3, k4, k5, k6, k7, k8, k9⟩ := HK.out w9 C9.out.1
  have hmd := hideK (HMd.out hTl L3 HI3.out p3 q3 E3 w9 C9.out.2.1 C9.out.2.2 (HV.out.1.trans (C9.out.1.mono HV.out.2.2)))
  go_wp2_with fail
  refine hmd.out.mono ?_
  rintro e w10 ⟨rfl, b9⟩
  have C10 := hideK (bup C9.out.1 b9)
  clear b9 k0 k1 k2 k3 k4 k5 k6 k7 k8 k9 C9 hmd
  have HF : Hid (Below D w w10) := hideK (HV.out.1.trans (C10.out.mono HV.out.2.2))
  go_wp2_with fail
  rw [← HP.out]
  exact ⟨rfl, HF.out⟩
end Go.Proofs.YtipnefaggpigfaaGreat
