/- Knots, their slopes: retime's inOf, outOf, whole, slope, rising, check (chapter 6). -/
import Derived.Test.YtipnefaggpigfaaRatW11
import Derived.Test.YtipnefaggpigfaaRowsM
import Derived.Test.YtipnefaggpigfaaRefB4
import Derived.Test.YtipnefaggpigfaaQuG
namespace Go.Proofs.Ytipnefaggpigfaa
open Go.RowKit Go.Shelf

theorem hideK {p : Prop} (h : p) : Hid p := h
/-- A knot. -/
structure Kn where
  i : Rt
  o : Rt
def Kn.cells (x : Kn) : Array Value := #[.int .i64 x.i.N, .int .i64 x.i.D, .int .i64 x.o.N, .int .i64 x.o.D]
def KnIn (x : Kn) : Prop := RtIn x.i ∧ RtIn x.o
theorem addrN_block (a : Addr) (n : Nat) : (a.add n).block = a.block := by unfold Addr.add; split <;> rfl
/-- Knots that lie one behind the other at an address. -/
def KnO (V : World) (oa : Option Addr) (Q : List Kn) : Prop := ∀ (i : Nat) (x : Kn), Q[i]? = some x → ∃ a : Addr, oa = some a ∧ a.block < V.heap.size ∧ V.cell? (a.add (i * 4)) = some (.int .i64 x.i.N) ∧ V.cell? ⟨(a.add (i * 4)).block, (a.add (i * 4)).off + 1, none⟩ = some (.int .i64 x.i.D) ∧ V.cell? ⟨(a.add (i * 4)).block, (a.add (i * 4)).off + 2, none⟩ = some (.int .i64 x.o.N) ∧ V.cell? ⟨(a.add (i * 4)).block, (a.add (i * 4)).off + 3, none⟩ = some (.int .i64 x.o.D)
theorem KnO.keep {V V2 : World} {oa : Option Addr} {Q : List Kn} (h : KnO V oa Q) (b : Below V.heap.size V V2) : KnO V2 oa Q := fun i p hp => by
  obtain ⟨a, ha, hb, h0, h1, h2, h3⟩ := h i p hp
  have k : (a.add (i * 4)).block < V.heap.size := by rw [addrN_block]; exact hb
  exact ⟨a, ha, Nat.lt_of_lt_of_le hb b.size, (b.cell k).trans h0, (b.cell (p := ⟨(a.add (i * 4)).block, _, none⟩) k).trans h1, (b.cell (p := ⟨(a.add (i * 4)).block, _, none⟩) k).trans h2, (b.cell (p := ⟨(a.add (i * 4)).block, _, none⟩) k).trans h3⟩
/-- The slope between two knots. -/
def slopeA (a b : Kn) : Rt × Int := if ¬ (subA b.o a.o).2 = 0 then (⟨0, 0⟩, (subA b.o a.o).2) else if ¬ (subA b.i a.i).2 = 0 then (⟨0, 0⟩, (subA b.i a.i).2) else divA (subA b.o a.o).1 (subA b.i a.i).1
/-- Do the ends rise? -/
def riseB (g : Kn → Rt) : List Kn → Bool
  | a :: b :: t => decide (0 < cmpI (g b) (g a)) && riseB g (b :: t)
  | _ => true
/-- What check tells. -/
def chkK (L : List Kn) : Int := if L.length = 0 then 1 else if 64 < L.length then 2 else if (L.all fun x => rightB x.i && rightB x.o) = false then 12 else if riseB (·.i) L = false then 33 else if riseB (·.o) L = false then 32 else 0

set_option maxRecDepth 100000 in
theorem whole6 (n : Int) (w : World) : Calls Try.prog 52 #[.int .i64 n] w fun e w' => e = .returned (.agg #[.int .i64 n, .int .i64 1]) ∧ Below w.heap.size w w' := by
  go_enter Try.func52, Try.ntmps52
  go_wp2_with fail
  refine bodyPost_ret (v := .agg #[.int .i64 n, .int .i64 1]) (by simp [results, Try.results52, go_sem]) rfl ⟨rfl, ?_⟩
  exact bel1 _ _
set_option maxRecDepth 100000 in
theorem inOf_any (x : Kn) (w : World) : Calls Try.prog 45 #[.agg #[.int .i64 x.i.N, .int .i64 x.i.D, .int .i64 x.o.N, .int .i64 x.o.D]] w fun e w' => e = .returned (.agg #[.int .i64 x.i.N, .int .i64 x.i.D]) ∧ Below w.heap.size w w' := by
  go_enter Try.func45, Try.ntmps45
  go_wp2_with fail
  refine bodyPost_ret (v := .agg #[.int .i64 x.i.N, .int .i64 x.i.D]) (by simp [results, Try.results45, go_sem]) rfl ⟨rfl, ?_⟩
  exact ((Below.refl _ w).alloc (Nat.le_refl _) _).alloc (by simp) _
set_option maxRecDepth 100000 in
theorem outOf_any (x : Kn) (w : World) : Calls Try.prog 48 #[.agg #[.int .i64 x.i.N, .int .i64 x.i.D, .int .i64 x.o.N, .int .i64 x.o.D]] w fun e w' => e = .returned (.agg #[.int .i64 x.o.N, .int .i64 x.o.D]) ∧ Below w.heap.size w w' := by
  go_enter Try.func48, Try.ntmps48
  go_wp2_with fail
  refine bodyPost_ret (v := .agg #[.int .i64 x.o.N, .int .i64 x.o.D]) (by simp [results, Try.results48, go_sem]) rfl ⟨rfl, ?_⟩
  exact ((Below.refl _ w).alloc (Nat.le_refl _) _).alloc (by simp) _
set_option maxRecDepth 100000 in
set_option maxHeartbeats 1000000 in
theorem slope_walk (x y : Kn) (p0 p1 p2 q0 q1 q2 d0 d1 d2 r0 r1 r2 : Int) (w : World)
    (hr1 : ¬ p2 = 0 → r0 = 0 ∧ r1 = 0 ∧ r2 = p2) (hr2 : p2 = 0 → ¬ q2 = 0 → r0 = 0 ∧ r1 = 0 ∧ r2 = q2) (hr3 : p2 = 0 → q2 = 0 → r0 = d0 ∧ r1 = d1 ∧ r2 = d2)
    (H1 : ∀ W, Calls Try.prog 55 #[.agg #[.int .i64 y.o.N, .int .i64 y.o.D], .agg #[.int .i64 x.o.N, .int .i64 x.o.D]] W fun e w' => e = .returned (.tuple #[.agg #[.int .i64 p0, .int .i64 p1], .int .i64 p2]) ∧ Below W.heap.size W w')
    (H2 : ∀ W, Calls Try.prog 55 #[.agg #[.int .i64 y.i.N, .int .i64 y.i.D], .agg #[.int .i64 x.i.N, .int .i64 x.i.D]] W fun e w' => e = .returned (.tuple #[.agg #[.int .i64 q0, .int .i64 q1], .int .i64 q2]) ∧ Below W.heap.size W w')
    (H3 : ∀ W, Calls Try.prog 49 #[.agg #[.int .i64 p0, .int .i64 p1], .agg #[.int .i64 q0, .int .i64 q1]] W fun e w' => e = .returned (.tuple #[.agg #[.int .i64 d0, .int .i64 d1], .int .i64 d2]) ∧ Below W.heap.size W w') :
    Calls Try.prog 53 #[.agg #[.int .i64 x.i.N, .int .i64 x.i.D, .int .i64 x.o.N, .int .i64 x.o.D], .agg #[.int .i64 y.i.N, .int .i64 y.i.D, .int .i64 y.o.N, .int .i64 y.o.D]] w fun e w' => e = .returned (.tuple #[.agg #[.int .i64 r0, .int .i64 r1], .int .i64 r2]) ∧ Below w.heap.size w w' := by
  have HQ1 := hideK hr1
  have HQ2 := hideK hr2
  have HQ3 := hideK hr3
  replace H1 := hideK H1
  replace H2 := hideK H2
  replace H3 := hideK H3
  clear hr1 hr2 hr3
  go_enter Try.func53, Try.ntmps53
  go_wp2_with fail
  obtain ⟨V, hV⟩ : ∃ V, ((w.alloc (.cells #[.int .i64 x.i.N, .int .i64 x.i.D, .int .i64 x.o.N, .int .i64 x.o.D] 45)).alloc (.cells #[.int .i64 y.i.N, .int .i64 y.i.D, .int .i64 y.o.N, .int .i64 y.o.D] 45)).alloc (.cells #[.int .i64 0, .int .i64 0] 42) = V := ⟨_, rfl⟩
  have HV : Hid (Below w.heap.size w V ∧ V.heap[w.heap.size]? = some (.cells #[.int .i64 x.i.N, .int .i64 x.i.D, .int .i64 x.o.N, .int .i64 x.o.D] 45) ∧ V.heap[w.heap.size + 1]? = some (.cells #[.int .i64 y.i.N, .int .i64 y.i.D, .int .i64 y.o.N, .int .i64 y.o.D] 45) ∧ Two V (w.heap.size + 1 + 1) (.int .i64 0) (.int .i64 0)) := hideK (by
    rw [← hV]
    refine ⟨bup (bup (bel1 _ _) (bel1 _ _)) (bel1 _ _), ?_, ?_, ?_⟩
    · exact (Below.heap_alloc _ _ _ (by rw [World.size_alloc, World.size_alloc]; omega)).trans ((Below.heap_alloc _ _ _ (by rw [World.size_alloc]; omega)).trans (World.alloc_heap_new w _))
    · have h := World.alloc_heap_new (w.alloc (.cells #[.int .i64 x.i.N, .int .i64 x.i.D, .int .i64 x.o.N, .int .i64 x.o.D] 45)) (.cells #[.int .i64 y.i.N, .int .i64 y.i.D, .int .i64 y.o.N, .int .i64 y.o.D] 45)
      rw [World.size_alloc] at h
      exact (Below.heap_alloc _ _ _ (by rw [World.size_alloc, World.size_alloc]; omega)).trans h
    · have h := Two.new ((w.alloc (.cells #[.int .i64 x.i.N, .int .i64 x.i.D, .int .i64 x.o.N, .int .i64 x.o.D] 45)).alloc (.cells #[.int .i64 y.i.N, .int .i64 y.i.D, .int .i64 y.o.N, .int .i64 y.o.D] 45)) (.int .i64 0) (.int .i64 0) 42
      rw [World.size_alloc, World.size_alloc] at h
      exact h)
  rw [hV]
  clear hV
  refine (H1.out V).mono ?_
  rintro e w2 ⟨rfl, b2⟩
  have HC : Hid (Below w.heap.size w w2 ∧ Two w2 (w.heap.size + 1 + 1) (.int .i64 0) (.int .i64 0) ∧ w2.heap[w.heap.size]? = some (.cells #[.int .i64 x.i.N, .int .i64 x.i.D, .int .i64 x.o.N, .int .i64 x.o.D] 45) ∧ w2.heap[w.heap.size + 1]? = some (.cells #[.int .i64 y.i.N, .int .i64 y.i.D, .int .i64 y.o.N, .int .i64 y.o.D] 45)) := hideK ⟨bup HV.out.1 b2, HV.out.2.2.2.keep b2, (b2.block _ (Array.getElem?_eq_some_iff.1 HV.out.2.1).1).trans HV.out.2.1, (b2.block _ (Array.getElem?_eq_some_iff.1 HV.out.2.2.1).1).trans HV.out.2.2.1⟩
  clear b2
  go_upto_region 2 with fail
  obtain ⟨W2, hW2⟩ : ∃ W2, w2.alloc (.cells #[.int .i64 p0, .int .i64 p1] 42) = W2 := ⟨_, rfl⟩
  have HD : Hid (Below w.heap.size w W2 ∧ Two W2 (w.heap.size + 1 + 1) (.int .i64 0) (.int .i64 0) ∧ (W2.heap[w.heap.size]? = some (.cells #[.int .i64 x.i.N, .int .i64 x.i.D, .int .i64 x.o.N, .int .i64 x.o.D] 45) ∧ W2.heap[w.heap.size + 1]? = some (.cells #[.int .i64 y.i.N, .int .i64 y.i.D, .int .i64 y.o.N, .int .i64 y.o.D] 45)) ∧ Two W2 w2.heap.size (.int .i64 p0) (.int .i64 p1)) := hideK (by
    rw [← hW2]
    exact ⟨bup HC.out.1 (bel1 _ _), HC.out.2.1.keep (bel1 _ _), ⟨(Below.heap_alloc _ _ _ (Array.getElem?_eq_some_iff.1 HC.out.2.2.1).1).trans HC.out.2.2.1, (Below.heap_alloc _ _ _ (Array.getElem?_eq_some_iff.1 HC.out.2.2.2).1).trans HC.out.2.2.2⟩, Two.new _ _ _ _⟩)
  rw [hW2]
  clear hW2
  generalize w2.heap.size = B2 at *
  by_cases hp : p2 = 0
  · subst hp
    have k0 : W2.cell? ⟨w.heap.size, 0, none⟩ = some (.int .i64 x.i.N) := by simp [World.cell?, HD.out.2.2.1.1]
    have k1 : W2.cell? ⟨w.heap.size, 1, none⟩ = some (.int .i64 x.i.D) := by simp [World.cell?, HD.out.2.2.1.1]
    have l0 : W2.cell? ⟨w.heap.size + 1, 0, none⟩ = some (.int .i64 y.i.N) := by simp [World.cell?, HD.out.2.2.1.2]
    have l1 : W2.cell? ⟨w.heap.size + 1, 1, none⟩ = some (.int .i64 y.i.D) := by simp [World.cell?, HD.out.2.2.1.2]
    go_wp2_with fail
    refine (H2.out W2).mono ?_
    rintro e w3 ⟨rfl, b3⟩
    have HE : Hid (Below w.heap.size w w3 ∧ Two w3 (w.heap.size + 1 + 1) (.int .i64 0) (.int .i64 0) ∧ Two w3 B2 (.int .i64 p0) (.int .i64 p1)) := hideK ⟨bup HD.out.1 b3, HD.out.2.1.keep b3, HD.out.2.2.2.keep b3⟩
    clear b3 k0 k1 l0 l1
    go_upto_region 5 with fail
    obtain ⟨W3, hW3⟩ : ∃ W3, w3.alloc (.cells #[.int .i64 q0, .int .i64 q1] 42) = W3 := ⟨_, rfl⟩
    have HF : Hid (Below w.heap.size w W3 ∧ Two W3 (w.heap.size + 1 + 1) (.int .i64 0) (.int .i64 0) ∧ Two W3 B2 (.int .i64 p0) (.int .i64 p1) ∧ Two W3 w3.heap.size (.int .i64 q0) (.int .i64 q1)) := hideK (by
      rw [← hW3]
      exact ⟨bup HE.out.1 (bel1 _ _), HE.out.2.1.keep (bel1 _ _), HE.out.2.2.keep (bel1 _ _), Two.new _ _ _ _⟩)
    rw [hW3]
    clear hW3
    generalize w3.heap.size = B3 at *
    by_cases hq : q2 = 0
    · subst hq
      obtain ⟨rfl, rfl, rfl⟩ := HQ3.out (by first | trivial | rfl) (by first | trivial | rfl)
      obtain ⟨_, k0, k1, _, _⟩ := HF.out.2.2.1
      obtain ⟨_, l0, l1, _, _⟩ := HF.out.2.2.2
      go_wp2_with fail
      refine (H3.out W3).mono ?_
      rintro e w4 ⟨rfl, b4⟩
      have HG : Hid (Below w.heap.size w w4 ∧ Two w4 (w.heap.size + 1 + 1) (.int .i64 0) (.int .i64 0)) := hideK ⟨bup HF.out.1 b4, HF.out.2.1.keep b4⟩
      clear b4 k0 k1 l0 l1
      obtain ⟨_, z0, z1, f0, f1⟩ := HG.out.2
      go_wp2_with fail
      refine bodyPost_ret (v := .tuple #[.agg #[.int .i64 r0, .int .i64 r1], .int .i64 r2]) (by simp [results, Try.results53, go_sem, z0, z1]) rfl ⟨rfl, ?_⟩
      exact (HG.out.1.setCell (by simp; omega) _).setCell (by simp; omega) _
    · obtain ⟨rfl, rfl, rfl⟩ := HQ2.out (by first | trivial | rfl) hq
      obtain ⟨_, z0, z1, f0, f1⟩ := HF.out.2.1
      go_wp2_with fail
      refine bodyPost_ret (v := .tuple #[.agg #[.int .i64 0, .int .i64 0], .int .i64 r2]) (by simp [results, Try.results53, go_sem, z0, z1]) rfl ⟨rfl, ?_⟩
      exact (HF.out.1.setCell (by simp; omega) _).setCell (by simp; omega) _
  · obtain ⟨rfl, rfl, rfl⟩ := HQ1.out hp
    obtain ⟨_, z0, z1, f0, f1⟩ := HD.out.2.1
    go_wp2_with fail
    refine bodyPost_ret (v := .tuple #[.agg #[.int .i64 0, .int .i64 0], .int .i64 r2]) (by simp [results, Try.results53, go_sem, z0, z1]) rfl ⟨rfl, ?_⟩
    exact (HD.out.1.setCell (by simp; omega) _).setCell (by simp; omega) _
theorem bad_inK : RtIn ⟨0, 0⟩ := ⟨⟨by simp, by simp⟩, ⟨by simp, by simp⟩⟩
theorem subA_inK (a b : Rt) : RtIn (subA a b).1 := by
  unfold subA
  split
  · exact low_in _
  · exact bad_inK
theorem divA_inK (a b : Rt) : RtIn (divA a b).1 := by
  unfold divA
  split
  · split
    · exact bad_inK
    · exact low_in _
  · exact bad_inK
theorem slope_any (x y : Kn) (hx : KnIn x) (hy : KnIn y) (w : World) :
    Calls Try.prog 53 #[.agg x.cells, .agg y.cells] w fun e w' => e = .returned (.tuple #[.agg #[.int .i64 (slopeA x y).1.N, .int .i64 (slopeA x y).1.D], .int .i64 (slopeA x y).2]) ∧ Below w.heap.size w w' := by
  refine slope_walk x y _ _ _ _ _ _ _ _ _ _ _ _ w ?_ ?_ ?_ (sub_any y.o x.o hy.2 hx.2) (sub_any y.i x.i hy.1 hx.1) (quo_any _ _ (subA_inK _ _) (subA_inK _ _))
  · intro h
    unfold slopeA
    rw [if_pos h]
    exact ⟨rfl, rfl, rfl⟩
  · intro h1 h2
    unfold slopeA
    rw [if_neg (fun h => h h1), if_pos h2]
    exact ⟨rfl, rfl, rfl⟩
  · intro h1 h2
    unfold slopeA
    rw [if_neg (fun h => h h1), if_neg (fun h => h h2)]
    exact ⟨rfl, rfl, rfl⟩
end Go.Proofs.Ytipnefaggpigfaa
