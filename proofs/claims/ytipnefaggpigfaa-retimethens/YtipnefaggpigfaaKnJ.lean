/- Of a map, the piece that a time lies in: sort.Search, retime's piece (chapter 6). -/
import Derived.Test.YtipnefaggpigfaaKnF
namespace Go.Proofs.Ytipnefaggpigfaa
open Go.RowKit Go.Shelf

set_option maxRecDepth 100000 in
set_option maxHeartbeats 1000000 in
theorem search_any (p : Nat → Bool) (n : Nat) (hn : n ≤ 1000) (p1 p2 p3 : Nat) (w : World)
    (H : ∀ i : Nat, i < n → ∀ W, Below w.heap.size w W → Calls Try.prog 73 #[.int .i64 (i : Nat), .pointer (some ⟨p1, 0, none⟩), .pointer (some ⟨p2, 0, none⟩), .pointer (some ⟨p3, 0, none⟩)] W fun e w' => e = .returned (.bool (p i)) ∧ Below W.heap.size W w') :
    Calls Try.prog 72 #[.int .i64 (n : Nat), .func (.func 73) #[] #[.pointer (some ⟨p1, 0, none⟩), .pointer (some ⟨p2, 0, none⟩), .pointer (some ⟨p3, 0, none⟩)]] w fun e w' => ∃ k : Nat, e = .returned (.int .i64 (k : Nat)) ∧ k ≤ n ∧ (0 < k → p (k - 1) = false) ∧ (k < n → p k = true) ∧ Below w.heap.size w w' := by
  have HF := hideK H
  clear H
  obtain ⟨PO, hPO⟩ : ∃ PO : Ending → World → Prop, (fun e w' => ∃ k : Nat, e = .returned (.int .i64 (k : Nat)) ∧ k ≤ n ∧ (0 < k → p (k - 1) = false) ∧ (k < n → p k = true) ∧ Below w.heap.size w w') = PO := ⟨_, rfl⟩
  have HP := hideK hPO
  rw [hPO]
  clear hPO
  go_enter Try.func72, Try.ntmps72
  go_wp2_with fail
  go_loopw [5, 6] (fun iv jv wq => ∃ lo hi : Nat, iv = .int .i64 (lo : Nat) ∧ jv = .int .i64 (hi : Nat) ∧ lo ≤ hi ∧ hi ≤ n ∧ Hid (0 < lo → p (lo - 1) = false) ∧ Hid (hi < n → p hi = true) ∧ Below w.heap.size w wq) (fun iv jv _ => (intOf jv).toNat - (intOf iv).toNat)
  case atStart => exact ⟨0, n, rfl, rfl, Nat.zero_le _, Nat.le_refl _, fun h => absurd h (Nat.lt_irrefl _), fun h => absurd h (Nat.lt_irrefl _), Below.refl _ _⟩
  case round =>
    obtain ⟨lo, hi, rfl, rfl, hlh, hin, h1, h2, hb⟩ := hrel
    obtain ⟨wq, rfl⟩ : ∃ wq, wq = wr := ⟨_, rfl⟩
    by_cases hlt : lo < hi
    · have hm : (lo + hi) / 2 < n := by omega
      have hc := hideK (HF.out ((lo + hi) / 2) (by omega) wq hb)
      have dlt : (lo : Int) < (hi : Int) := by omega
      have HA := hideK hb
      clear hb
      obtain ⟨m, hmd⟩ : ∃ m, (lo + hi) / 2 = m := ⟨_, rfl⟩
      rw [hmd] at hc hm
      have e1 : ((lo : Int) + (hi : Int)) / 2 = (m : Int) := by omega
      cases hp : p m with
      | false =>
        rw [hp] at hc
        have HPm := hideK hp
        clear hp
        go_wp2_with fail
        refine hc.out.mono ?_
        rintro e w2 ⟨rfl, b2⟩
        have HX := hideK (bup HA.out b2)
        clear b2 hc
        go_wp2_with fail
        go_roundw
        case rel =>
          refine ⟨m + 1, hi, by first | rfl | simp, rfl, by omega, hin, fun _ => HPm.out, h2, HX.out⟩
        case measure => simp [intOf]; omega
      | true =>
        rw [hp] at hc
        have HPm := hideK hp
        clear hp
        go_wp2_with fail
        refine hc.out.mono ?_
        rintro e w2 ⟨rfl, b2⟩
        have HX := hideK (bup HA.out b2)
        clear b2 hc
        go_wp2_with fail
        go_roundw
        case rel =>
          refine ⟨lo, m, rfl, by first | rfl | simp, by omega, by omega, h1, fun _ => HPm.out, HX.out⟩
        case measure => simp [intOf]; omega
    · obtain rfl : lo = hi := by omega
      have dlt : ¬ (lo : Int) < (lo : Int) := by omega
      have HA := hideK (And.intro h1 (And.intro h2 hb))
      clear h1 h2 hb
      go_wp2_with fail
      rw [← HP.out]
      exact ⟨lo, rfl, hin, HA.out.1.out, HA.out.2.1.out, HA.out.2.2⟩
/-- The knot that a time is reckoned from, and the slope. -/
def PieceOf (g : Kn → Rt) (K : List Kn) (S : List Rt) (t : Rt) (x : Kn) (s : Rt) : Prop := ∃ k, k ≤ K.length ∧ K[k - 1]? = some x ∧ S[k]? = some s ∧ (0 < k → ¬ 0 < cmpI (g x) t) ∧ (∀ y, K[k]? = some y → 0 < cmpI (g y) t)
set_option maxRecDepth 100000 in
set_option maxHeartbeats 1000000 in
theorem closure_in (K : List Kn) (S : List Rt) (B i b1 b2 b3 : Nat) (x : Kn) (t : Rt) (hx : K[i]? = some x) (hxi : KnIn x) (ht : RtIn t) (w : World) (hM : MapAt w B K S)
    (hb1 : b1 < w.heap.size) (k1 : w.cell? ⟨b1, 0, none⟩ = some (.func (.func 45) #[] #[])) (hb2 : b2 < w.heap.size) (k2 : w.cell? ⟨b2, 0, none⟩ = some (.pointer (some ⟨B, 0, none⟩))) (hb3 : b3 < w.heap.size) (k3 : w.cell? ⟨b3, 0, none⟩ = some (.int .i64 t.N)) (k4 : w.cell? ⟨b3, 1, none⟩ = some (.int .i64 t.D)) :
    Calls Try.prog 73 #[.int .i64 (i : Nat), .pointer (some ⟨b1, 0, none⟩), .pointer (some ⟨b2, 0, none⟩), .pointer (some ⟨b3, 0, none⟩)] w fun e w' => e = .returned (.bool (decide (0 < cmpI x.i t))) ∧ Below w.heap.size w w' := by
  obtain ⟨oa, c1, ob, c2, q0, q1, h1, h2, h3, h4⟩ := hM.open
  have hBz := hM.lt
  obtain ⟨A, rfl, hA, a0, a1, a2, a3⟩ := h3 i x hx
  have hil := (List.getElem?_eq_some_iff.1 hx).1
  obtain ⟨n, hn⟩ : ∃ n, K.length = n := ⟨_, rfl⟩
  rw [hn] at q0 hil h1
  have hc1 : c1 ≤ 9223372036854775807 := h1.2
  have di : (i : Int) < (n : Int) := by omega
  have kA : (A.add (i * 4)).block < w.heap.size := by rw [addrN_block]; exact hA
  have HE := hideK (fun W : World => inOf_any x W)
  have HC := hideK (show ∀ W : World, Calls Try.prog 35 #[.agg #[.int .i64 x.i.N, .int .i64 x.i.D], .agg #[.int .i64 t.N, .int .i64 t.D]] W fun e w' => e = .returned (.int .i64 (cmpI x.i t)) ∧ Below W.heap.size W w' from fun W => cmp_any x.i t hxi.1 ht W)
  generalize cmpI x.i t = cc at HC ⊢
  clear hM h1 h2 h3 h4 q1 hx hxi ht hn
  have p0 : ∀ q : GrownQ w, q.V.cell? (A.add (i * 4)) = some (.int .i64 x.i.N) := fun q => (q.h.cell kA).trans a0
  have p1 : ∀ q : GrownQ w, q.V.cell? ⟨(A.add (i * 4)).block, (A.add (i * 4)).off + 1, none⟩ = some (.int .i64 x.i.D) := fun q => (q.h.cell (p := ⟨(A.add (i * 4)).block, (A.add (i * 4)).off + 1, none⟩) kA).trans a1
  have p2 : ∀ q : GrownQ w, q.V.cell? ⟨(A.add (i * 4)).block, (A.add (i * 4)).off + 2, none⟩ = some (.int .i64 x.o.N) := fun q => (q.h.cell (p := ⟨(A.add (i * 4)).block, (A.add (i * 4)).off + 2, none⟩) kA).trans a2
  have p3 : ∀ q : GrownQ w, q.V.cell? ⟨(A.add (i * 4)).block, (A.add (i * 4)).off + 3, none⟩ = some (.int .i64 x.o.D) := fun q => (q.h.cell (p := ⟨(A.add (i * 4)).block, (A.add (i * 4)).off + 3, none⟩) kA).trans a3
  have r0 : ∀ q : GrownQ w, q.V.cell? ⟨b1, 0, none⟩ = some (.func (.func 45) #[] #[]) := fun q => (q.h.cell (p := ⟨b1, 0, none⟩) hb1).trans k1
  have r1 : ∀ q : GrownQ w, q.V.cell? ⟨b2, 0, none⟩ = some (.pointer (some ⟨B, 0, none⟩)) := fun q => (q.h.cell (p := ⟨b2, 0, none⟩) hb2).trans k2
  have r2 : ∀ q : GrownQ w, q.V.cell? ⟨b3, 0, none⟩ = some (.int .i64 t.N) := fun q => (q.h.cell (p := ⟨b3, 0, none⟩) hb3).trans k3
  have r3 : ∀ q : GrownQ w, q.V.cell? ⟨b3, 1, none⟩ = some (.int .i64 t.D) := fun q => (q.h.cell (p := ⟨b3, 1, none⟩) hb3).trans k4
  have r4 : ∀ q : GrownQ w, q.V.cell? ⟨B, 0, none⟩ = some (.slice (some A) n c1) := fun q => (q.h.cell (p := ⟨B, 0, none⟩) hBz).trans q0
  clear a0 a1 a2 a3 k1 k2 k3 k4 q0
  go_enter Try.func73, Try.ntmps73
  go_upto_region 1 with fail
  refine region_grown w w (by kernel_rfl) (by kernel_rfl) (Below.refl _ _) ?_
  repeat (go_big_quiet_step (first
    | (rename_i q; (with_reducible refine (HC.out _).mono ?_); rintro e V1 ⟨rfl, h1⟩; exact ⟨rfl, ⟨V1, q.h.trans (h1.mono q.h.size)⟩, rfl⟩)
    | (rename_i q; (with_reducible refine (HE.out _).mono ?_); rintro e V1 ⟨rfl, h1⟩; exact ⟨rfl, ⟨V1, q.h.trans (h1.mono q.h.size)⟩, rfl⟩)))
  refine wpQuiet_nil ?_
  rintro W9 ⟨⟨V9, hb9⟩, hv9⟩
  have hv9 : W9 = V9 := hv9
  subst hv9
  clear p0 p1 p2 p3 r0 r1 r2 r3 r4
  go_wp2_with fail
  go_ret
  exact ⟨by first | rfl | simp, hb9⟩
set_option maxRecDepth 100000 in
set_option maxHeartbeats 1000000 in
theorem closure_out (K : List Kn) (S : List Rt) (B i b1 b2 b3 : Nat) (x : Kn) (t : Rt) (hx : K[i]? = some x) (hxi : KnIn x) (ht : RtIn t) (w : World) (hM : MapAt w B K S)
    (hb1 : b1 < w.heap.size) (k1 : w.cell? ⟨b1, 0, none⟩ = some (.func (.func 48) #[] #[])) (hb2 : b2 < w.heap.size) (k2 : w.cell? ⟨b2, 0, none⟩ = some (.pointer (some ⟨B, 0, none⟩))) (hb3 : b3 < w.heap.size) (k3 : w.cell? ⟨b3, 0, none⟩ = some (.int .i64 t.N)) (k4 : w.cell? ⟨b3, 1, none⟩ = some (.int .i64 t.D)) :
    Calls Try.prog 73 #[.int .i64 (i : Nat), .pointer (some ⟨b1, 0, none⟩), .pointer (some ⟨b2, 0, none⟩), .pointer (some ⟨b3, 0, none⟩)] w fun e w' => e = .returned (.bool (decide (0 < cmpI x.o t))) ∧ Below w.heap.size w w' := by
  obtain ⟨oa, c1, ob, c2, q0, q1, h1, h2, h3, h4⟩ := hM.open
  have hBz := hM.lt
  obtain ⟨A, rfl, hA, a0, a1, a2, a3⟩ := h3 i x hx
  have hil := (List.getElem?_eq_some_iff.1 hx).1
  obtain ⟨n, hn⟩ : ∃ n, K.length = n := ⟨_, rfl⟩
  rw [hn] at q0 hil h1
  have hc1 : c1 ≤ 9223372036854775807 := h1.2
  have di : (i : Int) < (n : Int) := by omega
  have kA : (A.add (i * 4)).block < w.heap.size := by rw [addrN_block]; exact hA
  have HE := hideK (fun W : World => outOf_any x W)
  have HC := hideK (show ∀ W : World, Calls Try.prog 35 #[.agg #[.int .i64 x.o.N, .int .i64 x.o.D], .agg #[.int .i64 t.N, .int .i64 t.D]] W fun e w' => e = .returned (.int .i64 (cmpI x.o t)) ∧ Below W.heap.size W w' from fun W => cmp_any x.o t hxi.2 ht W)
  generalize cmpI x.o t = cc at HC ⊢
  clear hM h1 h2 h3 h4 q1 hx hxi ht hn
  have p0 : ∀ q : GrownQ w, q.V.cell? (A.add (i * 4)) = some (.int .i64 x.i.N) := fun q => (q.h.cell kA).trans a0
  have p1 : ∀ q : GrownQ w, q.V.cell? ⟨(A.add (i * 4)).block, (A.add (i * 4)).off + 1, none⟩ = some (.int .i64 x.i.D) := fun q => (q.h.cell (p := ⟨(A.add (i * 4)).block, (A.add (i * 4)).off + 1, none⟩) kA).trans a1
  have p2 : ∀ q : GrownQ w, q.V.cell? ⟨(A.add (i * 4)).block, (A.add (i * 4)).off + 2, none⟩ = some (.int .i64 x.o.N) := fun q => (q.h.cell (p := ⟨(A.add (i * 4)).block, (A.add (i * 4)).off + 2, none⟩) kA).trans a2
  have p3 : ∀ q : GrownQ w, q.V.cell? ⟨(A.add (i * 4)).block, (A.add (i * 4)).off + 3, none⟩ = some (.int .i64 x.o.D) := fun q => (q.h.cell (p := ⟨(A.add (i * 4)).block, (A.add (i * 4)).off + 3, none⟩) kA).trans a3
  have r0 : ∀ q : GrownQ w, q.V.cell? ⟨b1, 0, none⟩ = some (.func (.func 48) #[] #[]) := fun q => (q.h.cell (p := ⟨b1, 0, none⟩) hb1).trans k1
  have r1 : ∀ q : GrownQ w, q.V.cell? ⟨b2, 0, none⟩ = some (.pointer (some ⟨B, 0, none⟩)) := fun q => (q.h.cell (p := ⟨b2, 0, none⟩) hb2).trans k2
  have r2 : ∀ q : GrownQ w, q.V.cell? ⟨b3, 0, none⟩ = some (.int .i64 t.N) := fun q => (q.h.cell (p := ⟨b3, 0, none⟩) hb3).trans k3
  have r3 : ∀ q : GrownQ w, q.V.cell? ⟨b3, 1, none⟩ = some (.int .i64 t.D) := fun q => (q.h.cell (p := ⟨b3, 1, none⟩) hb3).trans k4
  have r4 : ∀ q : GrownQ w, q.V.cell? ⟨B, 0, none⟩ = some (.slice (some A) n c1) := fun q => (q.h.cell (p := ⟨B, 0, none⟩) hBz).trans q0
  clear a0 a1 a2 a3 k1 k2 k3 k4 q0
  go_enter Try.func73, Try.ntmps73
  go_upto_region 1 with fail
  refine region_grown w w (by kernel_rfl) (by kernel_rfl) (Below.refl _ _) ?_
  repeat (go_big_quiet_step (first
    | (rename_i q; (with_reducible refine (HC.out _).mono ?_); rintro e V1 ⟨rfl, h1⟩; exact ⟨rfl, ⟨V1, q.h.trans (h1.mono q.h.size)⟩, rfl⟩)
    | (rename_i q; (with_reducible refine (HE.out _).mono ?_); rintro e V1 ⟨rfl, h1⟩; exact ⟨rfl, ⟨V1, q.h.trans (h1.mono q.h.size)⟩, rfl⟩)))
  refine wpQuiet_nil ?_
  rintro W9 ⟨⟨V9, hb9⟩, hv9⟩
  have hv9 : W9 = V9 := hv9
  subst hv9
  clear p0 p1 p2 p3 r0 r1 r2 r3 r4
  go_wp2_with fail
  go_ret
  exact ⟨by first | rfl | simp, hb9⟩
end Go.Proofs.Ytipnefaggpigfaa
