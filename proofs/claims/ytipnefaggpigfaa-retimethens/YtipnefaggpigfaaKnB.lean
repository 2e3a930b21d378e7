/- Do the knots' ends rise: retime's rising (chapter 6). -/
import Derived.Test.YtipnefaggpigfaaKnA
namespace Go.Proofs.Ytipnefaggpigfaa
open Go.RowKit Go.Shelf

theorem riseB_step (g : Kn → Rt) {Q : List Kn} {i : Nat} {a b : Kn} (ha : Q[i]? = some a) (hb : Q[i + 1]? = some b) : riseB g (Q.drop i) = (decide (0 < cmpI (g b) (g a)) && riseB g (Q.drop (i + 1))) := by
  obtain ⟨h1, e1⟩ := List.getElem?_eq_some_iff.1 ha
  obtain ⟨h2, e2⟩ := List.getElem?_eq_some_iff.1 hb
  rw [List.drop_eq_getElem_cons h1, e1, List.drop_eq_getElem_cons h2, e2]
  rfl
theorem riseB_end (g : Kn → Rt) {Q : List Kn} {i : Nat} (h : Q.length ≤ i + 1) : riseB g (Q.drop i) = true := by
  by_cases hi : i < Q.length
  · rw [List.drop_eq_getElem_cons hi, List.drop_eq_nil_of_le h]
    rfl
  · rw [List.drop_eq_nil_of_le (by omega)]
    rfl
set_option maxRecDepth 100000 in
set_option maxHeartbeats 2000000 in
theorem rising_in (g : Kn → Rt) (hg : ∀ x, KnIn x → RtIn (g x)) (H : ∀ (x : Kn) (W : World), Calls Try.prog 45 #[.agg #[.int .i64 x.i.N, .int .i64 x.i.D, .int .i64 x.o.N, .int .i64 x.o.D]] W fun e w' => e = .returned (.agg #[.int .i64 (g x).N, .int .i64 (g x).D]) ∧ Below W.heap.size W w')
    (Q : List Kn) (oa : Option Addr) (c : Nat) (hQ : ∀ x ∈ Q, KnIn x) (hl : Q.length ≤ 140737488355328) (w : World) (hO : KnO w oa Q) :
    Calls Try.prog 51 #[.slice oa Q.length c, .func (.func 45) #[] #[]] w fun e w' => e = .returned (.bool (riseB g Q)) ∧ Below w.heap.size w w' := by
  have HQ := hideK hQ
  have HO := hideK hO
  have HG := hideK hg
  have HH := hideK H
  clear hQ hO hg H
  obtain ⟨n, hn⟩ : ∃ n, Q.length = n := ⟨_, rfl⟩
  have HN := hideK hn
  rw [hn] at hl ⊢
  clear hn
  obtain ⟨r, hr⟩ : ∃ r, riseB g Q = r := ⟨_, rfl⟩
  have HR := hideK hr
  rw [hr]
  clear hr
  go_enter Try.func51, Try.ntmps51
  go_wp2_with fail
  go_loopw [5] (fun iv wq => ∃ i : Nat, iv = .int .i64 ((i + 1 : Nat) : Int) ∧ (i = 0 ∨ i + 1 ≤ n) ∧ riseB g (Q.drop i) = r ∧ Below w.heap.size w wq) (fun iv _ => n - (intOf iv).toNat)
  case atStart => exact ⟨0, rfl, Or.inl rfl, by rw [List.drop_zero]; exact HR.out, Below.refl _ _⟩
  case round =>
    obtain ⟨i, rfl, hi, hs, hb⟩ := hrel
    obtain ⟨wq, rfl⟩ : ∃ wq, wq = wr := ⟨_, rfl⟩
    by_cases hlt : i + 1 < n
    · obtain ⟨a, ha⟩ : ∃ a, Q[i]? = some a := ⟨_, List.getElem?_eq_getElem (by rw [HN.out]; omega)⟩
      obtain ⟨b, hb'⟩ : ∃ b, Q[i + 1]? = some b := ⟨_, List.getElem?_eq_getElem (by rw [HN.out]; omega)⟩
      have st := riseB_step g ha hb'
      rw [hs] at st
      obtain ⟨A, rfl, hA, a0, a1, a2, a3⟩ := HO.out.keep hb i a ha
      obtain ⟨A', hA', -, b0, b1, b2, b3⟩ := HO.out.keep hb (i + 1) b hb'
      obtain rfl : A = A' := Option.some.inj hA'
      have kA : (A.add (i * 4)).block < wq.heap.size := by rw [addrN_block]; exact hA
      have kB : (A.add ((i + 1) * 4)).block < wq.heap.size := by rw [addrN_block]; exact hA
      have p0 : ∀ q : GrownQ wq, q.V.cell? (A.add (i * 4)) = some (.int .i64 a.i.N) := fun q => (q.h.cell kA).trans a0
      have p1 : ∀ q : GrownQ wq, q.V.cell? ⟨(A.add (i * 4)).block, (A.add (i * 4)).off + 1, none⟩ = some (.int .i64 a.i.D) := fun q => (q.h.cell (p := ⟨(A.add (i * 4)).block, (A.add (i * 4)).off + 1, none⟩) kA).trans a1
      have p2 : ∀ q : GrownQ wq, q.V.cell? ⟨(A.add (i * 4)).block, (A.add (i * 4)).off + 2, none⟩ = some (.int .i64 a.o.N) := fun q => (q.h.cell (p := ⟨(A.add (i * 4)).block, (A.add (i * 4)).off + 2, none⟩) kA).trans a2
      have p3 : ∀ q : GrownQ wq, q.V.cell? ⟨(A.add (i * 4)).block, (A.add (i * 4)).off + 3, none⟩ = some (.int .i64 a.o.D) := fun q => (q.h.cell (p := ⟨(A.add (i * 4)).block, (A.add (i * 4)).off + 3, none⟩) kA).trans a3
      have q0 : ∀ q : GrownQ wq, q.V.cell? (A.add ((i + 1) * 4)) = some (.int .i64 b.i.N) := fun q => (q.h.cell kB).trans b0
      have q1 : ∀ q : GrownQ wq, q.V.cell? ⟨(A.add ((i + 1) * 4)).block, (A.add ((i + 1) * 4)).off + 1, none⟩ = some (.int .i64 b.i.D) := fun q => (q.h.cell (p := ⟨(A.add ((i + 1) * 4)).block, (A.add ((i + 1) * 4)).off + 1, none⟩) kB).trans b1
      have q2 : ∀ q : GrownQ wq, q.V.cell? ⟨(A.add ((i + 1) * 4)).block, (A.add ((i + 1) * 4)).off + 2, none⟩ = some (.int .i64 b.o.N) := fun q => (q.h.cell (p := ⟨(A.add ((i + 1) * 4)).block, (A.add ((i + 1) * 4)).off + 2, none⟩) kB).trans b2
      have q3 : ∀ q : GrownQ wq, q.V.cell? ⟨(A.add ((i + 1) * 4)).block, (A.add ((i + 1) * 4)).off + 3, none⟩ = some (.int .i64 b.o.D) := fun q => (q.h.cell (p := ⟨(A.add ((i + 1) * 4)).block, (A.add ((i + 1) * 4)).off + 3, none⟩) kB).trans b3
      have HA := hideK (fun (W : World) => HH.out a W)
      have HB := hideK (fun (W : World) => HH.out b W)
      have HC := hideK (show ∀ W : World, Calls Try.prog 35 #[.agg #[.int .i64 (g b).N, .int .i64 (g b).D], .agg #[.int .i64 (g a).N, .int .i64 (g a).D]] W fun e w' => e = .returned (.int .i64 (cmpI (g b) (g a))) ∧ Below W.heap.size W w' from fun (W : World) => cmp_any (g b) (g a) (HG.out b (HQ.out b (List.mem_of_getElem? hb'))) (HG.out a (HQ.out a (List.mem_of_getElem? ha))) W)
      obtain ⟨cc, hcc⟩ : ∃ z, cmpI (g b) (g a) = z := ⟨_, rfl⟩
      rw [hcc] at HC st
      have ST := hideK st
      have HBe := hideK hb
      clear st hcc a0 a1 a2 a3 b0 b1 b2 b3 hA' hA kA kB ha hb' hs hb
      obtain ⟨j, hj⟩ : ∃ j, i + 1 = j := ⟨_, rfl⟩
      have hj1 : 1 ≤ j ∧ j < n := by omega
      rw [hj] at q0 q1 q2 q3 ST ⊢
      have d1 : (j : Int) < (n : Int) := by omega
      have wj : IntKind.i64.wrap ((j : Int) - 1) = (i : Int) := by rw [show (j : Int) - 1 = (i : Int) by omega]; exact IntWalk.i64_in _ ⟨by omega, by omega⟩
      have wk : IntKind.i64.wrap ((j : Int) + 1) = ((j + 1 : Nat) : Int) := by rw [show ((j + 1 : Nat) : Int) = (j : Int) + 1 by omega]; exact IntWalk.i64_in _ ⟨by omega, by omega⟩
      have di : (i : Int) < (n : Int) := by omega
      go_upto_region 4 with fail
      refine region_grown wq wq (by kernel_rfl) (by kernel_rfl) (Below.refl _ _) ?_
      repeat (go_big_quiet_step (first
        | (rename_i q; (with_reducible refine (HC.out _).mono ?_); rintro e V1 ⟨rfl, h1⟩; exact ⟨rfl, ⟨V1, q.h.trans (h1.mono q.h.size)⟩, rfl⟩)
        | (rename_i q; (with_reducible refine (HA.out _).mono ?_); rintro e V1 ⟨rfl, h1⟩; exact ⟨rfl, ⟨V1, q.h.trans (h1.mono q.h.size)⟩, rfl⟩)
        | (rename_i q; (with_reducible refine (HB.out _).mono ?_); rintro e V1 ⟨rfl, h1⟩; exact ⟨rfl, ⟨V1, q.h.trans (h1.mono q.h.size)⟩, rfl⟩)))
      refine wpQuiet_nil ?_
      rintro W9 ⟨⟨V9, hb9⟩, hv9⟩
      have hv9 : W9 = V9 := hv9
      subst hv9
      have HB9 := hideK (bup HBe.out hb9)
      clear hv9 hb9 p0 p1 p2 p3 q0 q1 q2 q3
      by_cases hz : cc ≤ 0
      · have er : r = false := by rw [ST.out, decide_eq_false (by omega), Bool.false_and]
        have z1 : decide (cc ≤ 0) = true := decide_eq_true hz
        subst er
        go_wp2_with fail
        go_ret
        exact ⟨rfl, HB9.out⟩
      · have er : r = riseB g (Q.drop j) := by rw [ST.out, decide_eq_true (by omega), Bool.true_and]
        have z1 : decide (cc ≤ 0) = false := decide_eq_false hz
        have HE := hideK er
        clear er
        go_wp2_with fail
        go_roundw
        case rel => exact ⟨j, by first | rfl | simp, Or.inr (by omega), HE.out.symm, HB9.out⟩
        case measure => simp [intOf]; omega
    · have d1 : ¬ ((i + 1 : Nat) : Int) < (n : Int) := by omega
      have d2 : ¬ (i : Int) + 1 < (n : Int) := by omega
      have er : r = true := by rw [← hs]; exact riseB_end g (by rw [HN.out]; omega)
      subst er
      have HBq := hideK hb
      clear hb hs
      go_wp2_with fail
      go_ret
      exact ⟨rfl, HBq.out⟩
set_option maxRecDepth 100000 in
set_option maxHeartbeats 2000000 in
theorem rising_out (g : Kn → Rt) (hg : ∀ x, KnIn x → RtIn (g x)) (H : ∀ (x : Kn) (W : World), Calls Try.prog 48 #[.agg #[.int .i64 x.i.N, .int .i64 x.i.D, .int .i64 x.o.N, .int .i64 x.o.D]] W fun e w' => e = .returned (.agg #[.int .i64 (g x).N, .int .i64 (g x).D]) ∧ Below W.heap.size W w')
    (Q : List Kn) (oa : Option Addr) (c : Nat) (hQ : ∀ x ∈ Q, KnIn x) (hl : Q.length ≤ 140737488355328) (w : World) (hO : KnO w oa Q) :
    Calls Try.prog 51 #[.slice oa Q.length c, .func (.func 48) #[] #[]] w fun e w' => e = .returned (.bool (riseB g Q)) ∧ Below w.heap.size w w' := by
  have HQ := hideK hQ
  have HO := hideK hO
  have HG := hideK hg
  have HH := hideK H
  clear hQ hO hg H
  obtain ⟨n, hn⟩ : ∃ n, Q.length = n := ⟨_, rfl⟩
  have HN := hideK hn
  rw [hn] at hl ⊢
  clear hn
  obtain ⟨r, hr⟩ : ∃ r, riseB g Q = r := ⟨_, rfl⟩
  have HR := hideK hr
  rw [hr]
  clear hr
  go_enter Try.func51, Try.ntmps51
  go_wp2_with fail
  go_loopw [5] (fun iv wq => ∃ i : Nat, iv = .int .i64 ((i + 1 : Nat) : Int) ∧ (i = 0 ∨ i + 1 ≤ n) ∧ riseB g (Q.drop i) = r ∧ Below w.heap.size w wq) (fun iv _ => n - (intOf iv).toNat)
  case atStart => exact ⟨0, rfl, Or.inl rfl, by rw [List.drop_zero]; exact HR.out, Below.refl _ _⟩
  case round =>
    obtain ⟨i, rfl, hi, hs, hb⟩ := hrel
    obtain ⟨wq, rfl⟩ : ∃ wq, wq = wr := ⟨_, rfl⟩
    by_cases hlt : i + 1 < n
    · obtain ⟨a, ha⟩ : ∃ a, Q[i]? = some a := ⟨_, List.getElem?_eq_getElem (by rw [HN.out]; omega)⟩
      obtain ⟨b, hb'⟩ : ∃ b, Q[i + 1]? = some b := ⟨_, List.getElem?_eq_getElem (by rw [HN.out]; omega)⟩
      have st := riseB_step g ha hb'
      rw [hs] at st
      obtain ⟨A, rfl, hA, a0, a1, a2, a3⟩ := HO.out.keep hb i a ha
      obtain ⟨A', hA', -, b0, b1, b2, b3⟩ := HO.out.keep hb (i + 1) b hb'
      obtain rfl : A = A' := Option.some.inj hA'
      have kA : (A.add (i * 4)).block < wq.heap.size := by rw [addrN_block]; exact hA
      have kB : (A.add ((i + 1) * 4)).block < wq.heap.size := by rw [addrN_block]; exact hA
      have p0 : ∀ q : GrownQ wq, q.V.cell? (A.add (i * 4)) = some (.int .i64 a.i.N) := fun q => (q.h.cell kA).trans a0
      have p1 : ∀ q : GrownQ wq, q.V.cell? ⟨(A.add (i * 4)).block, (A.add (i * 4)).off + 1, none⟩ = some (.int .i64 a.i.D) := fun q => (q.h.cell (p := ⟨(A.add (i * 4)).block, (A.add (i * 4)).off + 1, none⟩) kA).trans a1
      have p2 : ∀ q : GrownQ wq, q.V.cell? ⟨(A.add (i * 4)).block, (A.add (i * 4)).off + 2, none⟩ = some (.int .i64 a.o.N) := fun q => (q.h.cell (p := ⟨(A.add (i * 4)).block, (A.add (i * 4)).off + 2, none⟩) kA).trans a2
      have p3 : ∀ q : GrownQ wq, q.V.cell? ⟨(A.add (i * 4)).block, (A.add (i * 4)).off + 3, none⟩ = some (.int .i64 a.o.D) := fun q => (q.h.cell (p := ⟨(A.add (i * 4)).block, (A.add (i * 4)).off + 3, none⟩) kA).trans a3
      have q0 : ∀ q : GrownQ wq, q.V.cell? (A.add ((i + 1) * 4)) = some (.int .i64 b.i.N) := fun q => (q.h.cell kB).trans b0
      have q1 : ∀ q : GrownQ wq, q.V.cell? ⟨(A.add ((i + 1) * 4)).block, (A.add ((i + 1) * 4)).off + 1, none⟩ = some (.int .i64 b.i.D) := fun q => (q.h.cell (p := ⟨(A.add ((i + 1) * 4)).block, (A.add ((i + 1) * 4)).off + 1, none⟩) kB).trans b1
      have q2 : ∀ q : GrownQ wq, q.V.cell? ⟨(A.add ((i + 1) * 4)).block, (A.add ((i + 1) * 4)).off + 2, none⟩ = some (.int .i64 b.o.N) := fun q => (q.h.cell (p := ⟨(A.add ((i + 1) * 4)).block, (A.add ((i + 1) * 4)).off + 2, none⟩) kB).trans b2
      have q3 : ∀ q : GrownQ wq, q.V.cell? ⟨(A.add ((i + 1) * 4)).block, (A.add ((i + 1) * 4)).off + 3, none⟩ = some (.int .i64 b.o.D) := fun q => (q.h.cell (p := ⟨(A.add ((i + 1) * 4)).block, (A.add ((i + 1) * 4)).off + 3, none⟩) kB).trans b3
      have HA := hideK (fun (W : World) => HH.out a W)
      have HB := hideK (fun (W : World) => HH.out b W)
      have HC := hideK (show ∀ W : World, Calls Try.prog 35 #[.agg #[.int .i64 (g b).N, .int .i64 (g b).D], .agg #[.int .i64 (g a).N, .int .i64 (g a).D]] W fun e w' => e = .returned (.int .i64 (cmpI (g b) (g a))) ∧ Below W.heap.size W w' from fun (W : World) => cmp_any (g b) (g a) (HG.out b (HQ.out b (List.mem_of_getElem? hb'))) (HG.out a (HQ.out a (List.mem_of_getElem? ha))) W)
      obtain ⟨cc, hcc⟩ : ∃ z, cmpI (g b) (g a) = z := ⟨_, rfl⟩
      rw [hcc] at HC st
      have ST := hideK st
      have HBe := hideK hb
      clear st hcc a0 a1 a2 a3 b0 b1 b2 b3 hA' hA kA kB ha hb' hs hb
      obtain ⟨j, hj⟩ : ∃ j, i + 1 = j := ⟨_, rfl⟩
      have hj1 : 1 ≤ j ∧ j < n := by omega
      rw [hj] at q0 q1 q2 q3 ST ⊢
      have d1 : (j : Int) < (n : Int) := by omega
      have wj : IntKind.i64.wrap ((j : Int) - 1) = (i : Int) := by rw [show (j : Int) - 1 = (i : Int) by omega]; exact IntWalk.i64_in _ ⟨by omega, by omega⟩
      have wk : IntKind.i64.wrap ((j : Int) + 1) = ((j + 1 : Nat) : Int) := by rw [show ((j + 1 : Nat) : Int) = (j : Int) + 1 by omega]; exact IntWalk.i64_in _ ⟨by omega, by omega⟩
      have di : (i : Int) < (n : Int) := by omega
      go_upto_region 4 with fail
      refine region_grown wq wq (by kernel_rfl) (by kernel_rfl) (Below.refl _ _) ?_
      repeat (go_big_quiet_step (first
        | (rename_i q; (with_reducible refine (HC.out _).mono ?_); rintro e V1 ⟨rfl, h1⟩; exact ⟨rfl, ⟨V1, q.h.trans (h1.mono q.h.size)⟩, rfl⟩)
        | (rename_i q; (with_reducible refine (HA.out _).mono ?_); rintro e V1 ⟨rfl, h1⟩; exact ⟨rfl, ⟨V1, q.h.trans (h1.mono q.h.size)⟩, rfl⟩)
        | (rename_i q; (with_reducible refine (HB.out _).mono ?_); rintro e V1 ⟨rfl, h1⟩; exact ⟨rfl, ⟨V1, q.h.trans (h1.mono q.h.size)⟩, rfl⟩)))
      refine wpQuiet_nil ?_
      rintro W9 ⟨⟨V9, hb9⟩, hv9⟩
      have hv9 : W9 = V9 := hv9
      subst hv9
      have HB9 := hideK (bup HBe.out hb9)
      clear hv9 hb9 p0 p1 p2 p3 q0 q1 q2 q3
      by_cases hz : cc ≤ 0
      · have er : r = false := by rw [ST.out, decide_eq_false (by omega), Bool.false_and]
        have z1 : decide (cc ≤ 0) = true := decide_eq_true hz
        subst er
        go_wp2_with fail
        go_ret
        exact ⟨rfl, HB9.out⟩
      · have er : r = riseB g (Q.drop j) := by rw [ST.out, decide_eq_true (by omega), Bool.true_and]
        have z1 : decide (cc ≤ 0) = false := decide_eq_false hz
        have HE := hideK er
        clear er
        go_wp2_with fail
        go_roundw
        case rel => exact ⟨j, by first | rfl | simp, Or.inr (by omega), HE.out.symm, HB9.out⟩
        case measure => simp [intOf]; omega
    · have d1 : ¬ ((i + 1 : Nat) : Int) < (n : Int) := by omega
      have d2 : ¬ (i : Int) + 1 < (n : Int) := by omega
      have er : r = true := by rw [← hs]; exact riseB_end g (by rw [HN.out]; omega)
      subst er
      have HBq := hideK hb
      clear hb hs
      go_wp2_with fail
      go_ret
      exact ⟨rfl, HBq.out⟩
theorem rising_inOf (Q : List Kn) (oa : Option Addr) (c : Nat) (hQ : ∀ x ∈ Q, KnIn x) (hl : Q.length ≤ 140737488355328) (w : World) (hO : KnO w oa Q) :
    Calls Try.prog 51 #[.slice oa Q.length c, .func (.func 45) #[] #[]] w fun e w' => e = .returned (.bool (riseB (·.i) Q)) ∧ Below w.heap.size w w' :=
  rising_in (·.i) (fun _ h => h.1) (fun x W => inOf_any x W) Q oa c hQ hl w hO
theorem rising_outOf (Q : List Kn) (oa : Option Addr) (c : Nat) (hQ : ∀ x ∈ Q, KnIn x) (hl : Q.length ≤ 140737488355328) (w : World) (hO : KnO w oa Q) :
    Calls Try.prog 51 #[.slice oa Q.length c, .func (.func 48) #[] #[]] w fun e w' => e = .returned (.bool (riseB (·.o) Q)) ∧ Below w.heap.size w w' :=
  rising_out (·.o) (fun _ h => h.2) (fun x W => outOf_any x W) Q oa c hQ hl w hO
end Go.Proofs.Ytipnefaggpigfaa
