/- Contracts of package ratio: Whole, Snap, Time. -/
import Derived.Test.YtaipdckakgohjaaDoorRatW12
import Derived.Deep.RegionHeld3
namespace Go.Proofs.YtaipdckakgohjaaDoor
open Go.RowKit Go.Shelf
attribute [local go_sem] Oper.semAt_some

set_option maxRecDepth 100000 in
theorem whole_not (an ad t how : Int)
    (HA : ∀ w, Calls Tryd.prog 37 #[.agg #[.int .i64 an, .int .i64 ad]] w fun e w' => e = .returned (.bool false) ∧ Below w.heap.size w w') (w : World) :
    Calls Tryd.prog 55 #[.agg #[.int .i64 an, .int .i64 ad], .int .i64 t, .int .i64 how] w fun e w' => e = .returned (.tuple #[.int .i64 0, .int .i64 12]) ∧ Below w.heap.size w w' := by
  have HA := hideR HA
  go_enter Tryd.func55, Tryd.ntmps55
  go_wp2_with fail
  go_at_call 37
  refine Calls.mono (HA.out _) ?_
  rintro e w1 ⟨rfl, b1⟩
  go_wp2_with fail
  go_ret2
  exact ⟨rfl, bup (bel1 _ _) b1⟩

set_option maxRecDepth 100000 in
set_option maxHeartbeats 1000000 in
theorem whole_walk (an ad t how z : Int) (r : Int × Int) (h0 : 0 ≤ ad) (h1 : ad ≤ 9223372036854775807)
    (HA : ∀ w, Calls Tryd.prog 37 #[.agg #[.int .i64 an, .int .i64 ad]] w fun e w' => e = .returned (.bool true) ∧ Below w.heap.size w w')
    (HP : ∀ w, Calls Tryd.prog 72 #[.int .i64 an, .int .i64 t] w fun e w' => e = .returned (wv z) ∧ Below w.heap.size w w')
    (HM : ∀ w, Calls Tryd.prog 79 #[wv z, .int .u64 ad, .int .u64 1, .int .i64 how] w fun e w' => e = .returned (.tuple #[.int .i64 r.1, .int .i64 r.2]) ∧ Below w.heap.size w w')
    (w : World) :
    Calls Tryd.prog 55 #[.agg #[.int .i64 an, .int .i64 ad], .int .i64 t, .int .i64 how] w fun e w' => e = .returned (.tuple #[.int .i64 r.1, .int .i64 r.2]) ∧ Below w.heap.size w w' := by
  have HA := hideR HA
  have HP := hideR HP
  have HM := hideR HM
  go_enter Tryd.func55, Tryd.ntmps55
  go_wp2_with fail
  go_at_call 37
  refine Calls.mono (HA.out _) ?_
  rintro e w1 ⟨rfl, b1⟩
  have T1 := (Two.new w (.int .i64 an) (.int .i64 ad) 28).keep b1
  have B1 := bup (bel1 w _) b1
  clear b1
  obtain ⟨_, t0, t1, _, _⟩ := id T1
  go_wp2_with fail
  have HD : Hid (IntKind.u64.wrap ad = ad) := by rw [Hid, IntKind.wrap_u64]; omega
  go_region_held3 (fun w' => w'.cell? ⟨w.heap.size, 0, none⟩ = some (.int .i64 an) ∧ w'.cell? ⟨w.heap.size, 1, none⟩ = some (.int .i64 ad)) (first | assumption | go_keep) (first | (go_at_call 72; refine Calls.mono (HP.out _) ?_; rintro e w3 ⟨rfl, b3⟩; have B3 : Below w1.heap.size w1 w3 := bup (Below.refl _ _).drew b3; have S3 := (T1.keep B3).two) | (go_at_call 79; (try simp only [HD.out]); refine Calls.mono (HM.out _) ?_; rintro e w4 ⟨rfl, b4⟩; have B4 : Below w1.heap.size w1 w4 := bup B3 b4; have S4 := (T1.keep B4).two))
  all_goals (try go_wp2_with fail)
  all_goals go_ret2
  all_goals exact ⟨rfl, bup B1 B4⟩

theorem times_bounds {n t : Int} (h : -4611686018427387904 ≤ n ∧ n ≤ 4611686018427387904) (ht : I64 t) : -42535295865117307932921825928971026432 ≤ n * t ∧ n * t ≤ 42535295865117307932921825928971026432 := by
  unfold I64 at ht
  have := mul_bounds (x := n) (y := t) (X := 4611686018427387904) (Y := 9223372036854775808) h ⟨by omega, by omega⟩
  omega

theorem whole_any (a : Rt) (ha : RtIn a) (t : Int) (ht : I64 t) (how : Int) (w : World) :
    Calls Tryd.prog 55 #[rtv a, .int .i64 t, .int .i64 how] w fun e w' => e = .returned (.tuple #[.int .i64 (wholeA a t how).1, .int .i64 (wholeA a t how).2]) ∧ Below w.heap.size w w' := by
  have HA := right_any a ha
  cases h : rightB a
  · rw [h] at HA
    rw [show wholeA a t how = (0, 12) by unfold wholeA; rw [if_neg (by simp [h])]]
    exact whole_not a.N a.D t how HA w
  · rw [h] at HA
    have hr := (right_iff a).1 h
    have hb := times_bounds ⟨hr.2.2.1, hr.2.2.2.1⟩ ht
    have HM := made_any (a.N * t) a.D 1 how hb.1 hb.2 (by omega) (by omega) (by omega) (by omega)
    rw [Int.mul_one] at HM
    rw [show wholeA a t how = madeA (a.N * t) a.D how by unfold wholeA madeA; rw [if_pos h]]
    exact whole_walk a.N a.D t how _ _ (by omega) (by omega) HA (product_any _ _ ha.1 ht) HM w
end Go.Proofs.YtaipdckakgohjaaDoor
