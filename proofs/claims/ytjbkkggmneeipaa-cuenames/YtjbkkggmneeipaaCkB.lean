/- errors.Is at an error of package cue; the texts of these errors. -/
import Derived.Test.YtjbkkggmneeipaaCkA
import Derived.LaidEql
import Derived.Stop.Asserts
import Derived.Stop.IfaceNil
import Derived.Lib.IfaceEq
namespace Go.Proofs.Ytjbkkggmneeipaa
open Go.RowKit Go.Shelf Go.Extern Go.Stop Go.Lib

theorem noIsW (v : Value) (xT : TypeId) (w : World) : (Instr.typeAssert (.iface 43 v) xT 71 true).run Try.prog w = .ok (.tuple #[.nilIface, .bool false]) w := run_typeAssert_lacksB Try.underlying71 (by kernel_rfl) (by kernel_rfl) v xT w
theorem hasUnwrapW (v : Value) (xT : TypeId) (w : World) : (Instr.typeAssert (.iface 43 v) xT 74 true).run Try.prog w = .ok (.tuple #[.iface 43 v, .bool true]) w := run_typeAssert_hasB Try.underlying74 (by kernel_rfl) v xT w

theorem methUnwrap (v : Value) (w : World) : (Go.method 261 43 v "Unwrap").run Try.prog w = .ok (84, v) w := by kernel_rfl
theorem methError (v : Value) (w : World) : (Go.method 261 43 v "Error").run Try.prog w = .ok (83, v) w := by kernel_rfl
theorem methComp (v : Value) (w : World) : (Go.method 261 69 v "Comparable").run Try.prog w = .ok (103, v) w := by kernel_rfl
theorem isTypeOf (v : Value) (w : World) : (Extern.ReflectliteType.typeOf #[.iface 23 v]).run Try.prog w = .ok (.iface 69 (.agg #[.pointer (some ⟨4, 23, none⟩)])) w := by kernel_rfl
theorem isComparable (w : World) : ((Extern.ReflectliteType.method fun t => do Extern.Rtype.noPackHeld "Comparable" t; pure (.bool (← typeInfo t).comparable)) #[.agg #[.pointer (some ⟨4, 23, none⟩)]]).run Try.prog w = .ok (.bool true) w := by kernel_rfl

set_option maxRecDepth 100000 in
theorem wunwrap_any (g : Nat) (i k : Int) (w : World) (h : w.heap[g]? = some (.cells #[.int .i64 i, .int .i64 k] 45)) :
    Calls Try.prog 84 #[.pointer (some ⟨g, 0, none⟩)] w fun e w' => e = .returned (.iface 23 (.int .i64 k)) ∧ w' = w := by
  have c1 : w.cell? ⟨g, 1, none⟩ = some (.int .i64 k) := by simp [World.cell?, h]
  go_enter Try.func84, Try.ntmps84
  go_wp2
  go_ret
  exact ⟨rfl, rfl⟩

set_option maxRecDepth 100000 in
set_option maxHeartbeats 400000 in
theorem is_wrong (g : Nat) (i k : Int) (w : World) (h : w.heap[g]? = some (.cells #[.int .i64 i, .int .i64 k] 45)) :
    Calls Try.prog 22 #[.iface 43 (.pointer (some ⟨g, 0, none⟩)), .iface 23 (.int .i64 k), .bool true] w fun e w' => e = .returned (.bool true) ∧ w' = w := by
  have c1 : w.cell? ⟨g, 1, none⟩ = some (.int .i64 k) := by simp [World.cell?, h]
  have nW := noIsW
  have uW := hasUnwrapW
  have mU := methUnwrap
  have heq : (binOp .eql 34 (.iface 23 (.int .i64 k)) (.iface 23 (.int .i64 k))).run Try.prog w = .ok (.bool true) w := by rw [run_eql_iface_int w k k Try.underlying34 (by kernel_rfl) Try.underlying23, beq_self_eq_true]
  have hty := run_eql_iface_types (P := Try.prog) 43 23 (.pointer (some ⟨g, 0, none⟩)) (.int .i64 k) Try.underlying34 (by decide) w
  go_enter Try.func22, Try.ntmps22
  go_wp2
  refine wp_loop_rounds 2 ?_
  rw [rounds_succ]
  go_wp2_with fail
  refine (wunwrap_any g i k w h).mono ?_
  rintro e w1 ⟨rfl, rfl⟩
  go_wp2
  rw [rounds_succ]
  go_wp2
  go_ret
  exact ⟨rfl, rfl⟩

set_option maxRecDepth 100000 in
set_option maxHeartbeats 400000 in
theorem is_wrongE (g : Nat) (i k : Int) (w : World) (h : w.heap[g]? = some (.cells #[.int .i64 i, .int .i64 k] 45)) :
    Calls Try.prog 9 #[.iface 43 (.pointer (some ⟨g, 0, none⟩)), .iface 23 (.int .i64 k)] w fun e w' => e = .returned (.bool true) ∧ w' = w := by
  have H := hideC (is_wrong g i k w h)
  have h8 := @run_callFunc_extern Try.prog 21 _ Extern.ReflectliteType.typeOf Try.func21 (by kernel_rfl) (by kernel_rfl) (by kernel_rfl) (by kernel_rfl)
  have h32 := @run_callFunc_extern Try.prog 103 _ (Extern.ReflectliteType.method fun t => do Extern.Rtype.noPackHeld "Comparable" t; pure (.bool (← typeInfo t).comparable)) Try.func103 (by kernel_rfl) (by kernel_rfl) (by kernel_rfl) (by kernel_rfl)
  have cQ : ∀ w, Sem.run Try.prog (callFunc 103 #[.agg #[.pointer (some ⟨4, 23, none⟩)]]) w = .ok (.value (.bool true)) w := fun w => by rw [h32, isComparable]; rfl
  clear h32
  have tT := isTypeOf
  have mR := methComp
  clear h
  go_enter Try.func9, Try.ntmps9
  go_wp2_with (go_at_call 22; refine H.out.mono ?_; rintro e w1 ⟨rfl, rfl⟩)
  go_ret
  exact ⟨rfl, rfl⟩

set_option maxRecDepth 100000 in
theorem small_1 (w : World) : Calls Try.prog 88 #[.int .i64 1] w fun e w' => e = .returned (.string ⟨#[49]⟩) ∧ w' = w := by
  go_enter Try.func88, Try.ntmps88
  go_wp2
  go_ret
  exact ⟨rfl, rfl⟩
set_option maxRecDepth 100000 in
theorem format_1 (w : World) : Calls Try.prog 87 #[.int .i64 1, .int .i64 10] w fun e w' => e = .returned (.string ⟨#[49]⟩) ∧ w' = w := by
  go_enter Try.func87, Try.ntmps87
  go_wp2_with (go_at_call 88; refine (small_1 _).mono ?_; rintro e w1 ⟨rfl, rfl⟩)
  go_ret
  exact ⟨rfl, rfl⟩
set_option maxRecDepth 100000 in
theorem itoaI_1 (w : World) : Calls Try.prog 86 #[.int .i64 1] w fun e w' => e = .returned (.string ⟨#[49]⟩) ∧ w' = w := by
  go_enter Try.func86, Try.ntmps86
  go_wp2_with (go_at_call 87; refine (format_1 _).mono ?_; rintro e w1 ⟨rfl, rfl⟩)
  go_ret
  exact ⟨rfl, rfl⟩
set_option maxRecDepth 100000 in
theorem itoa_1 (w : World) : Calls Try.prog 85 #[.int .i64 1] w fun e w' => e = .returned (.string ⟨#[49]⟩) ∧ w' = w := by
  go_enter Try.func85, Try.ntmps85
  go_wp2_with (go_at_call 86; refine (itoaI_1 _).mono ?_; rintro e w1 ⟨rfl, rfl⟩)
  go_ret
  exact ⟨rfl, rfl⟩
set_option maxRecDepth 100000 in
theorem times33 (w : World) : Calls Try.prog 14 #[.int .i64 33] w fun e w' => e = .returned (.string ⟨#[111, 114, 100, 101, 114]⟩) ∧ w' = w := by
  go_enter Try.func14, Try.ntmps14
  go_wp2
  go_ret
  exact ⟨rfl, rfl⟩
set_option maxRecDepth 100000 in
theorem times34 (w : World) : Calls Try.prog 14 #[.int .i64 34] w fun e w' => e = .returned (.string ⟨#[108, 97, 110, 101]⟩) ∧ w' = w := by
  go_enter Try.func14, Try.ntmps14
  go_wp2
  go_ret
  exact ⟨rfl, rfl⟩
set_option maxRecDepth 100000 in
theorem texts25 (w : World) : Calls Try.prog 13 #[.int .i64 25] w fun e w' => e = .returned (.string ⟨#[110, 97, 109, 101]⟩) ∧ w' = w := by
  go_enter Try.func13, Try.ntmps13
  go_wp2
  go_ret
  exact ⟨rfl, rfl⟩
set_option maxRecDepth 100000 in
theorem error33 (w : World) : Calls Try.prog 5 #[.int .i64 33] w fun e w' => e = .returned (.string ⟨#[111, 114, 100, 101, 114]⟩) ∧ w' = w := by
  go_enter Try.func5, Try.ntmps5
  go_wp2_with (go_at_call 14; refine (times33 _).mono ?_; rintro e w1 ⟨rfl, rfl⟩)
  go_ret
  exact ⟨rfl, rfl⟩
set_option maxRecDepth 100000 in
theorem error34 (w : World) : Calls Try.prog 5 #[.int .i64 34] w fun e w' => e = .returned (.string ⟨#[108, 97, 110, 101]⟩) ∧ w' = w := by
  go_enter Try.func5, Try.ntmps5
  go_wp2_with (go_at_call 14; refine (times34 _).mono ?_; rintro e w1 ⟨rfl, rfl⟩)
  go_ret
  exact ⟨rfl, rfl⟩
set_option maxRecDepth 100000 in
theorem error25 (w : World) : Calls Try.prog 5 #[.int .i64 25] w fun e w' => e = .returned (.string ⟨#[110, 97, 109, 101]⟩) ∧ w' = w := by
  go_enter Try.func5, Try.ntmps5
  go_wp2_with (go_at_call 13; refine (texts25 _).mono ?_; rintro e w1 ⟨rfl, rfl⟩)
  go_ret
  exact ⟨rfl, rfl⟩
set_option maxRecDepth 100000 in
set_option maxHeartbeats 400000 in
theorem werror_1_33 (g : Nat) (w : World) (h : w.heap[g]? = some (.cells #[.int .i64 1, .int .i64 33] 45)) :
    Calls Try.prog 83 #[.pointer (some ⟨g, 0, none⟩)] w fun e w' => e = .returned (.string ⟨#[99, 117, 101, 32, 49, 58, 32, 111, 114, 100, 101, 114]⟩) ∧ Below w.heap.size w w' := by
  have c0 : w.cell? ⟨g, 0, none⟩ = some (.int .i64 1) := by simp [World.cell?, h]
  have c1 : w.cell? ⟨g, 1, none⟩ = some (.int .i64 33) := by simp [World.cell?, h]
  clear h
  have HI := hideC itoa_1
  have HE := hideC error33
  go_enter Try.func83, Try.ntmps83
  go_wp2_with fail
  go_region_held3 (fun w' => w'.cell? ⟨g, 0, none⟩ = some (.int .i64 1) ∧ w'.cell? ⟨g, 1, none⟩ = some (.int .i64 33)) (first | go_keep | assumption) (first
    | (go_at_call 85; (with_reducible refine (HI.out _).mono ?_); rintro e w1 ⟨rfl, rfl⟩)
    | (go_at_call 5; (with_reducible refine (HE.out _).mono ?_); rintro e w2 ⟨rfl, rfl⟩))
  go_wp2_with fail
  go_ret
  exact ⟨by kernel_rfl, ((Below.refl _ w).drew)⟩

end Go.Proofs.Ytjbkkggmneeipaa
