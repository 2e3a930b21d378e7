/- errors.Is at an error of package cue; the texts of these errors. -/
import Derived.Test.YtdikfcnbkckinaaGreatDoorCkA
import Derived.LaidEql
import Derived.Stop.Asserts
import Derived.Stop.IfaceNil
import Derived.Lib.IfaceEq
namespace Go.Proofs.YtdikfcnbkckinaaGreatDoor
open Go.RowKit Go.Shelf Go.Extern Go.Stop Go.Lib

theorem noIsW (v : Value) (xT : TypeId) (w : World) : (Instr.typeAssert (.iface 47 v) xT 92 true).run Tryz.prog w = .ok (.tuple #[.nilIface, .bool false]) w := run_typeAssert_lacksB Tryz.underlying92 (by kernel_rfl) (by kernel_rfl) v xT w
theorem hasUnwrapW (v : Value) (xT : TypeId) (w : World) : (Instr.typeAssert (.iface 47 v) xT 95 true).run Tryz.prog w = .ok (.tuple #[.iface 47 v, .bool true]) w := run_typeAssert_hasB Tryz.underlying95 (by kernel_rfl) v xT w

theorem methUnwrap (v : Value) (w : World) : (Go.method 299 47 v "Unwrap").run Tryz.prog w = .ok (121, v) w := by kernel_rfl
theorem methError (v : Value) (w : World) : (Go.method 299 47 v "Error").run Tryz.prog w = .ok (120, v) w := by kernel_rfl
theorem methComp (v : Value) (w : World) : (Go.method 299 90 v "Comparable").run Tryz.prog w = .ok (142, v) w := by kernel_rfl
theorem isTypeOf (v : Value) (w : World) : (Extern.ReflectliteType.typeOf #[.iface 42 v]).run Tryz.prog w = .ok (.iface 90 (.agg #[.pointer (some ⟨5, 42, none⟩)])) w := by kernel_rfl
theorem isComparable (w : World) : ((Extern.ReflectliteType.method fun t => do Extern.Rtype.noPackHeld "Comparable" t; pure (.bool (← typeInfo t).comparable)) #[.agg #[.pointer (some ⟨5, 42, none⟩)]]).run Tryz.prog w = .ok (.bool true) w := by kernel_rfl

set_option maxRecDepth 100000 in
theorem wunwrap_any (g : Nat) (i k : Int) (w : World) (h : w.heap[g]? = some (.cells #[.int .i64 i, .int .i64 k] 51)) :
    Calls Tryz.prog 121 #[.pointer (some ⟨g, 0, none⟩)] w fun e w' => e = .returned (.iface 42 (.int .i64 k)) ∧ w' = w := by
  have c1 : w.cell? ⟨g, 1, none⟩ = some (.int .i64 k) := by simp [World.cell?, h]
  go_enter Tryz.func121, Tryz.ntmps121
  go_wp2
  go_ret
  exact ⟨rfl, rfl⟩

set_option maxRecDepth 100000 in
set_option maxHeartbeats 400000 in
theorem is_wrong (g : Nat) (i k : Int) (w : World) (h : w.heap[g]? = some (.cells #[.int .i64 i, .int .i64 k] 51)) :
    Calls Tryz.prog 22 #[.iface 47 (.pointer (some ⟨g, 0, none⟩)), .iface 42 (.int .i64 k), .bool true] w fun e w' => e = .returned (.bool true) ∧ w' = w := by
  have c1 : w.cell? ⟨g, 1, none⟩ = some (.int .i64 k) := by simp [World.cell?, h]
  have nW := noIsW
  have uW := hasUnwrapW
  have mU := methUnwrap
  have heq : (binOp .eql 35 (.iface 42 (.int .i64 k)) (.iface 42 (.int .i64 k))).run Tryz.prog w = .ok (.bool true) w := by rw [run_eql_iface_int w k k Tryz.underlying35 (by kernel_rfl) Tryz.underlying42, beq_self_eq_true]
  have hty := run_eql_iface_types (P := Tryz.prog) 47 42 (.pointer (some ⟨g, 0, none⟩)) (.int .i64 k) Tryz.underlying35 (by decide) w
  go_enter Tryz.func22, Tryz.ntmps22
  go_wp2
  refine wp_loop_rounds 2 ?_
  rw [rounds_succ]
  go_wp2_with fail
  refine (wunwrap_any g i k w h).mono ?_
  rintro e w1 ⟨rfl, rfl⟩
  go_wp2
  rw [rounds_succ]
  go_wp2
  go_ret
  exact ⟨rfl, rfl⟩

set_option maxRecDepth 100000 in
set_option maxHeartbeats 400000 in
theorem is_wrongE (g : Nat) (i k : Int) (w : World) (h : w.heap[g]? = some (.cells #[.int .i64 i, .int .i64 k] 51)) :
    Calls Tryz.prog 10 #[.iface 47 (.pointer (some ⟨g, 0, none⟩)), .iface 42 (.int .i64 k)] w fun e w' => e = .returned (.bool true) ∧ w' = w := by
  have H := hideC (is_wrong g i k w h)
  have h8 := @run_callFunc_extern Tryz.prog 21 _ Extern.ReflectliteType.typeOf Tryz.func21 (by kernel_rfl) (by kernel_rfl) (by kernel_rfl) (by kernel_rfl)
  have h32 := @run_callFunc_extern Tryz.prog 142 _ (Extern.ReflectliteType.method fun t => do Extern.Rtype.noPackHeld "Comparable" t; pure (.bool (← typeInfo t).comparable)) Tryz.func142 (by kernel_rfl) (by kernel_rfl) (by kernel_rfl) (by kernel_rfl)
  have cQ : ∀ w, Sem.run Tryz.prog (callFunc 142 #[.agg #[.pointer (some ⟨5, 42, none⟩)]]) w = .ok (.value (.bool true)) w := fun w => by rw [h32, isComparable]; rfl
  clear h32
  have tT := isTypeOf
  have mR := methComp
  clear h
  go_enter Tryz.func10, Tryz.ntmps10
  go_wp2_with (go_at_call 22; refine H.out.mono ?_; rintro e w1 ⟨rfl, rfl⟩)
  go_ret
  exact ⟨rfl, rfl⟩

set_option maxRecDepth 100000 in
theorem small_1 (w : World) : Calls Tryz.prog 125 #[.int .i64 1] w fun e w' => e = .returned (.string ⟨#[49]⟩) ∧ w' = w := by
  go_enter Tryz.func125, Tryz.ntmps125
  go_wp2
  go_ret
  exact ⟨rfl, rfl⟩
set_option maxRecDepth 100000 in
theorem format_1 (w : World) : Calls Tryz.prog 124 #[.int .i64 1, .int .i64 10] w fun e w' => e = .returned (.string ⟨#[49]⟩) ∧ w' = w := by
  go_enter Tryz.func124, Tryz.ntmps124
  go_wp2_with (go_at_call 125; refine (small_1 _).mono ?_; rintro e w1 ⟨rfl, rfl⟩)
  go_ret
  exact ⟨rfl, rfl⟩
set_option maxRecDepth 100000 in
theorem itoaI_1 (w : World) : Calls Tryz.prog 123 #[.int .i64 1] w fun e w' => e = .returned (.string ⟨#[49]⟩) ∧ w' = w := by
  go_enter Tryz.func123, Tryz.ntmps123
  go_wp2_with (go_at_call 124; refine (format_1 _).mono ?_; rintro e w1 ⟨rfl, rfl⟩)
  go_ret
  exact ⟨rfl, rfl⟩
set_option maxRecDepth 100000 in
theorem itoa_1 (w : World) : Calls Tryz.prog 122 #[.int .i64 1] w fun e w' => e = .returned (.string ⟨#[49]⟩) ∧ w' = w := by
  go_enter Tryz.func122, Tryz.ntmps122
  go_wp2_with (go_at_call 123; refine (itoaI_1 _).mono ?_; rintro e w1 ⟨rfl, rfl⟩)
  go_ret
  exact ⟨rfl, rfl⟩
set_option maxRecDepth 100000 in
theorem times33 (w : World) : Calls Tryz.prog 48 #[.int .i64 33] w fun e w' => e = .returned (.string ⟨#[111, 114, 100, 101, 114]⟩) ∧ w' = w := by
  go_enter Tryz.func48, Tryz.ntmps48
  go_wp2
  go_ret
  exact ⟨rfl, rfl⟩
set_option maxRecDepth 100000 in
theorem times34 (w : World) : Calls Tryz.prog 48 #[.int .i64 34] w fun e w' => e = .returned (.string ⟨#[108, 97, 110, 101]⟩) ∧ w' = w := by
  go_enter Tryz.func48, Tryz.ntmps48
  go_wp2
  go_ret
  exact ⟨rfl, rfl⟩
set_option maxRecDepth 100000 in
theorem texts25 (w : World) : Calls Tryz.prog 47 #[.int .i64 25] w fun e w' => e = .returned (.string ⟨#[110, 97, 109, 101]⟩) ∧ w' = w := by
  go_enter Tryz.func47, Tryz.ntmps47
  go_wp2
  go_ret
  exact ⟨rfl, rfl⟩
set_option maxRecDepth 100000 in
theorem error33 (w : World) : Calls Tryz.prog 29 #[.int .i64 33] w fun e w' => e = .returned (.string ⟨#[111, 114, 100, 101, 114]⟩) ∧ w' = w := by
  go_enter Tryz.func29, Tryz.ntmps29
  go_wp2_with (go_at_call 48; refine (times33 _).mono ?_; rintro e w1 ⟨rfl, rfl⟩)
  go_ret
  exact ⟨rfl, rfl⟩
set_option maxRecDepth 100000 in
theorem error34 (w : World) : Calls Tryz.prog 29 #[.int .i64 34] w fun e w' => e = .returned (.string ⟨#[108, 97, 110, 101]⟩) ∧ w' = w := by
  go_enter Tryz.func29, Tryz.ntmps29
  go_wp2_with (go_at_call 48; refine (times34 _).mono ?_; rintro e w1 ⟨rfl, rfl⟩)
  go_ret
  exact ⟨rfl, rfl⟩
set_option maxRecDepth 100000 in
theorem error25 (w : World) : Calls Tryz.prog 29 #[.int .i64 25] w fun e w' => e = .returned (.string ⟨#[110, 97, 109, 101]⟩) ∧ w' = w := by
  go_enter Tryz.func29, Tryz.ntmps29
  go_wp2_with (go_at_call 47; refine (texts25 _).mono ?_; rintro e w1 ⟨rfl, rfl⟩)
  go_ret
  exact ⟨rfl, rfl⟩
set_option maxRecDepth 100000 in
set_option maxHeartbeats 400000 in
theorem werror_1_33 (g : Nat) (w : World) (h : w.heap[g]? = some (.cells #[.int .i64 1, .int .i64 33] 51)) :
    Calls Tryz.prog 120 #[.pointer (some ⟨g, 0, none⟩)] w fun e w' => e = .returned (.string ⟨#[99, 117, 101, 32, 49, 58, 32, 111, 114, 100, 101, 114]⟩) ∧ Below w.heap.size w w' := by
  have c0 : w.cell? ⟨g, 0, none⟩ = some (.int .i64 1) := by simp [World.cell?, h]
  have c1 : w.cell? ⟨g, 1, none⟩ = some (.int .i64 33) := by simp [World.cell?, h]
  clear h
  have HI := hideC itoa_1
  have HE := hideC error33
  go_enter Tryz.func120, Tryz.ntmps120
  go_wp2_with fail
  go_region_held3 (fun w' => w'.cell? ⟨g, 0, none⟩ = some (.int .i64 1) ∧ w'.cell? ⟨g, 1, none⟩ = some (.int .i64 33)) (first | go_keep | assumption) (first
    | (go_at_call 122; (with_reducible refine (HI.out _).mono ?_); rintro e w1 ⟨rfl, rfl⟩)
    | (go_at_call 29; (with_reducible refine (HE.out _).mono ?_); rintro e w2 ⟨rfl, rfl⟩))
  go_wp2_with fail
  go_ret
  exact ⟨by kernel_rfl, ((Below.refl _ w).drew)⟩

end Go.Proofs.YtdikfcnbkckinaaGreatDoor
