/- Package wrap: breaks compared. -/
import Derived.Test.YtpnojhomjkopeaaDoorWrU
import Derived.Laws.StructEq
namespace Go.Proofs.YtpnojhomjkopeaaDoor
open Go.RowKit

theorem br_guard : Tryd.prog.eqGuardType Tryd.prog.depth 39 = false := by kernel_rfl
theorem br_under : Tryd.prog.underlying 39 = some (.struct (Tryd.prog.fieldsOf 39)) := by kernel_rfl
theorem br_held : Tryd.prog.stoodInHeld 39 = false := by kernel_rfl
theorem br_fields : (Tryd.prog.fieldsOf 39).toList.map (fun f => (f.name, f.type, f.offset)) = [("Sign", 3, 0), ("Kind", 3, 1)] := by kernel_rfl
set_option maxRecDepth 100000 in
theorem br_eqIn (a b a' b' : Int) (w : World) : (Op.equalIn 10000 39 (.agg #[.int .i64 a, .int .i64 b]) (.agg #[.int .i64 a', .int .i64 b'])).run Tryd.prog w = .ok (a == a' && b == b') w := by
  rw [run_equalIn_agg _ _ _ _ _ br_under br_held]
  have hf := br_fields
  match h : (Tryd.prog.fieldsOf 39).toList, hf with
  | [f0, f1], hf =>
    clear h
    simp only [List.map_cons, List.map_nil, List.cons.injEq, Prod.mk.injEq, and_true] at hf
    obtain ⟨⟨n0, t0, o0⟩, ⟨n1, t1, o1⟩⟩ := hf
    have u3 : Tryd.prog.underlying 3 = some (.int .i64) := Tryd.underlying3
    simp [Op.eqFields, n0, n1, t0, t1, o0, o1, go_sem, u3]
    by_cases h0 : a = a' <;> by_cases h1 : b = b' <;> simp [h0, h1]
  | [], hf => simp at hf
  | [_], hf => simp at hf
  | _ :: _ :: _ :: _, hf => simp at hf
theorem br_eq (a b a' b' : Int) (w : World) : (binOp .eql 39 (.agg #[.int .i64 a, .int .i64 b]) (.agg #[.int .i64 a', .int .i64 b'])).run Tryd.prog w = .ok (.bool (a == a' && b == b')) w := by
  rw [run_eql_struct, br_eqIn]
  rfl
theorem br_ne (a b a' b' : Int) (w : World) : (binOp .neq 39 (.agg #[.int .i64 a, .int .i64 b]) (.agg #[.int .i64 a', .int .i64 b'])).run Tryd.prog w = .ok (.bool (!(a == a' && b == b'))) w := by
  rw [run_neq_struct, br_eqIn]
  rfl
end Go.Proofs.YtpnojhomjkopeaaDoor
