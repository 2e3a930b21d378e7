/- Numbers as arguments. -/
import Derived.Test.YtoabdhcchegchaaDoorBiBase
import Derived.ShutString
import Derived.DataShut
import Derived.Deep.DeepWitnessRowRef
namespace Go.Proofs.YtoabdhcchegchaaDoor
theorem i64_of {n : Int} (h : (Lit.int .i64 n).wf = true) : -9223372036854775808 ≤ n ∧ n ≤ 9223372036854775807 := by
  obtain ⟨a, b⟩ := (Lit.wf_int_iff .i64 n).1 h
  rw [show IntKind.i64.min = -9223372036854775808 from rfl] at a
  rw [show IntKind.i64.max = 9223372036854775807 from rfl] at b
  exact ⟨a, b⟩
theorem int_bd {n : Int} (h : (Lit.int .i32 n).wf = true) : -2147483648 ≤ n ∧ n ≤ 2147483647 := by
  obtain ⟨a, b⟩ := (Lit.wf_int_iff .i32 n).1 h
  rw [show IntKind.i32.min = -2147483648 from rfl] at a
  rw [show IntKind.i32.max = 2147483647 from rfl] at b
  exact ⟨a, b⟩
end Go.Proofs.YtoabdhcchegchaaDoor
