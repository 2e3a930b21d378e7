/- The statements' head of chapter 6: the map with a bend (chapter 6). -/
import Derived.Test.YtjbkhbhobnlhcaaKnR
import Derived.ProofKit
namespace Go.Proofs.Ytjbkhbhobnlhcaa
open Go.RowKit Go.Shelf

def K06 : List Kn := [⟨⟨0, 1⟩, ⟨0, 1⟩⟩, ⟨⟨10, 1⟩, ⟨10, 1⟩⟩, ⟨⟨20, 1⟩, ⟨40, 1⟩⟩]
theorem k06_e : newE K06 = 0 := by decide +kernel
theorem k06_k : newK K06 = [⟨⟨9, 1⟩, ⟨9, 1⟩⟩, ⟨⟨10, 1⟩, ⟨10, 1⟩⟩, ⟨⟨11, 1⟩, ⟨13, 1⟩⟩] := by kernel_rfl
def O06 : List Kn := [⟨⟨9, 1⟩, ⟨9, 1⟩⟩, ⟨⟨10, 1⟩, ⟨10, 1⟩⟩, ⟨⟨11, 1⟩, ⟨13, 1⟩⟩]
theorem k06_a : appF O06 (slsK O06) ⟨12, 1⟩ = (⟨16, 1⟩, 0) := by kernel_rfl
theorem k06_u : undF O06 (slsK O06) ⟨16, 1⟩ = (⟨12, 1⟩, 0) := by kernel_rfl
theorem k06_c : chkK O06 = 0 := by decide +kernel
theorem rt_in_small (n : Int) (h : -1000 ≤ n ∧ n ≤ 1000) : RtIn ⟨n, 1⟩ := ⟨⟨by simp; omega, by simp; omega⟩, ⟨by simp, by simp⟩⟩
end Go.Proofs.Ytjbkhbhobnlhcaa
