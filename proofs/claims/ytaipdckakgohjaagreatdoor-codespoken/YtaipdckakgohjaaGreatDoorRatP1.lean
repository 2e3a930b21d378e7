/- Contracts for package ratio's texts: what was read. -/
import Derived.Test.YtaipdckakgohjaaGreatDoorRatP0
namespace Go.Proofs.YtaipdckakgohjaaGreatDoor
open Go.RowKit Go.Shelf
attribute [local go_sem] Oper.semAt_some bs_toList

theorem bs_append (a b : List UInt8) : bs a ++ bs b = bs (a ++ b) := by
  apply ByteArray.ext
  simp [bs]

theorem mul_small (x y : Nat) (hx : x < 18446744073709551616) (hy : y < 18446744073709551616) (w : World) : Calls Tryz.prog 96 #[.int .u64 x, .int .u64 y] w fun e w' => e = .returned (.tuple #[.int .u64 (hiZ ((x : Int) * y)), .int .u64 (loZ ((x : Int) * y))]) ∧ w' = w :=
  mul_i x y ⟨by omega, by omega⟩ ⟨by omega, by omega⟩ w

def topN (wh be : List UInt8) : Nat := valN wh * 10 ^ be.length + valN be
theorem loZ_small (n : Nat) (h : n < 18446744073709551616) : loZ (n : Int) = n ∧ hiZ (n : Int) = 0 := by unfold loZ hiZ; omega

def botN (un be : List UInt8) : Nat := if un.isEmpty = true then 10 ^ be.length else valN un
end Go.Proofs.YtaipdckakgohjaaGreatDoor
