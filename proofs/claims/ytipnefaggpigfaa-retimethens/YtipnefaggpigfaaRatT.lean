/- Variables of two cells through calls. -/
import Derived.Test.YtipnefaggpigfaaRatW9
namespace Go.Proofs.Ytipnefaggpigfaa
open Go.RowKit

/-- Two cells that lie in a block. -/
def Two (V : World) (R : Nat) (x y : Value) : Prop := R < V.heap.size ∧ V.cell? ⟨R, 0, none⟩ = some x ∧ V.cell? ⟨R, 1, none⟩ = some y ∧ V.frozen? ⟨R, 0, none⟩ = false ∧ V.frozen? ⟨R, 1, none⟩ = false
theorem Two.new (W : World) (x y : Value) (t : TypeId) : Two (W.alloc (.cells #[x, y] t)) W.heap.size x y :=
  ⟨by simp, by go_simp, by go_simp, by go_simp, by go_simp⟩
theorem Two.keep {V V2 : World} {R : Nat} {x y : Value} (h : Two V R x y) (b : Below V.heap.size V V2) : Two V2 R x y :=
  ⟨Nat.lt_of_lt_of_le h.1 b.size, two_keep b h.1 h.2.1 h.2.2.1 h.2.2.2.1 h.2.2.2.2⟩
theorem Two.alloc {V : World} {R : Nat} {x y : Value} (h : Two V R x y) (o : Obj) : Two (V.alloc o) R x y := h.keep (bel1 V o)
/-- A variable is written over. -/
theorem Two.set {V : World} {R : Nat} {x y x2 y2 : Value} (h : Two V R x y) : Two ((V.setCell ⟨R, 0, none⟩ x2).setCell ⟨R, 1, none⟩ y2) R x2 y2 := by
  obtain ⟨z, c0, c1, f0, f1⟩ := h
  exact ⟨by simpa using z, by go_simp, by go_simp, by go_simp, by go_simp⟩
theorem Two.other {V : World} {R S : Nat} {x y x2 y2 : Value} (h : Two V R x y) (n : S ≠ R) : Two ((V.setCell ⟨S, 0, none⟩ x2).setCell ⟨S, 1, none⟩ y2) R x y := by
  obtain ⟨z, c0, c1, f0, f1⟩ := h
  have n2 : R ≠ S := fun e => n e.symm
  exact ⟨by simpa using z, by go_simp, by go_simp, by go_simp, by go_simp⟩
/-- Three ratios that were handed in, each in a block. -/
def Three (B : Nat) (an ad bn bd cn cd : Int) (V : World) : Prop := Two V B (.int .i64 an) (.int .i64 ad) ∧ Two V (B + 1) (.int .i64 bn) (.int .i64 bd) ∧ Two V (B + 1 + 1) (.int .i64 cn) (.int .i64 cd)
theorem Three.new (w : World) (an ad bn bd cn cd : Int) (t : TypeId) : Three w.heap.size an ad bn bd cn cd (((w.alloc (.cells #[.int .i64 an, .int .i64 ad] t)).alloc (.cells #[.int .i64 bn, .int .i64 bd] t)).alloc (.cells #[.int .i64 cn, .int .i64 cd] t)) := by
  have h1 := ((Two.new w (.int .i64 an) (.int .i64 ad) t).alloc (.cells #[.int .i64 bn, .int .i64 bd] t)).alloc (.cells #[.int .i64 cn, .int .i64 cd] t)
  have h2 := (Two.new (w.alloc (.cells #[.int .i64 an, .int .i64 ad] t)) (.int .i64 bn) (.int .i64 bd) t).alloc (.cells #[.int .i64 cn, .int .i64 cd] t)
  have h3 := Two.new ((w.alloc (.cells #[.int .i64 an, .int .i64 ad] t)).alloc (.cells #[.int .i64 bn, .int .i64 bd] t)) (.int .i64 cn) (.int .i64 cd) t
  rw [show ((w.alloc (.cells #[.int .i64 an, .int .i64 ad] t)).alloc (.cells #[.int .i64 bn, .int .i64 bd] t)).heap.size = w.heap.size + 1 + 1 by simp] at h3
  rw [show (w.alloc (.cells #[.int .i64 an, .int .i64 ad] t)).heap.size = w.heap.size + 1 by simp] at h2
  exact ⟨h1, h2, h3⟩
theorem Three.keep {B : Nat} {an ad bn bd cn cd : Int} {V V2 : World} (h : Three B an ad bn bd cn cd V) (b : Below V.heap.size V V2) : Three B an ad bn bd cn cd V2 := ⟨h.1.keep b, h.2.1.keep b, h.2.2.keep b⟩
theorem Three.alloc {B : Nat} {an ad bn bd cn cd : Int} {V : World} (h : Three B an ad bn bd cn cd V) (o : Obj) : Three B an ad bn bd cn cd (V.alloc o) := h.keep (bel1 V o)
theorem Two.drew {V : World} {R : Nat} {x y : Value} (h : Two V R x y) : Two V.drew R x y := h
theorem Three.drew {B : Nat} {an ad bn bd cn cd : Int} {V : World} (h : Three B an ad bn bd cn cd V) : Three B an ad bn bd cn cd V.drew := h
end Go.Proofs.Ytipnefaggpigfaa
