/- The contract of the statements' own all: the signs that utf.Signs goes over, as a list. -/
import Derived.Test.YtgjkholmoamblaaDoorW4
import Derived.Maps.AppendAt
namespace Go.Proofs.YtgjkholmoamblaaDoor
open Go.RowKit Go.Shelf
attribute [local go_sem] Oper.semAt_some

/-- Signs as the cells of a list. -/
def flatS (l : List Sg) : List Value := l.flatMap fun x => [.int .i64 x.loc, .int .i64 x.len, .int .i32 x.rune, .bool x.bad]
theorem flatS_snoc (l : List Sg) (x : Sg) : flatS (l ++ [x]) = flatS l ++ [.int .i64 x.loc, .int .i64 x.len, .int .i32 x.rune, .bool x.bad] := by simp [flatS]
theorem cell_four_new (w : World) (a b c d : Value) (t : TypeId) : ∀ j u, [a, b, c, d][j]? = some u → (w.alloc (.cells #[a, b, c, d] t)).cell? ((⟨w.heap.size, 0, none⟩ : Addr).add j) = some u := by
  intro j u hj
  match j, hj with
  | 0, hj => simp at hj; subst hj; simp [Addr.add]
  | 1, hj => simp at hj; subst hj; simp [Addr.add]
  | 2, hj => simp at hj; subst hj; simp [Addr.add]
  | 3, hj => simp at hj; subst hj; simp [Addr.add]
  | j + 4, hj => simp at hj

end Go.Proofs.YtgjkholmoamblaaDoor
