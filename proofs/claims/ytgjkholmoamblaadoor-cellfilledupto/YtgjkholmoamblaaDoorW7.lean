/- Contracts of utf.firstLen, utf.Melts and utf.Place. -/
import Derived.Test.YtgjkholmoamblaaDoorW4
import Derived.Test.YtgjkholmoamblaaDoorW6
namespace Go.Proofs.YtgjkholmoamblaaDoor
open Go.RowKit Go.Shelf
attribute [local go_sem] Oper.semAt_some

/-- The length of the first sign of a text; 0, if there is none. -/
def firstL (s : ByteArray) : Nat := match signs s with
  | [] => 0
  | x :: _ => x.len

theorem openN_size (s : ByteArray) : ∀ n, (openN s n).size ≤ n
  | 0 => by simp [openN]
  | n + 1 => by
    have := openN_size s n
    unfold openN
    split
    · omega
    · simp only [ByteArray.size_extract]; omega
theorem openE_size (s : ByteArray) : (openE s).size ≤ 3 := Nat.le_trans (openN_size s _) (by omega)

/-- Whether two texts melt, as utf tells it. -/
def meltsB (a b : ByteArray) : Bool := !(openE a).toList.isEmpty && decide ((openE a).size < firstL (openE a ++ b.extract 0 (min b.size 4)))
end Go.Proofs.YtgjkholmoamblaaDoor
