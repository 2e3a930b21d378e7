/- Contracts of utf8.FullRuneInString and of utf.openEnd: whether bytes are the front of an encoding. -/
import Derived.Test.YtgjkholmoamblaaDoorW1
import Derived.Lib.DecodeN
import Derived.Lib.LaidU8T
import Derived.Deep.QuietTactic
import Derived.BigQuiet
namespace Go.Proofs.YtgjkholmoamblaaDoor
open Go.RowKit

theorem below_dn {B : Nat} {a w : World} (h : Below B a w) (n : Nat) : Below B a (w.drewN n) := h.trans ⟨rfl, rfl, rfl, Nat.le_refl _, fun _ _ => rfl⟩

/-- What utf8.FullRuneInString tells of at most three bytes (more are always full). -/
def fullB (s : ByteArray) : Bool :=
  if s.size = 0 then false
  else if Lib.firstT (s.get! 0).toNat % 8 ≤ s.size then true
  else if 1 < s.size ∧ ((s.get! 1).toNat < Lib.accLo (Lib.firstT (s.get! 0).toNat / 16) ∨ Lib.accHi (Lib.firstT (s.get! 0).toNat / 16) < (s.get! 1).toNat) then true
  else if 2 < s.size ∧ ((s.get! 2).toNat < 128 ∨ 191 < (s.get! 2).toNat) then true
  else false

theorem firstT_lt (b : Nat) : Lib.firstT b < 256 := by
  unfold Lib.firstT
  repeat' split
  all_goals omega
theorem firstT_sz (b : Nat) : Lib.firstT b % 8 ≤ 4 := by
  unfold Lib.firstT
  repeat' split
  all_goals omega

theorem get_bang (s : ByteArray) (k : Nat) (h : k < s.size) : s.get! k = s[k] := by
  exact get_at s k h

/-- The longest end of s, of at most n bytes, that is a front of an encoding. -/
def openN (s : ByteArray) : Nat → ByteArray
  | 0 => ByteArray.empty
  | n + 1 => if fullB (s.extract (s.size - (n + 1)) s.size) = true then openN s n else s.extract (s.size - (n + 1)) s.size
def openE (s : ByteArray) : ByteArray := openN s (min s.size 3)

theorem tabs_below {w w' : World} (hw : 2 ≤ w.heap.size) (hT : Lib.Utf8Tabs 0 1 w) (h : Below w.heap.size w w') : Lib.Utf8Tabs 0 1 w' :=
  ⟨fun c hc => (h.cell (p := ⟨0, c, none⟩) (by show 0 < _; omega)).trans (hT.1 c hc), fun i hi => ⟨(h.cell (p := ⟨1, 2 * i, none⟩) (by show 1 < _; omega)).trans (hT.2 i hi).1, (h.cell (p := ⟨1, 2 * i + 1, none⟩) (by show 1 < _; omega)).trans (hT.2 i hi).2⟩⟩

end Go.Proofs.YtgjkholmoamblaaDoor
