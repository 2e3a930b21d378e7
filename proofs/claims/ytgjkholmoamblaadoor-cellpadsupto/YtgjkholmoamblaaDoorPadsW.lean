/- The walk of surtitlelaw2.CellPads. -/
import Derived.Test.YtgjkholmoamblaaDoorPadW
import Derived.Test.YtgjkholmoamblaaDoorRefOf
import Derived.Test.YtgjkholmoamblaaDoorCellK
namespace Go.Proofs.YtgjkholmoamblaaDoor
open Go.RowKit

set_option maxRecDepth 100000 in
set_option maxHeartbeats 1000000 in
theorem cpads_any (s : ByteArray) (hs : s.size ≤ 1048576) (cells : Int) (h1 : -9223372036854775808 ≤ cells) (h2 : cells ≤ 9223372036854775807) (ahead : Int) (h3 : -9223372036854775808 ≤ ahead) (h4 : ahead ≤ 9223372036854775807) (N : Nat) (w : World) (hT : Tabs N w) :
    Calls Tryd.prog 3 #[.string s, .int .i64 cells, .int .i64 ahead] w fun e w' => e = .returned (.bool true) ∧ Below w.heap.size w w' := by
  have HP := hideC (fun W h => pad_any s hs cells ahead h1 h2 h3 h4 N W h)
  have HR := hideC (fun W => rpad_walk s hs cells ahead h1 h2 h3 h4 W (fun V => refOf_any s hs V))
  have he : (padF s cells ahead).2 = 0 ∨ (padF s cells ahead).2 = 1 := by unfold padF; split <;> first | exact .inr rfl | (split <;> exact .inl rfl)
  generalize hp : padF s cells ahead = P at *
  obtain ⟨p, q⟩ := P
  dsimp only at HP HR he
  have hq1 : -9223372036854775808 ≤ q := by omega
  have hq2 : q ≤ 9223372036854775807 := by omega
  have hwq : IntKind.i64.wrap q = q := IntWalk.i64_in _ ⟨by omega, by omega⟩
  have teq : (p.toList == p.toList) = true := by simp
  have teq2 : (q == q) = true := by simp
  clear hp he
  go_enter Tryd.func3, Tryd.ntmps3
  go_wp2_with fail
  refine (known_any N _ hT).mono ?_
  rintro e w1 ⟨rfl, b1⟩
  have s1 := b1.size
  go_wp2_with fail
  refine (HP.out _ (hT.below b1)).mono ?_
  rintro e w2 ⟨rfl, b2⟩
  have s2 := b2.size
  go_wp2_with fail
  refine (HR.out _).mono ?_
  rintro e w3 ⟨rfl, b3⟩
  go_wp2
  go_ret
  exact ⟨rfl, (b1.trans (b2.mono s1)).trans (b3.mono (by omega))⟩
end Go.Proofs.YtgjkholmoamblaaDoor
