/- The walk of surtitlelaw2.CellPlaces. -/
import Derived.Test.YtfmofjjcgjogjaaDoorRefSn
namespace Go.Proofs.YtfmofjjcgjogjaaDoor
open Go.RowKit

set_option maxRecDepth 100000 in
set_option maxHeartbeats 4000000 in
theorem lawPlaces_any (s : ByteArray) (hs : s.size ≤ 1048576) (sign : Int) (h1 : -9223372036854775808 ≤ sign) (h2 : sign ≤ 9223372036854775807) (column : Int) (h3 : -9223372036854775808 ≤ column) (h4 : column ≤ 9223372036854775807) (N : Nat) (w : World) (hT : Tabs N w) :
    Calls Tryd.prog 7 #[.string s, .int .i64 sign, .int .i64 column] w fun e w' => e = .returned (.bool true) ∧ Below w.heap.size w w' := by
  have HA := hideC (fun w h => column_any s (by omega) sign N w h)
  have HB := hideC (refColumn_any s hs sign h1 h2)
  have HC := hideC (fun w h => sign_any s (by omega) column N w h)
  have HD := hideC (refSign_any s hs column h3 h4)
  generalize columnR s sign = R at *
  generalize signR s column = S at *
  obtain ⟨r1, r2⟩ := R
  obtain ⟨s1, s2⟩ := S
  simp only at HA HB HC HD
  go_enter Tryd.func7, Tryd.ntmps7
  go_wp2_with fail
  refine (known_any N _ hT).mono ?_
  rintro e w1 ⟨rfl, hb1⟩
  go_wp2_with fail
  refine (HA.out _ (hT.below hb1)).mono ?_
  rintro e w2 ⟨rfl, hb2⟩
  have hb12 := hb1.trans (hb2.mono hb1.size)
  go_wp2_with fail
  refine (HB.out _).mono ?_
  rintro e w3 ⟨rfl, hb3⟩
  have hb13 := hb12.trans (hb3.mono hb12.size)
  go_wp2_with fail
  refine (HC.out _ (hT.below hb13)).mono ?_
  rintro e w4 ⟨rfl, hb4⟩
  have hb14 := hb13.trans (hb4.mono hb13.size)
  go_wp2_with fail
  refine (HD.out _).mono ?_
  rintro e w5 ⟨rfl, hb5⟩
  go_wp2
  go_ret
  exact ⟨rfl, hb14.trans (hb5.mono hb14.size)⟩

end Go.Proofs.YtfmofjjcgjogjaaDoor
