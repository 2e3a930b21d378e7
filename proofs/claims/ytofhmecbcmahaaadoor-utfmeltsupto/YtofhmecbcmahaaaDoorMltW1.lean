/- The walk of UtfMelts: any two texts melt as the document says. -/
import Derived.Test.YtofhmecbcmahaaaDoorHead
import Derived.Test.YtofhmecbcmahaaaDoorRMlt
namespace Go.Proofs.YtofhmecbcmahaaaDoor
open Go.RowKit

set_option maxRecDepth 100000 in
set_option maxHeartbeats 1000000 in
theorem lawMelts1_any (a : ByteArray) (ha : a.size ≤ 1048576) (b : ByteArray) (hb : b.size ≤ 1048576) (hs : a.size + b.size ≤ 1048576) (w : World) (hw : 2 ≤ w.heap.size) (hT : Lib.Utf8Tabs 0 1 w) :
    Calls Tryd.prog 8 #[.string a, .string b] w fun e w' => e = .returned (.bool true) ∧ Below w.heap.size w w' := by
  have HM := hideO (melts_any a b w (by omega) (by omega) hw hT)
  have HR := hideO (fun W => rmelts_any a b hs W)
  generalize meltsB a b = M at *
  cases M
  all_goals
    go_enter Tryd.func8, Tryd.ntmps8
    go_wp2_with fail
    refine HM.out.mono ?_
    rintro r w1 ⟨rfl, b1⟩
    have s1 := b1.size
    go_wp2_with fail
    refine (HR.out _).mono ?_
    rintro r w2 ⟨rfl, b2⟩
    have s2 := b2.size
    have b12 := b1.trans (b2.mono s1)
    go_wp2_with fail
    refine (head_any _ (by omega) (tabs_below hw hT b12)).mono ?_
    rintro r w3 ⟨rfl, b3⟩
    go_wp2
    go_ret
    exact ⟨rfl, b12.trans (b3.mono (by omega))⟩
end Go.Proofs.YtofhmecbcmahaaaDoor
