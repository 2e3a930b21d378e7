/- The walk of UtfSigns: the signs of any bytes, how many there are, and how many units of UTF-16, as the document tells them. -/
import Derived.Test.YtofhmecbcmahaaaDoorHead
import Derived.Test.YtofhmecbcmahaaaDoorRCnt
namespace Go.Proofs.YtofhmecbcmahaaaDoor
open Go.RowKit

set_option maxRecDepth 100000 in
set_option maxHeartbeats 1000000 in
theorem lawSigns1_any (s : ByteArray) (hs : s.size ≤ 1048576) (w : World) (hw : 2 ≤ w.heap.size) (hT : Lib.Utf8Tabs 0 1 w) :
    Calls Tryd.prog 3 #[.string s] w fun e w' => e = .returned (.bool true) ∧ Below w.heap.size w w' := by
  have hln : (signs s).length ≤ 1048576 := Nat.le_trans (sgns_length s _ _) hs
  have HA := hideO (fun W => all_any s hs W)
  have HR := hideO (fun W => rsigns_any s hs W)
  have HC := hideO (fun W => count_any s W (by omega))
  have HD := hideO (fun W => rcount_any s hs W)
  have HP := hideO (fun W => pairs_any s W (by omega))
  have HQ := hideO (fun W => rpairs_any s hs W)
  go_enter Tryd.func3, Tryd.ntmps3
  go_wp2_with fail
  refine (head_any _ hw hT).mono ?_
  rintro r w1 ⟨rfl, b1⟩
  have s1 := b1.size
  go_wp2_with fail
  refine (HA.out _).mono ?_
  rintro r w2 ⟨v2, rfl, o2, b2⟩
  have s2 := b2.size
  obtain ⟨oa, ca, rfl, hca⟩ := alls_at o2
  have b12 := b1.trans (b2.mono s1)
  have HCA := hideO hca
  clear o2 hca
  go_wp2_with fail
  refine (HR.out _).mono ?_
  rintro r w3 ⟨v3, rfl, o3, b3⟩
  have s3 := b3.size
  obtain ⟨ob, cb, rfl, hcb⟩ := rows_at o3
  have b13 := b12.trans (b3.mono (by omega))
  have HCB := hideO hcb
  clear o3 hcb
  go_wp2_with fail
  refine (alike_any _ (signs s) oa ob ca cb hln (fun n hn => by obtain ⟨g, e1, e2, _, e4⟩ := HCA.out n hn; exact ⟨g, e1, e4.below b3 e2⟩) (fun n hn => by obtain ⟨g, e1, e2, _, e4⟩ := HCB.out n hn; exact ⟨g, e1, e4⟩) (fun x hx => by have := rune_bd hx; omega)).mono ?_
  rintro r w4 ⟨rfl, b4⟩
  have s4 := b4.size
  have b14 := b13.trans (b4.mono (by omega))
  clear HCA HCB
  generalize (signs s).length = n at *
  generalize pairsFrom s s.size 0 = m at *
  go_wp2_with fail
  refine (HC.out _).mono ?_
  rintro r w5 ⟨rfl, b5⟩
  have s5 := b5.size
  have b15 := b14.trans (b5.mono (by omega))
  go_wp2_with fail
  refine (HD.out _).mono ?_
  rintro r w6 ⟨rfl, b6⟩
  have s6 := b6.size
  have b16 := b15.trans (b6.mono (by omega))
  go_wp2_with fail
  refine (HP.out _).mono ?_
  rintro r w7 ⟨rfl, b7⟩
  have s7 := b7.size
  have b17 := b16.trans (b7.mono (by omega))
  go_wp2_with fail
  refine (HQ.out _).mono ?_
  rintro r w8 ⟨rfl, b8⟩
  have s8 := b8.size
  have b18 := b17.trans (b8.mono (by omega))
  go_wp2_with fail
  refine (head_any _ (by omega) (tabs_below hw hT b18)).mono ?_
  rintro r w9 ⟨rfl, b9⟩
  go_wp2
  go_ret
  exact ⟨rfl, b18.trans (b9.mono (by omega))⟩
end Go.Proofs.YtofhmecbcmahaaaDoor
