/- The walk of UtfRunes: the runes of any bytes, repaired, and where the bad ones stand, as the document tells them. -/
import Derived.Test.YtofhmecbcmahaaaDoorHead
import Derived.Test.YtofhmecbcmahaaaDoorRRun
namespace Go.Proofs.YtofhmecbcmahaaaDoor
open Go.RowKit

set_option maxRecDepth 100000 in
set_option maxHeartbeats 2000000 in
theorem lawRunes1_any (s : ByteArray) (hs : s.size ≤ 1048576) (w : World) (hw : 2 ≤ w.heap.size) (hT : Lib.Utf8Tabs 0 1 w) :
    Calls Tryd.prog 6 #[.string s] w fun e w' => e = .returned (.bool true) ∧ Below w.heap.size w w' := by
  have hln : (signs s).length ≤ 1048576 := Nat.le_trans (sgns_length s _ _) hs
  have hlr : (runesL s).length ≤ 1048576 := by unfold runesL; rw [List.length_map]; omega
  have hlb : (badI s).length ≤ 1048576 := by rw [badI_length]; have := badsL_le (signs s); omega
  have HR1 := hideO (fun W => repair_text s (by omega) W)
  have HR2 := hideO (fun W => rrepair_any s hs W)
  have HU := hideO (fun W => runes_text1 s (by omega) W)
  have HRR := hideO (fun W => rrunes_any s hs W)
  have HB1 := hideO (fun W => bads_any s (by omega) W)
  have HB2 := hideO (fun W => rbads_any s hs W)
  rw [badV_eq, ← badI_length] at HB1 HB2
  rw [← badI_length] at HR1 HR2
  have HRB : Hid (∀ x ∈ runesL s, -2147483648 ≤ x ∧ x ≤ 2147483647) := fun x hx => by
    unfold runesL at hx
    obtain ⟨y, hy, rfl⟩ := List.mem_map.1 hx
    have := rune_bd hy
    omega
  generalize runesL s = RL at *
  generalize badI s = BI at *
  generalize textA RL = t at *
  go_enter Tryd.func6, Tryd.ntmps6
  go_wp2_with fail
  refine (HR1.out _).mono ?_
  rintro r w1 ⟨rfl, b1⟩
  have s1 := b1.size
  go_wp2_with fail
  refine (HR2.out _).mono ?_
  rintro r w2 ⟨rfl, b2⟩
  have s2 := b2.size
  have b12 := b1.trans (b2.mono s1)
  go_wp2_with fail
  refine (HU.out _).mono ?_
  rintro r w3 ⟨⟨c3, rfl⟩, hr3, b3⟩
  have s3 := b3.size
  have b13 := b12.trans (b3.mono (by omega))
  go_wp2_with fail
  refine (ints_any RL (by omega) _ _ _ (fun n hn => ⟨_, rfl, ?_, ?_⟩) HRB.out).mono ?_
  · have := World.block_lt_of_cell? w3 _ (hr3 n hn)
    by_cases c : n = 0
    · subst c; simpa [Addr.add] using this
    · simpa [Addr.add, c] using this
  · have := hr3 n hn
    by_cases c : n = 0
    · subst c; simpa [Addr.add] using this
    · simpa [Addr.add, c] using this
  rintro r w4 ⟨v4, rfl, o4, b4⟩
  have s4 := b4.size
  have b14 := b13.trans (b4.mono (by omega))
  obtain ⟨oa, ca, rfl, hi4⟩ := ints_of o4
  have HI4 := hideO hi4
  clear o4 hi4 hr3
  go_wp2_with fail
  refine (HRR.out _).mono ?_
  rintro r w5 ⟨v5, rfl, o5, b5⟩
  have s5 := b5.size
  have b15 := b14.trans (b5.mono (by omega))
  obtain ⟨ob, cb, rfl, hi5⟩ := ints_of o5
  have HI5 := hideO hi5
  clear o5 hi5
  go_wp2_with fail
  refine (same_any _ RL oa ob ca cb (by omega) (HI4.out.below b5) HI5.out).mono ?_
  rintro r w6 ⟨rfl, b6⟩
  have s6 := b6.size
  have b16 := b15.trans (b6.mono (by omega))
  go_wp2_with fail
  refine (HB1.out _).mono ?_
  rintro r w7 ⟨v7, rfl, o7, b7⟩
  have s7 := b7.size
  have b17 := b16.trans (b7.mono (by omega))
  obtain ⟨oc, cc, rfl, hi7⟩ := ints_of o7
  have HI7 := hideO hi7
  clear o7 hi7
  go_wp2_with fail
  refine (HB2.out _).mono ?_
  rintro r w8 ⟨v8, rfl, o8, b8⟩
  have s8 := b8.size
  have b18 := b17.trans (b8.mono (by omega))
  obtain ⟨od, cd, rfl, hi8⟩ := ints_of o8
  have HI8 := hideO hi8
  clear o8 hi8
  go_wp2_with fail
  refine (same_any _ BI oc od cc cd (by omega) (HI7.out.below b8) HI8.out).mono ?_
  rintro r w9 ⟨rfl, b9⟩
  have s9 := b9.size
  have b19 := b18.trans (b9.mono (by omega))
  go_wp2_with fail
  refine (head_any _ (by omega) (tabs_below hw hT b19)).mono ?_
  rintro r x9 ⟨rfl, d9⟩
  go_wp2
  go_ret
  exact ⟨rfl, b19.trans (d9.mono (by omega))⟩
end Go.Proofs.YtofhmecbcmahaaaDoor
