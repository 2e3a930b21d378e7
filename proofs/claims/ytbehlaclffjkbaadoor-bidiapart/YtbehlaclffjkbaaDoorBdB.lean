/- bidi: a rune's class (chapter 4). -/
import Derived.Test.YtbehlaclffjkbaaDoorBdA
import Derived.Deep.DeepCutAuto
namespace Go.Proofs.YtbehlaclffjkbaaDoor
open Go.RowKit Go.Shelf

def othI (r : Int) : Int := if r = 8294 then 9 else if r = 8295 then 10 else if r = 8296 then 11 else if r = 8297 then 12 else if inT r tisMark = true then 13 else if inT r tisArabicLetter = true then 14 else if inT r tisLeftGoing = true then 15 else if inT r tisNeutral = true then 16 else 17
def letB (r : Int) : Bool := (decide (97 ≤ r) && decide (r ≤ 122)) || (decide (65 ≤ r) && decide (r ≤ 90))
def classI (r : Int) : Int := if letB r = true then 17 else if r = 10 then 1 else if inT r tisPartEnd = true then 2 else if inT r tisBlank = true then 3 else if inT r tisEuropeanDigit = true then 4 else if inT r tisArabicDigit = true then 5 else if inT r tisNumberSign = true then 6 else if inT r tisBesideNumber = true then 7 else if inT r tisWithinNumber = true then 8 else othI r
set_option maxRecDepth 100000 in
set_option maxHeartbeats 2000000 in
theorem oth_any (r : Int) (w : World) : Calls Tryd.prog 46 #[.int .i32 r] w fun e w' => e = .returned (.int .i64 (othI r)) ∧ Below w.heap.size w w' := by
  have HisMark := hideB (fun (W : World) => isMark_any r W)
  have HisArabicLetter := hideB (fun (W : World) => isArabicLetter_any r W)
  have HisLeftGoing := hideB (fun (W : World) => isLeftGoing_any r W)
  have HisNeutral := hideB (fun (W : World) => isNeutral_any r W)
  have HE : Hid (othI r = if r = 8294 then 9 else if r = 8295 then 10 else if r = 8296 then 11 else if r = 8297 then 12 else if inT r tisMark = true then 13 else if inT r tisArabicLetter = true then 14 else if inT r tisLeftGoing = true then 15 else if inT r tisNeutral = true then 16 else 17) := hideB rfl
  generalize othI r = E at *
  generalize inT r tisMark = zisMark at *
  generalize inT r tisArabicLetter = zisArabicLetter at *
  generalize inT r tisLeftGoing = zisLeftGoing at *
  generalize inT r tisNeutral = zisNeutral at *
  go_enter Tryd.func46, Tryd.ntmps46
  by_cases h8294 : r = 8294
  · rw [if_pos h8294] at HE
    go_wp2_with fail
    go_ret
    exact ⟨by rw [HE.out]; try rfl, Below.refl _ _⟩
  rw [if_neg h8294] at HE
  have e8294 : (r == 8294) = false := by simp [h8294]
  by_cases h8295 : r = 8295
  · rw [if_pos h8295] at HE
    go_wp2_with fail
    go_ret
    exact ⟨by rw [HE.out]; try rfl, Below.refl _ _⟩
  rw [if_neg h8295] at HE
  have e8295 : (r == 8295) = false := by simp [h8295]
  by_cases h8296 : r = 8296
  · rw [if_pos h8296] at HE
    go_wp2_with fail
    go_ret
    exact ⟨by rw [HE.out]; try rfl, Below.refl _ _⟩
  rw [if_neg h8296] at HE
  have e8296 : (r == 8296) = false := by simp [h8296]
  by_cases h8297 : r = 8297
  · rw [if_pos h8297] at HE
    go_wp2_with fail
    go_ret
    exact ⟨by rw [HE.out]; try rfl, Below.refl _ _⟩
  rw [if_neg h8297] at HE
  have e8297 : (r == 8297) = false := by simp [h8297]
  go_wp2_with fail
  refine (HisMark.out _).mono ?_
  rintro e w1 ⟨rfl, b9⟩
  have C1 := hideB (b9)
  clear b9 HisMark
  cases zisMark with
  | true =>
    rw [if_pos rfl] at HE
    go_wp2_with fail
    go_ret
    exact ⟨by rw [HE.out]; try rfl, C1.out⟩
  | false =>
  rw [if_neg (by simp)] at HE
  go_wp2_with fail
  refine (HisArabicLetter.out _).mono ?_
  rintro e w2 ⟨rfl, b9⟩
  have C2 := hideB (bupB C1.out b9)
  clear b9 HisArabicLetter C1
  cases zisArabicLetter with
  | true =>
    rw [if_pos rfl] at HE
    go_wp2_with fail
    go_ret
    exact ⟨by rw [HE.out]; try rfl, C2.out⟩
  | false =>
  rw [if_neg (by simp)] at HE
  go_wp2_with fail
  refine (HisLeftGoing.out _).mono ?_
  rintro e w3 ⟨rfl, b9⟩
  have C3 := hideB (bupB C2.out b9)
  clear b9 HisLeftGoing C2
  cases zisLeftGoing with
  | true =>
    rw [if_pos rfl] at HE
    go_wp2_with fail
    go_ret
    exact ⟨by rw [HE.out]; try rfl, C3.out⟩
  | false =>
  rw [if_neg (by simp)] at HE
  go_wp2_with fail
  refine (HisNeutral.out _).mono ?_
  rintro e w4 ⟨rfl, b9⟩
  have C4 := hideB (bupB C3.out b9)
  clear b9 HisNeutral C3
  cases zisNeutral with
  | true =>
    rw [if_pos rfl] at HE
    go_wp2_with fail
    go_ret
    exact ⟨by rw [HE.out]; try rfl, C4.out⟩
  | false =>
  rw [if_neg (by simp)] at HE
  go_wp2_with fail
  go_ret
  exact ⟨by rw [HE.out]; try rfl, C4.out⟩
set_option maxRecDepth 100000 in
set_option maxHeartbeats 2000000 in
theorem class_any (r : Int) (w : World) : Calls Tryd.prog 17 #[.int .i32 r] w fun e w' => e = .returned (.int .i64 (classI r)) ∧ Below w.heap.size w w' := by
  have HisPartEnd := hideB (fun (W : World) => isPartEnd_any r W)
  have HisBlank := hideB (fun (W : World) => isBlank_any r W)
  have HisEuropeanDigit := hideB (fun (W : World) => isEuropeanDigit_any r W)
  have HisArabicDigit := hideB (fun (W : World) => isArabicDigit_any r W)
  have HisNumberSign := hideB (fun (W : World) => isNumberSign_any r W)
  have HisBesideNumber := hideB (fun (W : World) => isBesideNumber_any r W)
  have HisWithinNumber := hideB (fun (W : World) => isWithinNumber_any r W)
  have HO := hideB (fun (W : World) => oth_any r W)
  have HE : Hid (classI r = if letB r = true then 17 else if r = 10 then 1 else if inT r tisPartEnd = true then 2 else if inT r tisBlank = true then 3 else if inT r tisEuropeanDigit = true then 4 else if inT r tisArabicDigit = true then 5 else if inT r tisNumberSign = true then 6 else if inT r tisBesideNumber = true then 7 else if inT r tisWithinNumber = true then 8 else othI r) := hideB rfl
  have HL1 : Hid ((decide (97 ≤ r) && decide (r ≤ 122)) = (decide (97 ≤ r) && decide (r ≤ 122))) := hideB rfl
  obtain ⟨l1, hl1⟩ : ∃ b, (decide (97 ≤ r) && decide (r ≤ 122)) = b := ⟨_, rfl⟩
  obtain ⟨l2, hl2⟩ : ∃ b, (decide (65 ≤ r) && decide (r ≤ 90)) = b := ⟨_, rfl⟩
  have HL1 := hideB hl1
  have HL2 := hideB hl2
  rw [show letB r = (l1 || l2) by unfold letB; rw [hl1, hl2]] at HE
  clear hl1 hl2
  generalize classI r = E at *
  generalize othI r = eo at *
  generalize inT r tisPartEnd = zisPartEnd at *
  generalize inT r tisBlank = zisBlank at *
  generalize inT r tisEuropeanDigit = zisEuropeanDigit at *
  generalize inT r tisArabicDigit = zisArabicDigit at *
  generalize inT r tisNumberSign = zisNumberSign at *
  generalize inT r tisBesideNumber = zisBesideNumber at *
  generalize inT r tisWithinNumber = zisWithinNumber at *
  go_enter Tryd.func17, Tryd.ntmps17
  go_upto_region 1 with fail
  go_cut [3] (fun o wx => o = .bool l1 ∧ wx = w)
  case first =>
    by_cases h1 : 97 ≤ r
    · by_cases h2 : r ≤ 122
      · have hl : l1 = true := by rw [← HL1.out]; simp [h1, h2]
        go_wp2_with fail
        go_meet
        case rel => exact ⟨by rw [hl], rfl⟩
      · have hl : l1 = false := by rw [← HL1.out]; simp [h2]
        go_wp2_with fail
        go_meet
        case rel => exact ⟨by rw [hl], rfl⟩
    · have hl : l1 = false := by rw [← HL1.out]; simp [h1]
      go_wp2_with fail
      go_meet
      case rel => exact ⟨by rw [hl], rfl⟩
  case rest =>
  obtain ⟨rfl, hw⟩ := hcut
  have hw2 := hw.symm
  clear hw
  subst hw2
  cases l1 with
  | true =>
    rw [if_pos (by simp)] at HE
    go_wp2_with fail
    go_ret
    exact ⟨by rw [HE.out]; try rfl, Below.refl _ _⟩
  | false =>
  go_upto_region 2 with fail
  go_cut [3] (fun o wx => o = .bool l2 ∧ wx = w)
  case first =>
    by_cases h1 : 65 ≤ r
    · by_cases h2 : r ≤ 90
      · have hl : l2 = true := by rw [← HL2.out]; simp [h1, h2]
        go_wp2_with fail
        go_meet
        case rel => exact ⟨by rw [hl], rfl⟩
      · have hl : l2 = false := by rw [← HL2.out]; simp [h2]
        go_wp2_with fail
        go_meet
        case rel => exact ⟨by rw [hl], rfl⟩
    · have hl : l2 = false := by rw [← HL2.out]; simp [h1]
      go_wp2_with fail
      go_meet
      case rel => exact ⟨by rw [hl], rfl⟩
  case rest =>
  obtain ⟨rfl, hw⟩ := hcut
  have hw2 := hw.symm
  clear hw
  subst hw2
  cases l2 with
  | true =>
    rw [if_pos (by simp)] at HE
    go_wp2_with fail
    go_ret
    exact ⟨by rw [HE.out]; try rfl, Below.refl _ _⟩
  | false =>
  rw [if_neg (by simp)] at HE
  by_cases h10 : r = 10
  · rw [if_pos h10] at HE
    go_wp2_with fail
    go_ret
    exact ⟨by rw [HE.out]; try rfl, Below.refl _ _⟩
  rw [if_neg h10] at HE
  have e10 : (r == 10) = false := by simp [h10]
  go_wp2_with fail
  refine (HisPartEnd.out _).mono ?_
  rintro e w1 ⟨rfl, b9⟩
  have C1 := hideB (b9)
  clear b9 HisPartEnd
  cases zisPartEnd with
  | true =>
    rw [if_pos rfl] at HE
    go_wp2_with fail
    go_ret
    exact ⟨by rw [HE.out]; try rfl, C1.out⟩
  | false =>
  rw [if_neg (by simp)] at HE
  go_wp2_with fail
  refine (HisBlank.out _).mono ?_
  rintro e w2 ⟨rfl, b9⟩
  have C2 := hideB (bupB C1.out b9)
  clear b9 HisBlank C1
  cases zisBlank with
  | true =>
    rw [if_pos rfl] at HE
    go_wp2_with fail
    go_ret
    exact ⟨by rw [HE.out]; try rfl, C2.out⟩
  | false =>
  rw [if_neg (by simp)] at HE
  go_wp2_with fail
  refine (HisEuropeanDigit.out _).mono ?_
  rintro e w3 ⟨rfl, b9⟩
  have C3 := hideB (bupB C2.out b9)
  clear b9 HisEuropeanDigit C2
  cases zisEuropeanDigit with
  | true =>
    rw [if_pos rfl] at HE
    go_wp2_with fail
    go_ret
    exact ⟨by rw [HE.out]; try rfl, C3.out⟩
  | false =>
  rw [if_neg (by simp)] at HE
  go_wp2_with fail
  refine (HisArabicDigit.out _).mono ?_
  rintro e w4 ⟨rfl, b9⟩
  have C4 := hideB (bupB C3.out b9)
  clear b9 HisArabicDigit C3
  cases zisArabicDigit with
  | true =>
    rw [if_pos rfl] at HE
    go_wp2_with fail
    go_ret
    exact ⟨by rw [HE.out]; try rfl, C4.out⟩
  | false =>
  rw [if_neg (by simp)] at HE
  go_wp2_with fail
  refine (HisNumberSign.out _).mono ?_
  rintro e w5 ⟨rfl, b9⟩
  have C5 := hideB (bupB C4.out b9)
  clear b9 HisNumberSign C4
  cases zisNumberSign with
  | true =>
    rw [if_pos rfl] at HE
    go_wp2_with fail
    go_ret
    exact ⟨by rw [HE.out]; try rfl, C5.out⟩
  | false =>
  rw [if_neg (by simp)] at HE
  go_wp2_with fail
  refine (HisBesideNumber.out _).mono ?_
  rintro e w6 ⟨rfl, b9⟩
  have C6 := hideB (bupB C5.out b9)
  clear b9 HisBesideNumber C5
  cases zisBesideNumber with
  | true =>
    rw [if_pos rfl] at HE
    go_wp2_with fail
    go_ret
    exact ⟨by rw [HE.out]; try rfl, C6.out⟩
  | false =>
  rw [if_neg (by simp)] at HE
  go_wp2_with fail
  refine (HisWithinNumber.out _).mono ?_
  rintro e w7 ⟨rfl, b9⟩
  have C7 := hideB (bupB C6.out b9)
  clear b9 HisWithinNumber C6
  cases zisWithinNumber with
  | true =>
    rw [if_pos rfl] at HE
    go_wp2_with fail
    go_ret
    exact ⟨by rw [HE.out]; try rfl, C7.out⟩
  | false =>
  rw [if_neg (by simp)] at HE
  go_wp2_with fail
  refine (HO.out _).mono ?_
  rintro e w8 ⟨rfl, b9⟩
  have C8 := hideB (bupB C7.out b9)
  clear b9 HO C7
  go_wp2_with fail
  go_ret
  exact ⟨by rw [HE.out]; try rfl, C8.out⟩
end Go.Proofs.YtbehlaclffjkbaaDoor
