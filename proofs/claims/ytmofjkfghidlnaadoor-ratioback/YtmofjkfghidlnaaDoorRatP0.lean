/- Contracts for package ratio's texts: strings.Cut at one byte; digits. -/
import Derived.Test.YtmofjkfghidlnaaDoorRatW9
import Derived.Test.YtmofjkfghidlnaaDoorRatL2
namespace Go.Proofs.YtmofjkfghidlnaaDoor
open Go.RowKit Go.Shelf
attribute [local go_sem] Oper.semAt_some

/-- A string of these bytes. -/
def bs (l : List UInt8) : ByteArray := ⟨l.toArray⟩
theorem bs_list (l : List UInt8) : (bs l).data.toList = l := by simp [bs]
theorem bs_of (s : ByteArray) : bs s.data.toList = s := by cases s; simp [bs]
theorem bs_toList (l : List UInt8) : (bs l).toList = l := by rw [Lib.toList_data, bs_list]
attribute [local go_sem] bs_toList
theorem bs_size (l : List UInt8) : (bs l).size = l.length := by simp [bs, ByteArray.size]

theorem index1_any (s : ByteArray) (c : UInt8) (w : World) :
    Calls Tryd.prog 126 #[.string s, .string ⟨#[c]⟩] w fun e w' => e = .returned (.int .i64 (Lib.index s.data.toList [c])) ∧ w' = w := by
  rw [Lib.index_one]
  exact Any.stringslite_Index_one (ρ := lay145Ren) { lay145 with } s c w

set_option maxRecDepth 100000 in
theorem slcut_any (s : ByteArray) (hs : s.size ≤ 9223372036854775807) (c : UInt8) (w : World) :
    Calls Tryd.prog 112 #[.string s, .string ⟨#[c]⟩] w fun e w' => e = .returned (.tuple #[.string ⟨(Lib.cut s.data.toList [c]).1.toArray⟩, .string ⟨(Lib.cut s.data.toList [c]).2.1.toArray⟩, .bool (Lib.cut s.data.toList [c]).2.2]) ∧ ∃ n, w' = w.drewN n := by
  have HI := hideR (index1_any s c)
  have h1 : (⟨#[c]⟩ : ByteArray).size = 1 := rfl
  rcases Lib.indexB_cases s ⟨#[c]⟩ with hix | ⟨i, hix, hroom⟩
  · obtain ⟨e1, e2, e3⟩ := Lib.cutB_miss s ⟨#[c]⟩ hix
    rw [show Lib.index s.data.toList [c] = _ from hix] at HI
    rw [show (⟨(Lib.cut s.data.toList [c]).1.toArray⟩ : ByteArray) = _ from e1, show (⟨(Lib.cut s.data.toList [c]).2.1.toArray⟩ : ByteArray) = _ from e2, show (Lib.cut s.data.toList [c]).2.2 = _ from e3]
    clear e1 e2 e3 hix
    go_enter Tryd.func112, Tryd.ntmps112
    go_wp2_with fail
    go_at_call 126
    refine (HI.out _).mono ?_
    rintro e w1 ⟨rfl, hw⟩
    obtain rfl := hw.symm
    go_wp2_with fail
    go_ret3
    exact ⟨rfl, 0, rfl⟩
  · obtain ⟨e1, e2, e3⟩ := Lib.cutB_hit s ⟨#[c]⟩ i hix
    have c1 : (0 : Int) ≤ ↑i := by omega
    rw [h1] at hroom e2
    have c2 : (↑i : Int) ≤ ↑s.size := by omega
    have c3 : (0 : Int) ≤ ↑i + 1 := by omega
    have c4 : (↑i + 1 : Int) ≤ ↑s.size := by omega
    have c5 : (↑i : Int) < 9223372036854775807 := by omega
    rw [show Lib.index s.data.toList [c] = _ from hix] at HI
    rw [show (⟨(Lib.cut s.data.toList [c]).1.toArray⟩ : ByteArray) = _ from e1, show (⟨(Lib.cut s.data.toList [c]).2.1.toArray⟩ : ByteArray) = _ from e2, show (Lib.cut s.data.toList [c]).2.2 = _ from e3]
    clear e1 e2 e3 hix
    go_enter Tryd.func112, Tryd.ntmps112
    go_wp2_with fail
    go_at_call 126
    refine (HI.out _).mono ?_
    rintro e w1 ⟨rfl, hw⟩
    obtain rfl := hw.symm
    go_wp2_with fail
    go_region
    all_goals go_wp2_with fail
    all_goals go_ret3
    all_goals exact ⟨rfl, 1, rfl⟩

theorem cut_any (l : List UInt8) (hs : l.length ≤ 9223372036854775807) (c : UInt8) (w : World) :
    Calls Tryd.prog 100 #[.string (bs l), .string ⟨#[c]⟩] w fun e w' => e = .returned (.tuple #[.string (bs (Lib.cut l [c]).1), .string (bs (Lib.cut l [c]).2.1), .bool (Lib.cut l [c]).2.2]) ∧ ∃ n, w' = w.drewN n := by
  have HI := hideR (slcut_any (bs l) (by rw [bs_size]; exact hs) c)
  rw [bs_list] at HI
  change Hid (∀ w, Calls Tryd.prog 112 #[.string (bs l), .string ⟨#[c]⟩] w fun e w' => e = .returned (.tuple #[.string (bs (Lib.cut l [c]).1), .string (bs (Lib.cut l [c]).2.1), .bool (Lib.cut l [c]).2.2]) ∧ ∃ n, w' = w.drewN n) at HI
  generalize Lib.cut l [c] = r at *
  go_enter Tryd.func100, Tryd.ntmps100
  go_wp2_with fail
  go_at_call 112
  refine (HI.out _).mono ?_
  rintro e w1 ⟨rfl, n, rfl⟩
  go_wp2_with fail
  go_ret3
  exact ⟨rfl, n, rfl⟩

/-! digits -/
def isDig (c : UInt8) : Bool := decide (48 ≤ c.toNat ∧ c.toNat ≤ 57)
def digL : List UInt8 := [48, 49, 50, 51, 52, 53, 54, 55, 56, 57]
theorem dig_contains (c : UInt8) : digL.contains c = isDig c := by
  have h : ∀ n : Fin 256, digL.contains (UInt8.ofNat n.1) = isDig (UInt8.ofNat n.1) := by decide +kernel
  have := h ⟨c.toNat, c.toNat_lt⟩
  simpa using this
theorem dropWhile_nil {p : UInt8 → Bool} : ∀ (l : List UInt8), l.dropWhile p = [] ↔ l.all p = true
  | [] => by simp
  | a :: l => by
    cases h : p a <;> simp [List.dropWhile, h, dropWhile_nil l]
theorem trim_nil (l cs : List UInt8) : (Lib.trimS l cs == []) = l.all (cs.contains ·) := by
  rw [Bool.eq_iff_iff, beq_iff_eq]
  unfold Lib.trimS Lib.trimLeftS
  rw [dropWhile_nil]
  constructor
  · intro h
    -- what is left behind the trailing ones is all in the set, and so is the rest
    unfold Lib.trimRightS at h
    have h2 : ((l.reverse.dropWhile (cs.contains ·)).all (cs.contains ·)) = true := by rw [List.all_reverse] at h; exact h
    have h3 : l.reverse.dropWhile (cs.contains ·) = [] := by
      cases hd : l.reverse.dropWhile (cs.contains ·) with
      | nil => rfl
      | cons a t =>
        have := List.head_dropWhile_not (p := (cs.contains ·)) (l := l.reverse) (by rw [hd]; simp)
        rw [hd] at h2
        simp only [hd, List.head_cons] at this
        rw [List.all_cons, this] at h2
        cases h2
    rw [dropWhile_nil, List.all_reverse] at h3
    exact h3
  · intro h
    unfold Lib.trimRightS
    rw [← List.all_reverse, ← dropWhile_nil] at h
    rw [h]
    rfl

theorem trim_any (l : List UInt8) (h : l.length ≤ 9223372036854775807) (w : World) :
    Calls Tryd.prog 103 #[.string (bs l), .string ⟨#[48, 49, 50, 51, 52, 53, 54, 55, 56, 57]⟩] w fun e w' => e = .returned (.string (bs (Lib.trimS l digL))) ∧ Below w.heap.size w w' := by
  have := Any.strings_Trim_laid (ρ := lay160Ren) lay160 (by kernel_rfl) (bs l) ⟨#[48, 49, 50, 51, 52, 53, 54, 55, 56, 57]⟩ w (by rw [bs_size]; exact h) (by decide) (ascii_of_all (by decide))
  rw [bs_list] at this
  exact this
theorem trim0_any (l : List UInt8) (h : l.length ≤ 9223372036854775807) (w : World) :
    Calls Tryd.prog 103 #[.string (bs l), .string ⟨#[48]⟩] w fun e w' => e = .returned (.string (bs (Lib.trimS l [48]))) ∧ Below w.heap.size w w' := by
  have := Any.strings_Trim_laid (ρ := lay160Ren) lay160 (by kernel_rfl) (bs l) ⟨#[48]⟩ w (by rw [bs_size]; exact h) (by decide) (ascii_of_all (by decide))
  rw [bs_list] at this
  exact this

/-- digits, one at least -/
def digB (l : List UInt8) : Bool := (l != []) && l.all isDig
theorem areDigits_any (l : List UInt8) (h : l.length ≤ 9223372036854775807) (w : World) :
    Calls Tryd.prog 102 #[.string (bs l)] w fun e w' => e = .returned (.bool (digB l)) ∧ Below w.heap.size w w' := by
  have HT := hideR (trim_any l h)
  by_cases h0 : l = []
  · subst h0
    rw [show bs [] = ⟨#[]⟩ from rfl, show digB [] = false from rfl]
    go_enter Tryd.func102, Tryd.ntmps102
    go_wp2_with fail
    go_ret
    exact ⟨rfl, Below.refl _ _⟩
  · have hd : digB l = (Lib.trimS l digL == []) := by
      rw [trim_nil]
      unfold digB
      rw [show (l != []) = true by simpa using h0, Bool.true_and]
      congr 1
      funext c
      exact (dig_contains c).symm
    rw [hd]
    generalize Lib.trimS l digL = t at *
    clear hd
    have hne : l.isEmpty = false := by simpa using h0
    by_cases ht : t = []
    · subst ht
      go_enter Tryd.func102, Tryd.ntmps102
      go_wp2_with fail
      go_at_call 103
      refine (HT.out _).mono ?_
      rintro e w1 ⟨rfl, b1⟩
      go_wp2_with fail
      go_ret
      exact ⟨rfl, b1⟩
    · have hte : t.isEmpty = false := by simpa using ht
      rw [show (t == []) = false by simpa using ht]
      go_enter Tryd.func102, Tryd.ntmps102
      go_wp2_with fail
      go_at_call 103
      refine (HT.out _).mono ?_
      rintro e w1 ⟨rfl, b1⟩
      go_wp2_with fail
      go_ret
      exact ⟨rfl, b1⟩

/-! numbers -/
def numB (l : List UInt8) : Bool := digB l && (l == [48] || l.head? != some 48)

theorem isNumber_any (l : List UInt8) (h : l.length ≤ 9223372036854775807) (w : World) :
    Calls Tryd.prog 101 #[.string (bs l)] w fun e w' => e = .returned (.bool (numB l)) ∧ Below w.heap.size w w' := by
  have HD := hideR (areDigits_any l h)
  cases hd : digB l
  · rw [show numB l = false by unfold numB; rw [hd]; rfl]
    rw [hd] at HD
    go_enter Tryd.func101, Tryd.ntmps101
    go_wp2_with fail
    go_at_call 102
    refine (HD.out _).mono ?_
    rintro e w1 ⟨rfl, b1⟩
    go_wp2_with fail
    go_ret
    exact ⟨rfl, b1⟩
  · rw [hd] at HD
    unfold numB
    rw [hd, Bool.true_and]
    cases l with
    | nil => simp [digB] at hd
    | cons c t =>
      by_cases h1 : c = 48
      · subst h1
        by_cases h2 : t = []
        · subst h2
          rw [show bs [48] = ⟨#[48]⟩ from rfl] at *
          rw [show (([48] : List UInt8) == [48] || ([48] : List UInt8).head? != some 48) = true by decide]
          go_enter Tryd.func101, Tryd.ntmps101
          go_wp2_with fail
          go_at_call 102
          refine (HD.out _).mono ?_
          rintro e w1 ⟨rfl, b1⟩
          go_wp2_with fail
          go_ret
          exact ⟨rfl, b1⟩
        · have hz : 0 < (bs (48 :: t)).size := by rw [bs_size]; simp
          rw [show ((48 :: t : List UInt8) == [48] || (48 :: t : List UInt8).head? != some 48) = false by simp [h2]]
          go_enter Tryd.func101, Tryd.ntmps101
          go_wp2_with fail
          go_at_call 102
          refine (HD.out _).mono ?_
          rintro e w1 ⟨rfl, b1⟩
          go_wp2_with fail
          go_ret
          exact ⟨by rw [show (bs (48 :: t))[0] = 48 from rfl]; simp [h2], b1⟩
      · have hz : 0 < (bs (c :: t)).size := by rw [bs_size]; simp
        rw [show ((c :: t : List UInt8) == [48] || (c :: t : List UInt8).head? != some 48) = true by simp [h1]]
        go_enter Tryd.func101, Tryd.ntmps101
        go_wp2_with fail
        go_at_call 102
        refine (HD.out _).mono ?_
        rintro e w1 ⟨rfl, b1⟩
        go_wp2_with fail
        go_ret
        exact ⟨by rw [show (bs (c :: t))[0] = c from rfl, show (((c.toNat : Nat) : Int) != 48) = true by simp only [bne_iff_ne, ne_eq]; intro e; apply h1; apply UInt8.toNat_inj.1; simp; omega, Bool.or_true]; rfl, b1⟩

/-- what digits say -/
def valN (l : List UInt8) : Nat := l.foldl (fun n c => n * 10 + (c.toNat - 48)) 0
theorem valN_step (l : List UInt8) (k : Nat) (hk : k < l.length) : valN (l.take (k + 1)) = valN (l.take k) * 10 + (l[k].toNat - 48) := by
  unfold valN
  rw [List.take_succ_eq_append_getElem hk, List.foldl_append]
  rfl
theorem dig_at (l : List UInt8) (h : l.all isDig = true) (k : Nat) (hk : k < l.length) : 48 ≤ l[k].toNat ∧ l[k].toNat ≤ 57 := by
  have := List.all_eq_true.1 h l[k] (List.getElem_mem hk)
  exact of_decide_eq_true this
theorem valN_lt (l : List UInt8) (h : l.all isDig = true) : ∀ k, k ≤ l.length → valN (l.take k) < 10 ^ k
  | 0, _ => by simp [valN]
  | k + 1, hk => by
    rw [valN_step l k hk, Nat.pow_succ]
    have := valN_lt l h k (by omega)
    have := dig_at l h k hk
    omega
theorem pow10_le (k m : Nat) (h : k ≤ m) : 10 ^ k ≤ 10 ^ m := Nat.pow_le_pow_right (by omega) h
theorem bs_get (l : List UInt8) (k : Nat) (hk : k < (bs l).size) : (bs l)[k] = l[k]'(by rw [bs_size] at hk; exact hk) := by
  exact List.getElem_toArray (xs := l) (i := k) hk

theorem number_any (l : List UInt8) (h : l.all isDig = true) (hl : l.length ≤ 19) (w : World) :
    Calls Tryd.prog 104 #[.string (bs l)] w fun e w' => e = .returned (.int .u64 (valN l)) ∧ w' = w := by
  have hsz := bs_size l
  go_enter Tryd.func104, Tryd.ntmps104
  go_wp2
  go_loop [3, 7] (fun vn vi => ∃ k : Nat, k ≤ l.length ∧ vn = .int .u64 (valN (l.take k)) ∧ vi = .int .i64 k) (fun _ vi => l.length - (intOf vi).toNat)
  case atStart => exact ⟨0, by omega, rfl, rfl⟩
  case round =>
    obtain ⟨k, hk, rfl, rfl⟩ := hrel
    by_cases h1 : k < l.length
    · have hx := dig_at l h k h1
      have hv := valN_lt l h k hk
      have hp := pow10_le k 18 (by omega)
      have hst := valN_step l k h1
      have hg := bs_get l k (by omega)
      have z1 : (k : Int) < ((bs l).size : Int) := by omega
      have z2 : k < (bs l).size := by omega
      have hv2 : valN (l.take k) < 1000000000000000000 := by omega
      generalize valN (l.take k) = v at *
      clear hv hp
      go_wp2
      go_round
      case rel => exact ⟨k + 1, by omega, by rw [hst]; go_num, by go_num⟩
      case measure => simp [intOf]; omega
    · obtain rfl : k = l.length := by omega
      go_wp2
      go_ret
      exact ⟨rfl, rfl⟩
end Go.Proofs.YtmofjkfghidlnaaDoor
