/- Contracts for package ratio's texts: strings.Cut at one byte; digits. -/
import Derived.Test.YtaipdckakgohjaaGreatDoorRatW9
import Derived.Test.YtaipdckakgohjaaGreatDoorRatL2
namespace Go.Proofs.YtaipdckakgohjaaGreatDoor
open Go.RowKit Go.Shelf
attribute [local go_sem] Oper.semAt_some

/-- A string of these bytes. -/
def bs (l : List UInt8) : ByteArray := ⟨l.toArray⟩
theorem bs_list (l : List UInt8) : (bs l).data.toList = l := by simp [bs]
theorem bs_of (s : ByteArray) : bs s.data.toList = s := by cases s; simp [bs]
theorem bs_toList (l : List UInt8) : (bs l).toList = l := by rw [Lib.toList_data, bs_list]
attribute [local go_sem] bs_toList
theorem bs_size (l : List UInt8) : (bs l).size = l.length := by simp [bs, ByteArray.size]

theorem index1_any (s : ByteArray) (c : UInt8) (w : World) :
    Calls Tryz.prog 107 #[.string s, .string ⟨#[c]⟩] w fun e w' => e = .returned (.int .i64 (Lib.index s.data.toList [c])) ∧ w' = w := by
  rw [Lib.index_one]
  exact Any.stringslite_Index_one (ρ := lay145Ren) { lay145 with } s c w

set_option maxRecDepth 100000 in
theorem slcut_any (s : ByteArray) (hs : s.size ≤ 9223372036854775807) (c : UInt8) (w : World) :
    Calls Tryz.prog 95 #[.string s, .string ⟨#[c]⟩] w fun e w' => e = .returned (.tuple #[.string ⟨(Lib.cut s.data.toList [c]).1.toArray⟩, .string ⟨(Lib.cut s.data.toList [c]).2.1.toArray⟩, .bool (Lib.cut s.data.toList [c]).2.2]) ∧ ∃ n, w' = w.drewN n := by
  have HI := hideR (index1_any s c)
  have h1 : (⟨#[c]⟩ : ByteArray).size = 1 := rfl
  rcases Lib.indexB_cases s ⟨#[c]⟩ with hix | ⟨i, hix, hroom⟩
  · obtain ⟨e1, e2, e3⟩ := Lib.cutB_miss s ⟨#[c]⟩ hix
    rw [show Lib.index s.data.toList [c] = _ from hix] at HI
    rw [show (⟨(Lib.cut s.data.toList [c]).1.toArray⟩ : ByteArray) = _ from e1, show (⟨(Lib.cut s.data.toList [c]).2.1.toArray⟩ : ByteArray) = _ from e2, show (Lib.cut s.data.toList [c]).2.2 = _ from e3]
    clear e1 e2 e3 hix
    go_enter Tryz.func95, Tryz.ntmps95
    go_wp2_with fail
    go_at_call 107
    refine (HI.out _).mono ?_
    rintro e w1 ⟨rfl, hw⟩
    obtain rfl := hw.symm
    go_wp2_with fail
    go_ret3
    exact ⟨rfl, 0, rfl⟩
  · obtain ⟨e1, e2, e3⟩ := Lib.cutB_hit s ⟨#[c]⟩ i hix
    have c1 : (0 : Int) ≤ ↑i := by omega
    rw [h1] at hroom e2
    have c2 : (↑i : Int) ≤ ↑s.size := by omega
    have c3 : (0 : Int) ≤ ↑i + 1 := by omega
    have c4 : (↑i + 1 : Int) ≤ ↑s.size := by omega
    have c5 : (↑i : Int) < 9223372036854775807 := by omega
    rw [show Lib.index s.data.toList [c] = _ from hix] at HI
    rw [show (⟨(Lib.cut s.data.toList [c]).1.toArray⟩ : ByteArray) = _ from e1, show (⟨(Lib.cut s.data.toList [c]).2.1.toArray⟩ : ByteArray) = _ from e2, show (Lib.cut s.data.toList [c]).2.2 = _ from e3]
    clear e1 e2 e3 hix
    go_enter Tryz.func95, Tryz.ntmps95
    go_wp2_with fail
    go_at_call 107
    refine (HI.out _).mono ?_
    rintro e w1 ⟨rfl, hw⟩
    obtain rfl := hw.symm
    go_wp2_with fail
    go_region
    all_goals go_wp2_with fail
    all_goals go_ret3
    all_goals exact ⟨rfl, 1, rfl⟩

theorem cut_any (l : List UInt8) (hs : l.length ≤ 9223372036854775807) (c : UInt8) (w : World) :
    Calls Tryz.prog 70 #[.string (bs l), .string ⟨#[c]⟩] w fun e w' => e = .returned (.tuple #[.string (bs (Lib.cut l [c]).1), .string (bs (Lib.cut l [c]).2.1), .bool (Lib.cut l [c]).2.2]) ∧ ∃ n, w' = w.drewN n := by
  have HI := hideR (slcut_any (bs l) (by rw [bs_size]; exact hs) c)
  rw [bs_list] at HI
  change Hid (∀ w, Calls Tryz.prog 95 #[.string (bs l), .string ⟨#[c]⟩] w fun e w' => e = .returned (.tuple #[.string (bs (Lib.cut l [c]).1), .string (bs (Lib.cut l [c]).2.1), .bool (Lib.cut l [c]).2.2]) ∧ ∃ n, w' = w.drewN n) at HI
  generalize Lib.cut l [c] = r at *
  go_enter Tryz.func70, Tryz.ntmps70
  go_wp2_with fail
  go_at_call 95
  refine (HI.out _).mono ?_
  rintro e w1 ⟨rfl, n, rfl⟩
  go_wp2_with fail
  go_ret3
  exact ⟨rfl, n, rfl⟩

/-! digits -/
def isDig (c : UInt8) : Bool := decide (48 ≤ c.toNat ∧ c.toNat ≤ 57)
def digL : List UInt8 := [48, 49, 50, 51, 52, 53, 54, 55, 56, 57]
theorem dig_contains (c : UInt8) : digL.contains c = isDig c := by
  have h : ∀ n : Fin 256, digL.contains (UInt8.ofNat n.1) = isDig (UInt8.ofNat n.1) := by decide +kernel
  have := h ⟨c.toNat, c.toNat_lt⟩
  simpa using this
theorem dropWhile_nil {p : UInt8 → Bool} : ∀ (l : List UInt8), l.dropWhile p = [] ↔ l.all p = true
  | [] => by simp
  | a :: l => by
    cases h : p a <;> simp [List.dropWhile, h, dropWhile_nil l]
theorem trim_nil (l cs : List UInt8) : (Lib.trimS l cs == []) = l.all (cs.contains ·) := by
  rw [Bool.eq_iff_iff, beq_iff_eq]
  unfold Lib.trimS Lib.trimLeftS
  rw [dropWhile_nil]
  constructor
  · intro h
    -- what is left behind the trailing ones is all in the set, and so is the rest
    unfold Lib.trimRightS at h
    have h2 : ((l.reverse.dropWhile (cs.contains ·)).all (cs.contains ·)) = true := by rw [List.all_reverse] at h; exact h
    have h3 : l.reverse.dropWhile (cs.contains ·) = [] := by
      cases hd : l.reverse.dropWhile (cs.contains ·) with
      | nil => rfl
      | cons a t =>
        have := List.head_dropWhile_not (p := (cs.contains ·)) (l := l.reverse) (by rw [hd]; simp)
        rw [hd] at h2
        simp only [hd, List.head_cons] at this
        rw [List.all_cons, this] at h2
        cases h2
    rw [dropWhile_nil, List.all_reverse] at h3
    exact h3
  · intro h
    unfold Lib.trimRightS
    rw [← List.all_reverse, ← dropWhile_nil] at h
    rw [h]
    rfl

/-- digits, one at least -/
def digB (l : List UInt8) : Bool := (l != []) && l.all isDig
/-! numbers -/
def numB (l : List UInt8) : Bool := digB l && (l == [48] || l.head? != some 48)

/-- what digits say -/
def valN (l : List UInt8) : Nat := l.foldl (fun n c => n * 10 + (c.toNat - 48)) 0
theorem valN_step (l : List UInt8) (k : Nat) (hk : k < l.length) : valN (l.take (k + 1)) = valN (l.take k) * 10 + (l[k].toNat - 48) := by
  unfold valN
  rw [List.take_succ_eq_append_getElem hk, List.foldl_append]
  rfl
theorem dig_at (l : List UInt8) (h : l.all isDig = true) (k : Nat) (hk : k < l.length) : 48 ≤ l[k].toNat ∧ l[k].toNat ≤ 57 := by
  have := List.all_eq_true.1 h l[k] (List.getElem_mem hk)
  exact of_decide_eq_true this
theorem valN_lt (l : List UInt8) (h : l.all isDig = true) : ∀ k, k ≤ l.length → valN (l.take k) < 10 ^ k
  | 0, _ => by simp [valN]
  | k + 1, hk => by
    rw [valN_step l k hk, Nat.pow_succ]
    have := valN_lt l h k (by omega)
    have := dig_at l h k hk
    omega
theorem pow10_le (k m : Nat) (h : k ≤ m) : 10 ^ k ≤ 10 ^ m := Nat.pow_le_pow_right (by omega) h
theorem bs_get (l : List UInt8) (k : Nat) (hk : k < (bs l).size) : (bs l)[k] = l[k]'(by rw [bs_size] at hk; exact hk) := by
  exact List.getElem_toArray (xs := l) (i := k) hk

end Go.Proofs.YtaipdckakgohjaaGreatDoor
