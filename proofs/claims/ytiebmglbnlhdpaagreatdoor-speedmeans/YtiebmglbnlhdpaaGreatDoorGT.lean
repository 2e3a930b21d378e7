/- Several texts, one behind the other. -/
import Derived.WalkKit
import Derived.Laws.FloatArith
import Derived.Laws.BitsLemmas
import Derived.Deep.QuietTactic
import Derived.Lib.SmallJoins
import Derived.Deep.Slices
import Derived.ChangeOld
import Derived.ShutString
import Derived.DataShut
import Derived.Test.YtiebmglbnlhdpaaGreatDoorCellM
import Derived.Test.YtiebmglbnlhdpaaGreatDoorGC
import Derived.Test.YtiebmglbnlhdpaaGreatDoorGD
import Derived.Test.YtiebmglbnlhdpaaGreatDoorGS
import Derived.Test.YtiebmglbnlhdpaaGreatDoorRatW1
import Derived.Test.YtiebmglbnlhdpaaGreatDoorSp1
/- Floats of chapter 11: sums, differences and quotients of numbers that are not too great are numbers; no NaN comes of them. -/
namespace Go.Proofs.YtiebmglbnlhdpaaGreatDoor

/-- A word of a double that is a number of at most so many binary places. -/
def Fb (K : Int) (x : Nat) : Prop := ∃ (s : Bool) (m : Nat) (p : Int), Ieee.double.read x = .number s m p ∧ (m = 0 ∨ p + (m.log2 : Int) ≤ K)
/-- A word of a double that is no NaN. -/
def Fn (x : Nat) : Prop := (∃ (s : Bool) (m : Nat) (p : Int), Ieee.double.read x = .number s m p) ∨ ∃ s : Bool, Ieee.double.read x = .infinity s
theorem Fb.fn {K : Int} {x : Nat} (h : Fb K x) : Fn x := by
  obtain ⟨s, m, p, h, _⟩ := h
  exact .inl ⟨s, m, p, h⟩
theorem Fb.mono {K L : Int} {x : Nat} (h : Fb K x) (hl : K ≤ L) : Fb L x := by
  obtain ⟨s, m, p, h, h2⟩ := h
  exact ⟨s, m, p, h, h2.imp id (fun e => by omega)⟩
theorem dbl_sw : Ieee.double.signWeight = 9223372036854775808 := by decide
theorem dbl_bin : Ieee.double.binade = 4503599627370496 := by decide
theorem dbl_inf : Ieee.double.infRung = 9218868437227405312 := by decide
theorem dbl_lp : Ieee.double.leastPlace = -1074 := by decide
theorem dbl_fb : Ieee.double.fractionBits = 52 := by decide
/-- What a word of a sign and a rung stands for. -/
theorem read_word (s : Bool) (r : Nat) (h : r ≤ 9218868437227405312) : Ieee.double.read (Ieee.double.word s r) = if r < 4503599627370496 then .number s r (-1074) else if r < 9218868437227405312 then .number s (4503599627370496 + r % 4503599627370496) (-1074 + ((r / 4503599627370496 - 1 : Nat) : Int)) else .infinity s := by
  have h1 : Ieee.double.word s r / 9223372036854775808 % 2 = if s = true then 1 else 0 := by
    unfold Ieee.Format.word
    rw [dbl_sw]
    cases s <;> simp <;> omega
  have h2 : Ieee.double.word s r % 9223372036854775808 = r := by
    unfold Ieee.Format.word
    rw [dbl_sw]
    cases s <;> simp <;> omega
  unfold Ieee.Format.read
  rw [dbl_sw, dbl_bin, dbl_inf, dbl_lp, h1, h2]
  cases s
  · simp
    repeat' split
    all_goals first | rfl | omega
  · simp
    repeat' split
    all_goals first | rfl | omega
theorem cut_le (s : Bool) (n d : Nat) : Ieee.Toward.even.cut s n d ≤ n / (1 <<< min d (n.log2 + 2)) + 1 := by
  unfold Ieee.Toward.cut
  simp only
  generalize ((decide ((1 <<< min d (n.log2 + 2)) < 2 * (n % 1 <<< min d (n.log2 + 2))) || (1 <<< min d (n.log2 + 2) == 2 * (n % 1 <<< min d (n.log2 + 2)) && n / 1 <<< min d (n.log2 + 2) % 2 == 1)) : Bool) = b
  cases b <;> simp
theorem near_fn (s : Bool) (m : Nat) (p : Int) : Fn (Ieee.double.nearest s m p) := by
  unfold Ieee.Format.nearest
  split
  · left
    exact ⟨s, 0, -1074, by rw [read_word s 0 (by omega), if_pos (by omega)]⟩
  · simp only
    rw [dbl_inf]
    generalize hr : min _ 9218868437227405312 = r
    have hb : r ≤ 9218868437227405312 := by rw [← hr]; exact Nat.min_le_right _ _
    rw [Fn, read_word s r hb]
    repeat' split
    · exact .inl ⟨_, _, _, rfl⟩
    · exact .inl ⟨_, _, _, rfl⟩
    · exact .inr ⟨_, rfl⟩
theorem kept_le (s : Bool) (m : Nat) (p last : Int) (hl : p + (m.log2 : Int) - 52 ≤ last) : Ieee.Toward.even.cut s (m <<< (p - last).toNat) (last - p).toNat ≤ 9007199254740992 := by
  refine Nat.le_trans (cut_le _ _ _) ?_
  have hlt : m < 2 ^ (m.log2 + 1) := Nat.lt_log2_self
  generalize hL : m.log2 = L at *
  by_cases hc : last ≤ p
  · obtain ⟨u, hu⟩ : ∃ u : Nat, p - last = u := ⟨(p - last).toNat, by omega⟩
    have h0 : (last - p).toNat = 0 := by omega
    rw [h0, hu, Int.toNat_natCast, Nat.zero_min, Nat.shiftLeft_zero, Nat.div_one, Nat.shiftLeft_eq]
    have : m * 2 ^ u < 2 ^ (L + 1) * 2 ^ u := Nat.mul_lt_mul_of_pos_right hlt (Nat.two_pow_pos _)
    rw [← Nat.pow_add] at this
    have h2 : 2 ^ (L + 1 + u) ≤ 2 ^ 53 := Nat.pow_le_pow_right (by omega) (by omega)
    have h3 : 2 ^ 53 = 9007199254740992 := by decide
    omega
  · obtain ⟨u, hu⟩ : ∃ u : Nat, last - p = u := ⟨(last - p).toNat, by omega⟩
    have h0 : (p - last).toNat = 0 := by omega
    rw [h0, hu, Int.toNat_natCast, Nat.shiftLeft_zero, hL, Nat.shiftLeft_eq, Nat.one_mul]
    have h3 : 2 ^ 53 = 9007199254740992 := by decide
    have hd : m / 2 ^ min u (L + 2) < 2 ^ 53 := by
      rw [Nat.div_lt_iff_lt_mul (Nat.two_pow_pos _), ← Nat.pow_add]
      exact Nat.lt_of_lt_of_le hlt (Nat.pow_le_pow_right (by omega) (by omega))
    omega
set_option maxRecDepth 100000 in
theorem near_fb (K : Nat) (hK : K ≤ 1000) (s : Bool) (m : Nat) (p : Int) (h : m = 0 ∨ p + (m.log2 : Int) ≤ K) : Fb ((K : Int) + 1) (Ieee.double.nearest s m p) := by
  unfold Ieee.Format.nearest
  split
  · exact ⟨s, 0, -1074, by rw [read_word s 0 (by omega), if_pos (by omega)], .inl rfl⟩
  · rename_i hm
    simp only
    rw [dbl_inf, dbl_lp, dbl_fb, dbl_bin]
    have hk := kept_le s m p (max (p + (m.log2 : Int) - 52) (-1074)) (by omega)
    have hp : p + (m.log2 : Int) ≤ K := by omega
    generalize hlast : max (p + (m.log2 : Int) - (52 : Nat)) (-1074) = last at *
    generalize Ieee.Toward.even.cut s (m <<< (p - last).toNat) (last - p).toNat = kept at *
    obtain ⟨q, hq⟩ : ∃ q, (last - -1074).toNat = q := ⟨_, rfl⟩
    have hqb : q ≤ K + 1022 := by omega
    rw [hq]
    have hr : q * 4503599627370496 + kept ≤ (K + 1024) * 4503599627370496 := by omega
    have hlt : q * 4503599627370496 + kept < 9218868437227405312 := by omega
    rw [Nat.min_eq_left (by omega)]
    generalize q * 4503599627370496 + kept = r at *
    rw [Fb, read_word s r (by omega)]
    by_cases h1 : r < 4503599627370496
    · rw [if_pos h1]
      refine ⟨_, _, _, rfl, ?_⟩
      by_cases h0 : r = 0
      · exact .inl h0
      · right
        have : r.log2 < 52 := (Nat.log2_lt h0).2 (by omega)
        omega
    · rw [if_neg h1, if_pos hlt]
      refine ⟨_, _, _, rfl, .inr ?_⟩
      have h2 : (4503599627370496 + r % 4503599627370496).log2 < 53 := (Nat.log2_lt (by omega)).2 (by omega)
      have h3 : r / 4503599627370496 ≤ K + 1024 := by omega
      omega
/-- A whole number as a double. -/
theorem near_int (n : Int) (hn : n.natAbs < 18446744073709551616) : Fb 65 (FloatKind.f64.nearest n) := by
  refine near_fb 64 (by omega) (decide (n < 0)) n.natAbs 0 ?_
  by_cases h : n.natAbs = 0
  · exact .inl h
  · right
    have : n.natAbs.log2 < 64 := (Nat.log2_lt h).2 (by omega)
    omega
/-- A small whole number above nought as a double: at least one. -/
theorem near_one (d : Nat) (h0 : 0 < d) (hd : d ≤ 1048576) : ∃ (s : Bool) (m : Nat) (p : Int), Ieee.double.read (FloatKind.f64.nearest d) = .number s m p ∧ m ≠ 0 ∧ 0 ≤ p + (m.log2 : Int) := by
  show ∃ (s : Bool) (m : Nat) (p : Int), Ieee.double.read (Ieee.double.nearest (decide ((d : Int) < 0)) (d : Int).natAbs 0) = .number s m p ∧ m ≠ 0 ∧ 0 ≤ p + (m.log2 : Int)
  rw [Int.natAbs_natCast]
  generalize decide ((d : Int) < 0) = s
  unfold Ieee.Format.nearest
  rw [if_neg (by omega)]
  simp only
  rw [dbl_inf, dbl_lp, dbl_fb, dbl_bin]
  have hL : d.log2 < 21 := (Nat.log2_lt (by omega)).2 (by omega)
  have hlo : 2 ^ d.log2 ≤ d := Nat.log2_self_le (by omega)
  have hhi : d < 2 ^ (d.log2 + 1) := Nat.lt_log2_self
  generalize d.log2 = L at *
  have e1 : max ((0 : Int) + (L : Int) - (52 : Nat)) (-1074) = (L : Int) - 52 := by omega
  rw [e1]
  have e2 : ((0 : Int) - ((L : Int) - 52)).toNat = 52 - L := by omega
  have e3 : ((L : Int) - 52 - 0).toNat = 0 := by omega
  rw [e2, e3]
  have e4 : Ieee.Toward.even.cut s (d <<< (52 - L)) 0 = d <<< (52 - L) := by
    unfold Ieee.Toward.cut
    simp [Nat.mod_one]
  rw [e4, Nat.shiftLeft_eq]
  have k1 : 4503599627370496 ≤ d * 2 ^ (52 - L) := by
    have : 2 ^ L * 2 ^ (52 - L) ≤ d * 2 ^ (52 - L) := Nat.mul_le_mul_right _ hlo
    rw [← Nat.pow_add, show L + (52 - L) = 52 by omega] at this
    exact this
  have k2 : d * 2 ^ (52 - L) < 9007199254740992 := by
    have : d * 2 ^ (52 - L) < 2 ^ (L + 1) * 2 ^ (52 - L) := Nat.mul_lt_mul_of_pos_right hhi (Nat.two_pow_pos _)
    rw [← Nat.pow_add, show L + 1 + (52 - L) = 53 by omega] at this
    exact this
  generalize d * 2 ^ (52 - L) = kept at *
  have e5 : ((L : Int) - 52 - -1074).toNat = L + 1022 := by omega
  rw [e5, Nat.min_eq_left (by omega), read_word s _ (by omega), if_neg (by omega), if_pos (by omega)]
  refine ⟨_, _, _, rfl, by omega, ?_⟩
  have h2 : 52 ≤ (4503599627370496 + ((L + 1022) * 4503599627370496 + kept) % 4503599627370496).log2 := (Nat.le_log2 (by omega)).2 (by omega)
  omega
theorem log2_le {n k : Nat} (h0 : n ≠ 0) (h : n < 2 ^ (k + 1)) : n.log2 ≤ k := by
  have := (Nat.log2_lt h0).2 h
  omega
theorem sub_div {K : Int} {x y : Nat} (hK : K ≤ 900) (h0 : 0 ≤ K) (hx : Fb K x) (hy : ∃ (s : Bool) (m : Nat) (p : Int), Ieee.double.read y = .number s m p ∧ m ≠ 0 ∧ 0 ≤ p + (m.log2 : Int)) : ∃ z, Ieee.double.div x y = some z ∧ Fb (K + 3) z := by
  obtain ⟨s, m, i, hx, hm⟩ := hx
  obtain ⟨t, n, j, hy, hn, hj⟩ := hy
  unfold Ieee.Format.div
  rw [hx, hy]
  have e : ∀ g, Ieee.Datum.quotient g (.number s m i) (.number t n j) = some (.number (s ^^ t) (2 * (m <<< (g + n.log2 - m.log2) / n) + (m <<< (g + n.log2 - m.log2) % n != 0).toNat) (i - j - (g + n.log2 - m.log2 : Nat) - 1)) := fun g => by
    unfold Ieee.Datum.quotient
    simp only
    rw [if_neg hn]
  rw [e, Option.map_some]
  refine ⟨_, rfl, ?_⟩
  obtain ⟨k, rfl⟩ : ∃ k : Nat, K = k := ⟨K.toNat, by omega⟩
  have q := near_fb (k + 2) (by omega) (s ^^ t) (2 * (m <<< (Ieee.double.fractionBits + 2 + n.log2 - m.log2) / n) + (m <<< (Ieee.double.fractionBits + 2 + n.log2 - m.log2) % n != 0).toNat) (i - j - (Ieee.double.fractionBits + 2 + n.log2 - m.log2 : Nat) - 1) ?_
  · refine Fb.mono q (by omega)
  · by_cases hm0 : m = 0
    · subst hm0
      left
      simp
    · right
      have hmk : i + (m.log2 : Int) ≤ k := by omega
      rw [dbl_fb]
      have hhi : m < 2 ^ (m.log2 + 1) := Nat.lt_log2_self
      have hlo : 2 ^ n.log2 ≤ n := Nat.log2_self_le hn
      generalize m.log2 = M at *
      generalize n.log2 = N at *
      generalize hmo : 52 + 2 + N - M = more
      have hd : m <<< more / n < 2 ^ (M + 1 + more - N) := by
        rw [Nat.shiftLeft_eq, Nat.div_lt_iff_lt_mul (by omega)]
        have h1 : m * 2 ^ more < 2 ^ (M + 1) * 2 ^ more := Nat.mul_lt_mul_of_pos_right hhi (Nat.two_pow_pos _)
        have h2 : 2 ^ (M + 1 + more - N) * 2 ^ N ≤ 2 ^ (M + 1 + more - N) * n := Nat.mul_le_mul_left _ hlo
        rw [← Nat.pow_add] at h1 h2
        rw [show M + 1 + more - N + N = M + 1 + more by omega] at h2
        omega
      generalize m <<< more / n = q at *
      have hb : (m <<< more % n != 0).toNat ≤ 1 := Bool.toNat_le _
      generalize (m <<< more % n != 0).toNat = b at *
      by_cases hz : 2 * q + b = 0
      · rw [hz]
        simp
        omega
      · have hlt : 2 * q + b < 2 ^ (M + 1 + more - N + 1) := by
          rw [Nat.pow_succ]
          omega
        have := log2_le hz hlt
        omega
theorem op_fb {K : Int} {x : Nat} {s : Bool} {m : Nat} {p : Int} (h : Ieee.double.read x = .number s m p ∧ (m = 0 ∨ p + (m.log2 : Int) ≤ K)) : (Ieee.double.read x).opposite = .number (!s) m p := by
  rw [h.1]
  rfl
theorem sgn_abs (s : Bool) (m u : Nat) : (Ieee.signed s m u).natAbs = m * 2 ^ u := by
  unfold Ieee.signed
  rw [Nat.shiftLeft_eq]
  cases s
  · show (((m * 2 ^ u : Nat) : Int)).natAbs = _
    exact Int.natAbs_natCast _
  · show (-((m * 2 ^ u : Nat) : Int)).natAbs = _
    rw [Int.natAbs_neg]
    exact Int.natAbs_natCast _
theorem part_lt {m : Nat} {i base K : Int} (hb : base ≤ i) (h : m = 0 ∨ i + (m.log2 : Int) ≤ K) (hK : base ≤ K) : m * 2 ^ (i - base).toNat < 2 ^ ((K - base).toNat + 1) := by
  rcases h with rfl | h
  · rw [Nat.zero_mul]
    exact Nat.two_pow_pos _
  · have hhi : m < 2 ^ (m.log2 + 1) := Nat.lt_log2_self
    have h1 : m * 2 ^ (i - base).toNat < 2 ^ (m.log2 + 1) * 2 ^ (i - base).toNat := Nat.mul_lt_mul_of_pos_right hhi (Nat.two_pow_pos _)
    rw [← Nat.pow_add] at h1
    exact Nat.lt_of_lt_of_le h1 (Nat.pow_le_pow_right (by omega) (by omega))
theorem sum_fb {K : Nat} (hK : K ≤ 990) {s t : Bool} {m n : Nat} {i j : Int} (hm : m = 0 ∨ i + (m.log2 : Int) ≤ K) (hn : n = 0 ∨ j + (n.log2 : Int) ≤ K) (hi : min i j ≤ K) : ∃ d, Ieee.Datum.sum (.number s m i) (.number t n j) = some d ∧ Fb ((K : Int) + 2) (Ieee.double.write d) := by
  refine ⟨_, rfl, ?_⟩
  refine Fb.mono (near_fb (K + 1) (by omega) _ _ _ ?_) (by omega)
  have h1 := part_lt (base := min i j) (K := K) (by omega) hm (by omega)
  have h2 := part_lt (base := min i j) (K := K) (by omega) hn (by omega)
  have h3 := sgn_abs s m (i - min i j).toNat
  have h4 := sgn_abs t n (j - min i j).toNat
  by_cases hz : (Ieee.signed s m (i - min i j).toNat + Ieee.signed t n (j - min i j).toNat).natAbs = 0
  · exact .inl hz
  · right
    have hlt : (Ieee.signed s m (i - min i j).toNat + Ieee.signed t n (j - min i j).toNat).natAbs < 2 ^ (((K : Int) - min i j).toNat + 1 + 1) := by
      rw [Nat.pow_succ]
      omega
    have := log2_le hz hlt
    omega
theorem read_place {x : Nat} {s : Bool} {m : Nat} {p : Int} (h : Ieee.double.read x = .number s m p) : m < 9007199254740992 ∧ (p ≤ 0 ∨ m ≠ 0) := by
  unfold Ieee.Format.read at h
  rw [dbl_bin, dbl_inf, dbl_lp] at h
  simp only at h
  split at h
  · cases h
    exact ⟨by omega, .inl (by omega)⟩
  · split at h
    · cases h
      exact ⟨by omega, .inr (by omega)⟩
    · split at h <;> cases h
theorem le_of_read {K : Nat} {x : Nat} {s : Bool} {m : Nat} {p : Int} (h : Ieee.double.read x = .number s m p) (hm : m = 0 ∨ p + (m.log2 : Int) ≤ K) : p ≤ K := by
  rcases (read_place h).2 with h1 | h1
  · omega
  · rcases hm with h2 | h2
    · exact absurd h2 h1
    · omega
theorem add_fb {K : Nat} {x y : Nat} (hK : K ≤ 990) (hx : Fb K x) (hy : Fb K y) : ∃ z, Ieee.double.add x y = some z ∧ Fb ((K : Int) + 2) z := by
  obtain ⟨s, m, i, hx, hm⟩ := hx
  obtain ⟨t, n, j, hy, hn⟩ := hy
  have hi := le_of_read hx hm
  unfold Ieee.Format.add
  rw [hx, hy]
  obtain ⟨d, hd, hf⟩ := sum_fb hK (s := s) (t := t) hm hn (by omega)
  exact ⟨_, by rw [hd]; rfl, hf⟩
theorem sub_fb {K : Nat} {x y : Nat} (hK : K ≤ 990) (hx : Fb K x) (hy : Fb K y) : ∃ z, Ieee.double.sub x y = some z ∧ Fb ((K : Int) + 2) z := by
  obtain ⟨s, m, i, hx, hm⟩ := hx
  obtain ⟨t, n, j, hy, hn⟩ := hy
  have hi := le_of_read hx hm
  unfold Ieee.Format.sub
  rw [hx, hy]
  obtain ⟨d, hd, hf⟩ := sum_fb hK (s := s) (t := !t) hm hn (by omega)
  exact ⟨_, by unfold Ieee.Datum.opposite; rw [hd]; rfl, hf⟩
/-- A quotient by a number above nought is no NaN. -/
theorem div_fn {K : Int} {x y : Nat} (hx : Fb K x) (hy : Fb K y) (h : Ieee.double.order y 0 = some .gt) : ∃ z, Ieee.double.div x y = some z ∧ Fn z := by
  obtain ⟨s, m, i, hx, _⟩ := hx
  obtain ⟨t, n, j, hy, _⟩ := hy
  have hn : n ≠ 0 := by
    rintro rfl
    unfold Ieee.Format.order at h
    have h0 : Ieee.double.read 0 = .number false 0 (-1074) := by decide
    rw [hy, h0] at h
    unfold Ieee.Datum.order Ieee.signed at h
    cases t <;> simp at h
  unfold Ieee.Format.div
  rw [hx, hy]
  unfold Ieee.Datum.quotient
  simp only
  rw [if_neg hn]
  exact ⟨_, rfl, near_fn _ _ _⟩
/-- Nought added to what is no NaN. -/
theorem add_zero_fn {x : Nat} (hx : Fn x) : ∃ z, Ieee.double.add x 0 = some z := by
  have h0 : Ieee.double.read 0 = .number false 0 (-1074) := by decide
  unfold Ieee.Format.add
  rw [h0]
  rcases hx with ⟨s, m, p, h⟩ | ⟨s, h⟩
  · rw [h]
    exact ⟨_, rfl⟩
  · rw [h]
    exact ⟨_, rfl⟩
end Go.Proofs.YtiebmglbnlhdpaaGreatDoor

/- The mean of a document as doubles: no NaN comes of right cues. -/
namespace Go.Proofs.YtiebmglbnlhdpaaGreatDoor
open Go.RowKit Go.Shelf

theorem badC_none (f : Cu → Int) : ∀ (L : List Cu) (i : Nat), badC f i L = none → ∀ x ∈ L, f x = 0
  | [], _, _, x, hx => by simp at hx
  | y :: L, i, h, x, hx => by
    unfold badC at h
    split at h
    · rename_i h0
      rcases List.mem_cons.1 hx with rfl | hx
      · exact h0
      · exact badC_none f L (i + 1) h x hx
    · cases h
theorem docC_none {f : Cu → Int} {L : List Cu} (h : docC f L = none) : L.length ≤ 4096 ∧ ∀ x ∈ L, f x = 0 := by
  unfold docC at h
  split at h
  · cases h
  · split at h
    · cases h
    · rename_i h1 h2
      exact ⟨by omega, badC_none f L 0 h2⟩
theorem badC_atM (f : Cu → Int) : ∀ (L : List Cu) (i : Nat) (p : Nat × Int), badC f i L = some p → i ≤ p.1 ∧ p.1 < i + L.length ∧ ∃ x ∈ L, p.2 = f x ∧ ¬ f x = 0
  | [], _, _, h => by cases h
  | x :: L, i, p, h => by
    unfold badC at h
    split at h
    · obtain ⟨h1, h2, y, hy, h3⟩ := badC_atM f L (i + 1) p h
      exact ⟨by omega, by simp; omega, y, List.mem_cons_of_mem _ hy, h3⟩
    · cases h
      rename_i h0
      exact ⟨Nat.le_refl _, by simp, x, List.mem_cons_self, rfl, h0⟩
theorem disC_atM : ∀ (L : List Cu) (i : Nat) (p : Nat × Int), disC i L = some p → p.1 < i + L.length ∧ p.2 = 33
  | [], _, _, h => by cases h
  | [_], _, _, h => by cases h
  | x :: y :: L, i, p, h => by
    unfold disC at h
    split at h
    · cases h
      exact ⟨by simp, rfl⟩
    · obtain ⟨h1, h2⟩ := disC_atM (y :: L) (i + 1) p h
      exact ⟨by simp at h1 ⊢; omega, h2⟩
/-- A cue whose times are times. -/
def TmC (x : Cu) : Prop := timeA ⟨x.a, x.b⟩ = 0 ∧ timeA ⟨x.c, x.d⟩ = 0
theorem chkF_tm {sp : Cu → List Sp} {x : Cu} (h : chkF sp x = 0) : TmC x := by
  unfold chkF chkC at h
  unfold TmC
  by_cases h1 : timeA ⟨x.a, x.b⟩ = 0
  · rw [if_pos h1] at h
    refine ⟨h1, ?_⟩
    by_cases h2 : timeA ⟨x.c, x.d⟩ = 0
    · exact h2
    · rw [if_pos h2] at h
      exact absurd h h2
  · rw [if_neg h1] at h
    rw [if_pos h1] at h
    exact absurd h h1
theorem time_ok {a b : Int} (h : timeA ⟨a, b⟩ = 0) : 1 ≤ b ∧ b ≤ 1048576 ∧ a.natAbs < 18446744073709551616 := by
  unfold timeA at h
  split at h
  · rename_i h1
    obtain ⟨h1, h2⟩ := h1
    unfold rightB at h1
    have h3 := of_decide_eq_true h1
    simp only at h2 h3
    omega
  · omega
/-- A time as a double. -/
def secF (a b : Int) : Nat := (Ieee.double.div (FloatKind.f64.nearest a) (FloatKind.f64.nearest b)).getD 0
theorem secF_ok {a b : Int} (h : timeA ⟨a, b⟩ = 0) : Ieee.double.div (FloatKind.f64.nearest a) (FloatKind.f64.nearest b) = some (secF a b) ∧ Fb 68 (secF a b) := by
  obtain ⟨h1, h2, h3⟩ := time_ok h
  obtain ⟨d, rfl⟩ : ∃ d : Nat, b = d := ⟨b.toNat, by omega⟩
  obtain ⟨z, hz, hf⟩ := sub_div (by omega) (by omega) (near_int a h3) (near_one d (by omega) (by omega))
  unfold secF
  rw [hz]
  exact ⟨rfl, hf⟩
/-- How long a cue is seen, as a double. -/
def difF (x : Cu) : Nat := (Ieee.double.sub (secF x.c x.d) (secF x.a x.b)).getD 0
theorem difF_ok {x : Cu} (h : TmC x) : Ieee.double.sub (secF x.c x.d) (secF x.a x.b) = some (difF x) ∧ Fb 70 (difF x) := by
  obtain ⟨z, hz, hf⟩ := sub_fb (K := 68) (by omega) (secF_ok h.2).2 (secF_ok h.1).2
  unfold difF
  rw [hz]
  exact ⟨rfl, hf⟩
/-- A cue more: its signs, how long it is seen. -/
def stepF (p : Int × Nat) (x : Cu) : Int × Nat := (IntKind.i64.wrap (p.1 + (readN (signs x.s) : Int)), (Ieee.double.add p.2 (difF x)).getD 0)
def mnS (L : List Cu) : Int × Nat := L.foldl stepF (0, 0)
theorem mnS_succ {L : List Cu} {j : Nat} {x : Cu} (h : L[j]? = some x) : mnS (L.take (j + 1)) = stepF (mnS (L.take j)) x := by
  unfold mnS
  rw [List.take_add_one, h]
  simp
theorem mnS_fb {L : List Cu} (hL : ∀ x ∈ L, TmC x) (hn : L.length ≤ 300) : ∀ j, j ≤ L.length → Fb ((70 + 2 * j : Nat) : Int) (mnS (L.take j)).2
  | 0, _ => ⟨false, 0, -1074, show Ieee.double.read 0 = _ by decide, .inl rfl⟩
  | j + 1, hj => by
    obtain ⟨x, hx⟩ : ∃ x, L[j]? = some x := ⟨_, List.getElem?_eq_getElem (by omega)⟩
    rw [mnS_succ hx]
    obtain ⟨z, hz, hf⟩ := add_fb (K := 70 + 2 * j) (by omega) (mnS_fb hL hn j (by omega)) ((difF_ok (hL x (List.mem_of_getElem? hx))).2.mono (by omega))
    unfold stepF
    simp only
    rw [hz]
    exact hf.mono (by omega)
theorem mnS_add {L : List Cu} (hL : ∀ x ∈ L, TmC x) (hn : L.length ≤ 300) {j : Nat} {x : Cu} (hx : L[j]? = some x) : Ieee.double.add (mnS (L.take j)).2 (difF x) = some (mnS (L.take (j + 1))).2 := by
  have hj : j < L.length := (List.getElem?_eq_some_iff.1 hx).1
  rw [mnS_succ hx]
  obtain ⟨z, hz, _⟩ := add_fb (K := 70 + 2 * j) (by omega) (mnS_fb hL hn j (by omega)) ((difF_ok (hL x (List.mem_of_getElem? hx))).2.mono (by omega))
  unfold stepF
  simp only
  rw [hz]
  rfl
theorem wrap_in (z : Int) : (IntKind.i64.wrap z).natAbs < 18446744073709551616 := by
  rw [IntKind.wrap_i64]
  omega
theorem mnS_in (L : List Cu) : (mnS L).1.natAbs < 18446744073709551616 := by
  unfold mnS
  rcases List.eq_nil_or_concat L with rfl | ⟨M, x, rfl⟩
  · decide
  · rw [List.concat_eq_append, List.foldl_append]
    exact wrap_in _
/-- The mean. -/
def mnF (L : List Cu) : Nat := if (Ieee.double.order (mnS L).2 0 == some .gt) = true then (Ieee.double.div (FloatKind.f64.nearest (mnS L).1) (mnS L).2).getD 0 else 0
theorem mnF_ok {L : List Cu} (hL : ∀ x ∈ L, TmC x) (hn : L.length ≤ 300) (h : (Ieee.double.order (mnS L).2 0 == some .gt) = true) : Ieee.double.div (FloatKind.f64.nearest (mnS L).1) (mnS L).2 = some (mnF L) ∧ Fn (mnF L) := by
  have h1 := mnS_fb hL hn L.length (Nat.le_refl _)
  rw [List.take_length] at h1
  obtain ⟨z, hz, hf⟩ := div_fn (K := 1000) ((near_int _ (mnS_in L)).mono (by omega)) (h1.mono (by omega)) (by simpa using h)
  unfold mnF
  rw [if_pos h, hz]
  exact ⟨rfl, hf⟩
theorem mnF_fn {L : List Cu} (hL : ∀ x ∈ L, TmC x) (hn : L.length ≤ 300) : Fn (mnF L) := by
  by_cases h : (Ieee.double.order (mnS L).2 0 == some .gt) = true
  · exact (mnF_ok hL hn h).2
  · unfold mnF
    rw [if_neg h]
    exact .inl ⟨false, 0, -1074, by decide⟩
end Go.Proofs.YtiebmglbnlhdpaaGreatDoor

/- speed.seconds: a time as a double. -/
namespace Go.Proofs.YtiebmglbnlhdpaaGreatDoor
open Go.RowKit Go.Shelf

set_option maxRecDepth 100000 in
theorem seconds_any (a b : Int) (z : Nat) (hz : Ieee.double.div (FloatKind.f64.nearest a) (FloatKind.f64.nearest b) = some z) (w : World) :
    Calls Tryz.prog 14 #[.agg #[.int .i64 a, .int .i64 b]] w fun e w' => e = .returned (.float .f64 z) ∧ Below w.heap.size w w' := by
  have hop : ∀ t w, (binOp .quo t (.float .f64 (floatOfInt .f64 a)) (.float .f64 (floatOfInt .f64 b))).run Tryz.prog w = .ok (.float .f64 z) w := fun t w => run_float_arith w .quo t .f64 _ _ z hz
  go_enter Tryz.func14, Tryz.ntmps14
  go_wp2_with (simp only [hop])
  go_ret
  exact ⟨rfl, bel1 _ _⟩
end Go.Proofs.YtiebmglbnlhdpaaGreatDoor

/- law9's Few at every document: it answers, and where it says yes there are no more than 300 cues. -/
namespace Go.Proofs.YtiebmglbnlhdpaaGreatDoor
open Go.RowKit Go.Shelf

theorem below_dnF {B : Nat} {a w : World} (h : Below B a w) (n : Nat) : Below B a (w.drewN n) := h.trans ⟨rfl, rfl, rfl, Nat.le_refl _, fun _ _ => rfl⟩
/-- What Few answers. -/
def FewA (n : Nat) (e : Ending) : Prop := ∃ b, e = .returned (.bool b) ∧ (b = true → n ≤ 300)
set_option maxRecDepth 100000 in
set_option maxHeartbeats 2000000 in
theorem few_any (L : List Cu) (oa : Option Addr) (cap : Nat) (hc : L.length ≤ cap ∧ cap ≤ maxLen) (w : World) (hR : CuO w oa L) :
    Calls Tryz.prog 5 #[.agg #[.slice oa L.length cap]] w fun e w' => FewA L.length e ∧ Below w.heap.size w w' := by
  obtain ⟨N, hN⟩ : ∃ N, L.length = N := ⟨_, rfl⟩
  have HN := hideC hN
  rw [hN] at hc ⊢
  have hcm : cap ≤ 9223372036854775807 := hc.2
  have HR := hideC hR
  clear hR hN
  go_enter Tryz.func5, Tryz.ntmps5
  go_wp2_with fail
  obtain ⟨V, hV⟩ : ∃ V, w.alloc (.cells #[.slice oa N cap] 24) = V := ⟨_, rfl⟩
  have HV : Hid (Below w.heap.size w V ∧ V.heap.size = w.heap.size + 1 ∧ V.cell? ⟨w.heap.size, 0, none⟩ = some (.slice oa N cap)) := hideC (by rw [← hV]; exact ⟨bel1 _ _, World.size_alloc _ _, by simp⟩)
  rw [hV]
  clear hV
  go_loopw [3, 4] (fun nv iv wq => ∃ (z : Int) (i : Nat), nv = .int .i64 z ∧ iv = .int .i64 (i : Nat) ∧ i ≤ N ∧ Below V.heap.size V wq) (fun _ iv _ => N - (intOf iv).toNat)
  case atStart => exact ⟨0, 0, rfl, rfl, Nat.zero_le _, Below.refl _ _⟩
  case round =>
    obtain ⟨z, i, rfl, rfl, hi, hb⟩ := hrel
    obtain ⟨wq, rfl⟩ : ∃ wq, wq = wr := ⟨_, rfl⟩
    have bw := bup HV.out.1 hb
    have cD : wq.cell? ⟨w.heap.size, 0, none⟩ = some (.slice oa N cap) := (hb.cell (p := ⟨w.heap.size, 0, none⟩) (by rw [HV.out.2.1]; exact Nat.lt_succ_self _)).trans HV.out.2.2
    by_cases hlt : i < N
    · by_cases h3 : i ≤ 300
      · obtain ⟨x, hx⟩ : ∃ x, L[i]? = some x := ⟨_, List.getElem?_eq_getElem (by rw [HN.out]; exact hlt)⟩
        obtain ⟨a, rfl, hab, _, _, ⟨c6, c7, c8⟩⟩ := HR.out.keep bw i x hx
        have d2 : (i : Int) < (N : Int) := by omega
        have d3 : (i : Int) ≤ 300 := by omega
        have wi : IntKind.i64.wrap ((i : Int) + 1) = ((i + 1 : Nat) : Int) := by rw [show ((i + 1 : Nat) : Int) = (i : Int) + 1 by omega]; exact IntWalk.i64_in _ ⟨by omega, by omega⟩
        go_wp2_with fail
        go_quiet (fail)
        go_wp2_with fail
        exact ⟨⟨_, i + 1, rfl, by first | rfl | simp, by omega, below_dnF hb nq⟩, by simp [intOf]; omega⟩
      · have d2 : (i : Int) < (N : Int) := by omega
        have d3 : ¬ (i : Int) ≤ 300 := by omega
        have d4 : ¬ (N : Int) ≤ 300 := by omega
        go_wp2_with fail
        go_ret
        exact ⟨⟨false, by first | rfl | simp, fun h => by cases h⟩, bw⟩
    · have d2 : ¬ (i : Int) < (N : Int) := by omega
      by_cases d4 : (N : Int) ≤ 300
      · go_wp2_with fail
        go_ret
        exact ⟨⟨_, rfl, fun _ => by omega⟩, bw⟩
      · go_wp2_with fail
        go_ret
        exact ⟨⟨false, by first | rfl | simp, fun h => by cases h⟩, bw⟩

end Go.Proofs.YtiebmglbnlhdpaaGreatDoor

/- speed.Mean at every document of no more than 300 cues. -/
namespace Go.Proofs.YtiebmglbnlhdpaaGreatDoor
open Go.RowKit Go.Shelf

/-- What Mean tells. -/
def mnA (r : Option (Nat × Int)) (L : List Cu) : Nat := match r with
  | none => mnF L
  | some _ => 0
set_option maxRecDepth 100000 in
set_option maxHeartbeats 2000000 in
theorem mean_any (sp : Cu → List Sp) (L : List Cu) (oa : Option Addr) (cap : Nat) (hc : L.length ≤ cap ∧ cap ≤ maxLen) (hn : L.length ≤ 300) (T : Nat) (w : World) (hT : Tabs T w) (hR : CuO w oa L) (hP : ∀ x ∈ L, CuP w sp x) :
    Calls Tryz.prog 6 #[.agg #[.slice oa L.length cap]] w fun e w' => ∃ v, e = .returned (.tuple #[.float .f64 (mnA (docC (chkF sp) L) L), v]) ∧ WrV w' w.heap.size (docC (chkF sp) L) v ∧ Below w.heap.size w w' := by
  have HD := hideC (fun (W : World) (b : Below w.heap.size w W) => checkdoc_any sp L oa cap hc W (hR.keep b) (fun x hx => (hP x hx).keep b))
  obtain ⟨N, hN⟩ : ∃ N, L.length = N := ⟨_, rfl⟩
  obtain ⟨R, hRR⟩ : ∃ R, docC (chkF sp) L = R := ⟨_, rfl⟩
  have HN := hideC (And.intro hN (And.intro hRR hn))
  rw [hN] at hc HD
  rw [hRR] at HD
  rw [hN, hRR]
  have hcm : cap ≤ 9223372036854775807 := hc.2
  have HR := hideC hR
  have HP := hideC hP
  have HT := hideC hT
  clear hR hN hP hRR hn hT
  cases R with
  | some p =>
    go_enter Tryz.func6, Tryz.ntmps6
    go_wp2_with fail
    refine (HD.out _ (bel1 _ _)).mono ?_
    rintro e w1 ⟨v, rfl, hv, b1⟩
    obtain ⟨i, k⟩ := p
    obtain ⟨g, rfl, hg1, hg2⟩ := hv
    have HG := hideC (And.intro hg1 (And.intro hg2 b1))
    clear hg1 hg2 b1
    go_wp2_with fail
    go_ret2
    refine ⟨_, rfl, ⟨g, rfl, ?_, HG.out.2.1⟩, bup (bel1 _ _) HG.out.2.2⟩
    have := HG.out.1
    rw [World.size_alloc] at this
    omega
  | none =>
    have hall := docC_none HN.out.2.1
    have HL : Hid (∀ x ∈ L, TmC x) := hideC (fun x hx => chkF_tm (hall.2 x hx))
    clear hall
    go_enter Tryz.func6, Tryz.ntmps6
    go_wp2_with fail
    have c0 : (w.alloc (.cells #[.slice oa N cap] 24)).cell? ⟨w.heap.size, 0, none⟩ = some (.slice oa N cap) := by simp
    have hz0 : w.heap.size < (w.alloc (.cells #[.slice oa N cap] 24)).heap.size := by simp
    refine (HD.out _ (bel1 _ _)).mono ?_
    rintro e w1 ⟨v, rfl, hv, b1⟩
    obtain rfl : v = .nilIface := hv
    have HV : Hid (Below w.heap.size w w1) := hideC (bup (bel1 _ _) b1)
    have c1 : w1.cell? ⟨w.heap.size, 0, none⟩ = some (.slice oa N cap) := (b1.cell (p := ⟨w.heap.size, 0, none⟩) hz0).trans c0
    clear c0 hz0 b1 HD
    go_wp2_with fail
    go_loopw [5, 6, 17] (fun nv sv iv wq => ∃ j : Nat, iv = .int .i64 (j : Nat) ∧ j ≤ N ∧ nv = .int .i64 (mnS (L.take j)).1 ∧ sv = .float .f64 (mnS (L.take j)).2 ∧ Below w1.heap.size w1 wq) (fun _ _ iv _ => N - (intOf iv).toNat)
    case atStart => exact ⟨0, rfl, Nat.zero_le _, rfl, rfl, Below.refl _ _⟩
    case round =>
      obtain ⟨j, rfl, hj, rfl, rfl, hb⟩ := hrel
      obtain ⟨wq, rfl⟩ : ∃ wq, wq = wr := ⟨_, rfl⟩
      have bw := bup HV.out hb
      by_cases hlt : j < N
      · obtain ⟨x, hx⟩ : ∃ x, L[j]? = some x := ⟨_, List.getElem?_eq_getElem (by rw [HN.out.1]; exact hlt)⟩
        obtain ⟨a, rfl, hab, ⟨c0, c1, c2, c3⟩, ⟨c4, c5⟩, ⟨c6, c7, c8⟩⟩ := HR.out.keep bw j x hx
        have d2 : (j : Int) < (N : Int) := by omega
        have wi : IntKind.i64.wrap ((j : Int) + 1) = ((j + 1 : Nat) : Int) := by rw [show ((j + 1 : Nat) : Int) = (j : Int) + 1 by omega]; exact IntWalk.i64_in _ ⟨by omega, by have := HN.out.2.2; have := HN.out.1; omega⟩
        have hm := List.mem_of_getElem? hx
        have HC := hideC (fun (W : World) (b : Below wq.heap.size wq W) => scount_any x.s (by have := (HP.out x hm).2.2.1; omega) (.slice x.o x.n x.k) T W (HT.out.below (bup bw b)))
        have HS1 := hideC (fun (W : World) => seconds_any x.a x.b _ (secF_ok (HL.out x hm).1).1 W)
        have HS2 := hideC (fun (W : World) => seconds_any x.c x.d _ (secF_ok (HL.out x hm).2).1 W)
        have hsub : ∀ t w, (binOp .sub t (.float .f64 (secF x.c x.d)) (.float .f64 (secF x.a x.b))).run Tryz.prog w = .ok (.float .f64 (difF x)) w := fun t w => run_float_arith w .sub t .f64 _ _ _ (difF_ok (HL.out x hm)).1
        have hadd : ∀ t w, (binOp .add t (.float .f64 (mnS (L.take j)).2) (.float .f64 (difF x))).run Tryz.prog w = .ok (.float .f64 (mnS (L.take (j + 1))).2) w := fun t w => run_float_arith w .add t .f64 _ _ _ (mnS_add HL.out HN.out.2.2 hx)
        have hs1 : IntKind.i64.wrap ((mnS (L.take j)).1 + (readN (signs x.s) : Int)) = (mnS (L.take (j + 1))).1 := by rw [mnS_succ hx]; rfl
        generalize (mnS (L.take j)).1 = n0 at *
        generalize (mnS (L.take j)).2 = s0 at *
        generalize hn1 : (mnS (L.take (j + 1))).1 = n1 at *
        generalize hs2 : (mnS (L.take (j + 1))).2 = s1 at *
        generalize secF x.a x.b = fa at *
        generalize secF x.c x.d = fc at *
        generalize difF x = fd at *
        generalize (readN (signs x.s) : Int) = rn at *
        have HA := hideC (And.intro hb (And.intro hn1 hs2))
        clear hb bw hn1 hs2 hx hm
        go_wp2_with fail
        obtain ⟨V, hV⟩ : ∃ V, wq.alloc (.cells #[.int .i64 x.a, .int .i64 x.b, .int .i64 x.c, .int .i64 x.d, .int .i64 x.la, .int .i64 x.sd, .string x.nm, .string x.s, .slice x.o x.n x.k] 52) = V := ⟨_, rfl⟩
        have HV2 : Hid (Below wq.heap.size wq V ∧ CueC V wq.heap.size x.a x.b x.c x.d x.la x.sd x.nm x.s (.slice x.o x.n x.k) ∧ wq.heap.size < V.heap.size) := hideC (by rw [← hV]; exact ⟨bel1 _ _, World.alloc_heap_new wq _, by simp⟩)
        rw [hV]
        clear hV c0 c1 c2 c3 c4 c5 c6 c7 c8
        refine (HC.out V HV2.out.1).mono ?_
        rintro e w2 ⟨rfl, b2⟩
        have HB2 := hideC (And.intro (HV2.out.2.1.keep b2) (And.intro (bup HV2.out.1 b2) (Nat.lt_of_lt_of_le HV2.out.2.2 b2.size)))
        clear b2
        go_upto_region 10 with fail
        have g0 : ∀ q : GrownQ w2, q.V.cell? ⟨wq.heap.size, 0, none⟩ = some (.int .i64 x.a) := fun q => (q.h.cell (p := ⟨wq.heap.size, 0, none⟩) HB2.out.2.2).trans HB2.out.1.cells.1.1
        have g1 : ∀ q : GrownQ w2, q.V.cell? ⟨wq.heap.size, 1, none⟩ = some (.int .i64 x.b) := fun q => (q.h.cell (p := ⟨wq.heap.size, 1, none⟩) HB2.out.2.2).trans HB2.out.1.cells.1.2.1
        have g2 : ∀ q : GrownQ w2, q.V.cell? ⟨wq.heap.size, 2, none⟩ = some (.int .i64 x.c) := fun q => (q.h.cell (p := ⟨wq.heap.size, 2, none⟩) HB2.out.2.2).trans HB2.out.1.cells.1.2.2.1
        have g3 : ∀ q : GrownQ w2, q.V.cell? ⟨wq.heap.size, 3, none⟩ = some (.int .i64 x.d) := fun q => (q.h.cell (p := ⟨wq.heap.size, 3, none⟩) HB2.out.2.2).trans HB2.out.1.cells.1.2.2.2
        refine region_grown w2 w2 (by kernel_rfl) (by kernel_rfl) (Below.refl _ _) ?_
        repeat (go_big_quiet_step (first
          | (go_at_call 14; rename_i q; (with_reducible refine (HS1.out _).mono ?_); rintro e V1 ⟨rfl, h1⟩; exact ⟨rfl, ⟨V1, q.h.trans (h1.mono q.h.size)⟩, rfl⟩)
          | (go_at_call 14; rename_i q; (with_reducible refine (HS2.out _).mono ?_); rintro e V1 ⟨rfl, h1⟩; exact ⟨rfl, ⟨V1, q.h.trans (h1.mono q.h.size)⟩, rfl⟩)))
        refine wpQuiet_nil ?_
        rintro W3 ⟨⟨V3, hb3⟩, hv3⟩
        have hv3 : W3 = V3 := hv3
        subst hv3
        have B3 := hideC (bup HA.out.1 (bup HB2.out.2.1 hb3))
        clear hv3 hb3
        go_wp2_with fail
        go_roundw
        case rel => exact ⟨j + 1, by first | rfl | simp, by omega, by rw [HA.out.2.1], by rw [HA.out.2.2], B3.out⟩
        case measure => simp [intOf]; omega
      · obtain rfl : j = N := by omega
        have d2 : ¬ (j : Int) < (j : Int) := by omega
        have hk : L.take j = L := List.take_of_length_le (by rw [HN.out.1]; exact Nat.le_refl _)
        rw [hk]
        have HB := hideC bw
        clear bw hb hk
        by_cases ho : (Ieee.double.order (mnS L).2 0 == some .gt) = true
        · have h1 := mnF_ok HL.out HN.out.2.2 ho
          have hdv : ∀ t w, (binOp .quo t (.float .f64 (floatOfInt .f64 (mnS L).1)) (.float .f64 (mnS L).2)).run Tryz.prog w = .ok (.float .f64 (mnF L)) w := fun t w => run_float_arith w .quo t .f64 _ _ _ h1.1
          have ho2 : (FloatKind.f64.format.order (mnS L).2 0 == some .gt) = true := ho
          clear ho h1
          generalize (mnS L).1 = n1 at *
          generalize (mnS L).2 = s1 at *
          go_wp2_with (simp only [hdv])
          go_ret2
          exact ⟨_, rfl, rfl, HB.out⟩
        · have h1 : mnF L = 0 := by unfold mnF; rw [if_neg ho]
          have ho2 : (FloatKind.f64.format.order (mnS L).2 0 == some .gt) = false := by rw [Bool.not_eq_true] at ho; exact ho
          clear ho
          generalize (mnS L).1 = n1 at *
          generalize (mnS L).2 = s1 at *
          go_wp2_with fail
          go_ret2
          refine ⟨_, ?_, rfl, HB.out⟩
          show _ = Ending.returned (.tuple #[.float .f64 (mnF L), .nilIface])
          rw [h1]
          rfl
end Go.Proofs.YtiebmglbnlhdpaaGreatDoor

/- The reference's Mean at every document of no more than 300 cues. -/
namespace Go.Proofs.YtiebmglbnlhdpaaGreatDoor
open Go.RowKit Go.Shelf

set_option maxRecDepth 100000 in
set_option maxHeartbeats 2000000 in
theorem rmean_walk (sp : Cu → List Sp) (L : List Cu) (oa : Option Addr) (cap : Nat) (hc : L.length ≤ cap ∧ cap ≤ maxLen) (hn : L.length ≤ 300) (w : World) (hR : CuO w oa L) (hP : ∀ x ∈ L, CuP w sp x)
    (HCt : ∀ (s : ByteArray) (v : Value) (W : World), s.size ≤ 140737488355328 → Calls Tryz.prog 16 #[.agg #[.string s, v]] W fun e w' => e = .returned (.int .i64 (readN (signs s))) ∧ Below W.heap.size W w') :
    Calls Tryz.prog 7 #[.agg #[.slice oa L.length cap]] w fun e w' => e = .returned (.tuple #[.float .f64 (mnA (docC (chkF sp) L) L), .agg #[.int .i64 (docP (docC (chkF sp) L)).1, .int .i64 (docP (docC (chkF sp) L)).2]]) ∧ Below w.heap.size w w' := by
  have HD := hideC (fun (W : World) (b : Below w.heap.size w W) => rcheckdoc_any sp L oa cap hc W (hR.keep b) (fun x hx => (hP x hx).keep b))
  obtain ⟨N, hN⟩ : ∃ N, L.length = N := ⟨_, rfl⟩
  obtain ⟨R, hRR⟩ : ∃ R, docC (chkF sp) L = R := ⟨_, rfl⟩
  have HN := hideC (And.intro hN (And.intro hRR hn))
  rw [hN] at hc HD
  rw [hRR] at HD
  rw [hN, hRR]
  have hcm : cap ≤ 9223372036854775807 := hc.2
  have HR := hideC hR
  have HP := hideC hP
  replace HCt := hideC HCt
  have hk0 : Hid (∀ i k, R = some (i, k) → ¬ k = 0) := hideC (fun i k e => by
    subst e
    unfold docC at hRR
    split at hRR
    · cases hRR
      omega
    · split at hRR
      · rename_i h3
        obtain ⟨_, _, x, _, h4, h5⟩ := badC_atM (chkF sp) L 0 _ h3
        cases hRR
        rw [show k = chkF sp x from h4]
        exact h5
      · have := disC_atM L 0 _ hRR
        simp at this
        omega)
  clear hR hN hP hRR hn
  cases R with
  | some p =>
    obtain ⟨i, k⟩ := p
    have hk := hk0.out i k rfl
    go_enter Tryz.func7, Tryz.ntmps7
    go_wp2_with fail
    obtain ⟨V, hV⟩ : ∃ V, (w.alloc (.cells #[.slice oa N cap] 24)).alloc (.cells #[.int .i64 0, .int .i64 0] 33) = V := ⟨_, rfl⟩
    have HV : Hid (Below w.heap.size w V ∧ V.heap.size = w.heap.size + 1 + 1 ∧ V.heap[w.heap.size]? = some (.cells #[.slice oa N cap] 24) ∧ V.heap[w.heap.size + 1]? = some (.cells #[.int .i64 0, .int .i64 0] 33)) := hideC (by
      rw [← hV]
      refine ⟨((Below.refl _ w).alloc (Nat.le_refl _) _).alloc (by simp) _, by rw [World.size_alloc, World.size_alloc], (Below.heap_alloc _ _ _ (by simp)).trans (World.alloc_heap_new w _), ?_⟩
      have h := World.alloc_heap_new (w.alloc (.cells #[.slice oa N cap] 24)) (.cells #[.int .i64 0, .int .i64 0] 33)
      rw [World.size_alloc] at h
      exact h)
    rw [hV]
    clear hV
    refine (HD.out V HV.out.1).mono ?_
    rintro e w1 ⟨rfl, b1⟩
    have kz := HV.out.2.1
    have K1 : w1.heap[w.heap.size + 1]? = some (.cells #[.int .i64 0, .int .i64 0] 33) := (b1.block _ (by omega)).trans HV.out.2.2.2
    have HB := hideC (And.intro (bup HV.out.1 b1) (And.intro kz b1.size))
    have hdp : docP (some (i, k)) = ((i : Int), k) := rfl
    rw [hdp]
    clear b1 kz HD
    go_upto_region 3 with fail
    obtain ⟨W, hW⟩ : ∃ W, w1.alloc (.cells #[.int .i64 (i : Int), .int .i64 k] 33) = W := ⟨_, rfl⟩
    have HW : Hid (Below w1.heap.size w1 W ∧ W.heap[w1.heap.size]? = some (.cells #[.int .i64 (i : Int), .int .i64 k] 33) ∧ W.heap[w.heap.size + 1]? = some (.cells #[.int .i64 0, .int .i64 0] 33)) := hideC (by
      rw [← hW]
      exact ⟨bel1 _ _, World.alloc_heap_new _ _, (Below.heap_alloc _ _ _ (Array.getElem?_eq_some_iff.1 K1).1).trans K1⟩)
    rw [hW]
    clear hW K1
    have e0 : W.cell? ⟨w1.heap.size, 0, none⟩ = some (.int .i64 (i : Int)) := by simp [World.cell?, HW.out.2.1]
    have e1 : W.cell? ⟨w1.heap.size, 1, none⟩ = some (.int .i64 k) := by simp [World.cell?, HW.out.2.1]
    have z0 : W.cell? ⟨w.heap.size + 1, 0, none⟩ = some (.int .i64 0) := by simp [World.cell?, HW.out.2.2]
    have z1 : W.cell? ⟨w.heap.size + 1, 1, none⟩ = some (.int .i64 0) := by simp [World.cell?, HW.out.2.2]
    have f0 : W.frozen? ⟨w.heap.size + 1, 0, none⟩ = false := by simp [World.frozen?, HW.out.2.2]
    have f1 : W.frozen? ⟨w.heap.size + 1, 1, none⟩ = false := by simp [World.frozen?, HW.out.2.2]
    go_big_region
    go_wp2_with fail
    refine bodyPost_ret (v := .tuple #[.float .f64 0, .agg #[.int .i64 (i : Int), .int .i64 k]]) (by simp [results, Tryz.results7, go_sem, z0, z1]) rfl ⟨rfl, ?_⟩
    exact (((bup HB.out.1 HW.out.1).setCell (by simp) _).setCell (by simp) _).drew
  | none =>
    have hall := docC_none HN.out.2.1
    have HL : Hid (∀ x ∈ L, TmC x) := hideC (fun x hx => chkF_tm (hall.2 x hx))
    clear hall hk0
    have hdp : docP none = (0, 0) := rfl
    rw [hdp] at HD ⊢
    go_enter Tryz.func7, Tryz.ntmps7
    go_wp2_with fail
    obtain ⟨V, hV⟩ : ∃ V, (w.alloc (.cells #[.slice oa N cap] 24)).alloc (.cells #[.int .i64 0, .int .i64 0] 33) = V := ⟨_, rfl⟩
    have HV : Hid (Below w.heap.size w V ∧ V.heap.size = w.heap.size + 1 + 1 ∧ V.heap[w.heap.size]? = some (.cells #[.slice oa N cap] 24) ∧ V.heap[w.heap.size + 1]? = some (.cells #[.int .i64 0, .int .i64 0] 33)) := hideC (by
      rw [← hV]
      refine ⟨((Below.refl _ w).alloc (Nat.le_refl _) _).alloc (by simp) _, by rw [World.size_alloc, World.size_alloc], (Below.heap_alloc _ _ _ (by simp)).trans (World.alloc_heap_new w _), ?_⟩
      have h := World.alloc_heap_new (w.alloc (.cells #[.slice oa N cap] 24)) (.cells #[.int .i64 0, .int .i64 0] 33)
      rw [World.size_alloc] at h
      exact h)
    rw [hV]
    clear hV
    refine (HD.out V HV.out.1).mono ?_
    rintro e w1 ⟨rfl, b1⟩
    have kz := HV.out.2.1
    have K1 : w1.heap[w.heap.size + 1]? = some (.cells #[.int .i64 0, .int .i64 0] 33) := (b1.block _ (by omega)).trans HV.out.2.2.2
    have cD : w1.cell? ⟨w.heap.size, 0, none⟩ = some (.slice oa N cap) := by
      rw [World.cell?_of_block (b1.block w.heap.size (by omega)), World.cell?, HV.out.2.2.1]
      rfl
    have HB := hideC (And.intro (bup HV.out.1 b1) (And.intro kz b1.size))
    clear b1 kz HD
    go_upto_region 4 with fail
    obtain ⟨W, hW⟩ : ∃ W, w1.alloc (.cells #[.int .i64 0, .int .i64 0] 33) = W := ⟨_, rfl⟩
    have HW : Hid (Below w1.heap.size w1 W ∧ W.heap[w.heap.size + 1]? = some (.cells #[.int .i64 0, .int .i64 0] 33) ∧ W.cell? ⟨w.heap.size, 0, none⟩ = some (.slice oa N cap) ∧ w.heap.size + 1 < W.heap.size) := hideC (by
      have hlt := (Array.getElem?_eq_some_iff.1 K1).1
      rw [← hW]
      refine ⟨bel1 _ _, (Below.heap_alloc _ _ _ hlt).trans K1, ((bel1 w1 _).cell (p := ⟨w.heap.size, 0, none⟩) (by show w.heap.size < _; omega)).trans cD, by rw [World.size_alloc]; omega⟩)
    rw [hW]
    clear hW K1 cD
    go_wp2_with fail
    go_loopw [5, 6, 7] (fun nv sv iv wq => ∃ j : Nat, iv = .int .i64 (j : Nat) ∧ j ≤ N ∧ nv = .int .i64 (mnS (L.take j)).1 ∧ sv = .float .f64 (mnS (L.take j)).2 ∧ Below W.heap.size W wq) (fun _ _ iv _ => N - (intOf iv).toNat)
    case atStart => exact ⟨0, rfl, Nat.zero_le _, rfl, rfl, Below.refl _ _⟩
    case round =>
      obtain ⟨j, rfl, hj, rfl, rfl, hb⟩ := hrel
      obtain ⟨wq, rfl⟩ : ∃ wq, wq = wr := ⟨_, rfl⟩
      have bw := bup (bup HB.out.1 HW.out.1) hb
      have cD : wq.cell? ⟨w.heap.size, 0, none⟩ = some (.slice oa N cap) := (hb.cell (p := ⟨w.heap.size, 0, none⟩) (by show w.heap.size < _; have := HW.out.2.2.2; omega)).trans HW.out.2.2.1
      by_cases hlt : j < N
      · obtain ⟨x, hx⟩ : ∃ x, L[j]? = some x := ⟨_, List.getElem?_eq_getElem (by rw [HN.out.1]; exact hlt)⟩
        obtain ⟨a, rfl, hab, ⟨c0, c1, c2, c3⟩, ⟨c4, c5⟩, ⟨c6, c7, c8⟩⟩ := HR.out.keep bw j x hx
        have d2 : (j : Int) < (N : Int) := by omega
        have wi : IntKind.i64.wrap ((j : Int) + 1) = ((j + 1 : Nat) : Int) := by rw [show ((j + 1 : Nat) : Int) = (j : Int) + 1 by omega]; exact IntWalk.i64_in _ ⟨by omega, by have := HN.out.2.2; have := HN.out.1; omega⟩
        have hm := List.mem_of_getElem? hx
        have HC := hideC (fun (U : World) => HCt.out x.s (.slice x.o x.n x.k) U (HP.out x hm).2.2.1)
        have hq1 : ∀ t w, (binOp .quo t (.float .f64 (floatOfInt .f64 x.a)) (.float .f64 (floatOfInt .f64 x.b))).run Tryz.prog w = .ok (.float .f64 (secF x.a x.b)) w := fun t w => run_float_arith w .quo t .f64 _ _ _ (secF_ok (HL.out x hm).1).1
        have hq2 : ∀ t w, (binOp .quo t (.float .f64 (floatOfInt .f64 x.c)) (.float .f64 (floatOfInt .f64 x.d))).run Tryz.prog w = .ok (.float .f64 (secF x.c x.d)) w := fun t w => run_float_arith w .quo t .f64 _ _ _ (secF_ok (HL.out x hm).2).1
        have hsub : ∀ t w, (binOp .sub t (.float .f64 (secF x.c x.d)) (.float .f64 (secF x.a x.b))).run Tryz.prog w = .ok (.float .f64 (difF x)) w := fun t w => run_float_arith w .sub t .f64 _ _ _ (difF_ok (HL.out x hm)).1
        have hadd : ∀ t w, (binOp .add t (.float .f64 (mnS (L.take j)).2) (.float .f64 (difF x))).run Tryz.prog w = .ok (.float .f64 (mnS (L.take (j + 1))).2) w := fun t w => run_float_arith w .add t .f64 _ _ _ (mnS_add HL.out HN.out.2.2 hx)
        have hs1 : IntKind.i64.wrap ((mnS (L.take j)).1 + (readN (signs x.s) : Int)) = (mnS (L.take (j + 1))).1 := by rw [mnS_succ hx]; rfl
        generalize (mnS (L.take j)).1 = n0 at *
        generalize (mnS (L.take j)).2 = s0 at *
        generalize hn1 : (mnS (L.take (j + 1))).1 = n1 at *
        generalize hs2 : (mnS (L.take (j + 1))).2 = s1 at *
        generalize secF x.a x.b = fa at *
        generalize secF x.c x.d = fc at *
        generalize difF x = fd at *
        generalize (readN (signs x.s) : Int) = rn at *
        have HA := hideC (And.intro hb (And.intro hn1 hs2))
        clear hb bw hn1 hs2 hx hm
        go_wp2_with fail
        obtain ⟨V2, hV⟩ : ∃ V2, wq.alloc (.cells #[.int .i64 x.a, .int .i64 x.b, .int .i64 x.c, .int .i64 x.d, .int .i64 x.la, .int .i64 x.sd, .string x.nm, .string x.s, .slice x.o x.n x.k] 52) = V2 := ⟨_, rfl⟩
        have HV2 : Hid (Below wq.heap.size wq V2 ∧ CueC V2 wq.heap.size x.a x.b x.c x.d x.la x.sd x.nm x.s (.slice x.o x.n x.k) ∧ wq.heap.size < V2.heap.size) := hideC (by rw [← hV]; exact ⟨bel1 _ _, World.alloc_heap_new wq _, by simp⟩)
        rw [hV]
        clear hV c0 c1 c2 c3 c4 c5 c6 c7 c8 cD
        refine (HC.out V2).mono ?_
        rintro e w2 ⟨rfl, b2⟩
        have HB2 := hideC (bup HA.out.1 (bup HV2.out.1 b2))
        have ⟨⟨c0, c1, c2, c3⟩, _⟩ := (HV2.out.2.1.keep b2).cells
        clear b2
        go_wp2_with (first | rw [hq2] | rw [hq1] | rw [hsub] | rw [hadd])
        go_roundw
        case rel => exact ⟨j + 1, by first | rfl | simp, by omega, by rw [HA.out.2.1], by rw [HA.out.2.2], HB2.out⟩
        case measure => simp [intOf]; omega
      · obtain rfl : j = N := by omega
        have d2 : ¬ (j : Int) < (j : Int) := by omega
        have hk : L.take j = L := List.take_of_length_le (by rw [HN.out.1]; exact Nat.le_refl _)
        rw [hk]
        have K2 : wq.heap[w.heap.size + 1]? = some (.cells #[.int .i64 0, .int .i64 0] 33) := (hb.block _ HW.out.2.2.2).trans HW.out.2.1
        have z0 : wq.cell? ⟨w.heap.size + 1, 0, none⟩ = some (.int .i64 0) := by simp [World.cell?, K2]
        have z1 : wq.cell? ⟨w.heap.size + 1, 1, none⟩ = some (.int .i64 0) := by simp [World.cell?, K2]
        have f0 : wq.frozen? ⟨w.heap.size + 1, 0, none⟩ = false := by simp [World.frozen?, K2]
        have f1 : wq.frozen? ⟨w.heap.size + 1, 1, none⟩ = false := by simp [World.frozen?, K2]
        have HB3 := hideC bw
        clear bw hb hk K2
        by_cases ho : (Ieee.double.order (mnS L).2 0 == some .gt) = true
        · have h1 := mnF_ok HL.out HN.out.2.2 ho
          have hdv : ∀ t w, (binOp .quo t (.float .f64 (floatOfInt .f64 (mnS L).1)) (.float .f64 (mnS L).2)).run Tryz.prog w = .ok (.float .f64 (mnF L)) w := fun t w => run_float_arith w .quo t .f64 _ _ _ h1.1
          have ho2 : (FloatKind.f64.format.order (mnS L).2 0 == some .gt) = true := ho
          clear ho h1
          generalize (mnS L).1 = n1 at *
          generalize (mnS L).2 = s1 at *
          go_wp2_with (simp only [hdv])
          refine bodyPost_ret (v := .tuple #[.float .f64 (mnF L), .agg #[.int .i64 0, .int .i64 0]]) (by simp [results, Tryz.results7, go_sem, z0, z1]) rfl ⟨rfl, ?_⟩
          exact (HB3.out.setCell (by simp) _).setCell (by simp) _
        · have h1 : mnF L = 0 := by unfold mnF; rw [if_neg ho]
          have ho2 : (FloatKind.f64.format.order (mnS L).2 0 == some .gt) = false := by rw [Bool.not_eq_true] at ho; exact ho
          clear ho
          generalize (mnS L).1 = n1 at *
          generalize (mnS L).2 = s1 at *
          go_wp2_with fail
          refine bodyPost_ret (v := .tuple #[.float .f64 0, .agg #[.int .i64 0, .int .i64 0]]) (by simp [results, Tryz.results7, go_sem, z0, z1]) rfl ⟨?_, ?_⟩
          · show _ = Ending.returned (.tuple #[.float .f64 (mnF L), .agg #[.int .i64 0, .int .i64 0]])
            rw [h1]
          · exact (HB3.out.setCell (by simp) _).setCell (by simp) _
end Go.Proofs.YtiebmglbnlhdpaaGreatDoor

/- law11's wrongly: an error that CheckDoc told, held against what the reference's CheckDoc told. -/
namespace Go.Proofs.YtiebmglbnlhdpaaGreatDoor
open Go.RowKit Go.Shelf

set_option maxRecDepth 100000 in
set_option maxHeartbeats 400000 in
theorem wrongly11_none (w : World) : Calls Tryz.prog 8 #[.nilIface, .agg #[.int .i64 0, .int .i64 0]] w fun e w' => e = .returned (.bool true) ∧ Below w.heap.size w w' := by
  go_enter Tryz.func8, Tryz.ntmps8
  go_wp2
  go_ret
  exact ⟨rfl, bel1 _ _⟩

set_option maxRecDepth 100000 in
set_option maxHeartbeats 2000000 in
theorem wrongly11_some (g : Nat) (i k : Int) (w : World) (hk : ¬ k = 0) (hg : w.heap[g]? = some (.cells #[.int .i64 i, .int .i64 k] 60))
    (hG : w.cell? ⟨1, 0, none⟩ = some (rty 29)) :
    Calls Tryz.prog 8 #[.iface 56 (.pointer (some ⟨g, 0, none⟩)), .agg #[.int .i64 i, .int .i64 k]] w fun e w' => e = .returned (.bool true) ∧ Below w.heap.size w w' := by
  have hgl : g < w.heap.size := (Array.getElem?_eq_some_iff.1 hg).1
  have hgG : 1 < w.heap.size := by
    rcases Nat.lt_or_ge 1 w.heap.size with h | h
    · exact h
    · simp [World.cell?, Array.getElem?_eq_none h] at hG
  go_enter Tryz.func8, Tryz.ntmps8
  go_wp2_with fail
  obtain ⟨V, hV⟩ : ∃ V, ((w.alloc (.cells #[.int .i64 i, .int .i64 k] 33)).alloc (.cells #[.pointer none] 56)) = V := ⟨_, rfl⟩
  have HV : Hid (Below w.heap.size w V ∧ V.heap.size = w.heap.size + 1 + 1 ∧ V.heap[w.heap.size]? = some (.cells #[.int .i64 i, .int .i64 k] 33) ∧ V.cell? ⟨w.heap.size + 1, 0, none⟩ = some (.pointer none) ∧ V.frozen? ⟨w.heap.size + 1, 0, none⟩ = false) := hideC (by
    rw [← hV]
    refine ⟨((Below.refl _ w).alloc (Nat.le_refl _) _).alloc (by simp) _, by rw [World.size_alloc, World.size_alloc], (Below.heap_alloc _ _ _ (by simp)).trans (World.alloc_heap_new w _), ?_, ?_⟩
    all_goals simp)
  rw [hV]
  clear hV
  refine (as_any ⟨w.heap.size + 1, 0, none⟩ g (.pointer none) V ((HV.out.1.cell (p := ⟨1, 0, none⟩) hgG).trans hG) HV.out.2.2.2.1 HV.out.2.2.2.2).mono ?_
  rintro e w1 ⟨rfl, V1, b1, rfl⟩
  obtain ⟨W, hW⟩ : ∃ W, V1.setCell ⟨w.heap.size + 1, 0, none⟩ (.pointer (some ⟨g, 0, none⟩)) = W := ⟨_, rfl⟩
  have HW : Hid (Below w.heap.size w W ∧ W.heap[w.heap.size]? = some (.cells #[.int .i64 i, .int .i64 k] 33) ∧ W.cell? ⟨w.heap.size + 1, 0, none⟩ = some (.pointer (some ⟨g, 0, none⟩)) ∧ W.heap[g]? = some (.cells #[.int .i64 i, .int .i64 k] 60) ∧ w.heap.size + 1 < W.heap.size) := hideC (by
    have hz := b1.size
    have h2 := HV.out.2.1
    have hbw : Below w.heap.size w W := by rw [← hW]; exact (bup HV.out.1 b1).setCell (by simp) _
    refine ⟨hbw, ?_, ?_, (hbw.block g hgl).trans hg, ?_⟩
    · rw [← hW]
      exact (Below.heap_setCell _ _ _ _ (by simp)).trans ((b1.block _ (by omega)).trans HV.out.2.2.1)
    · rw [← hW]
      exact World.cell?_setCell_same _ _ _ ((b1.cell (p := ⟨w.heap.size + 1, 0, none⟩) (by show w.heap.size + 1 < _; omega)).trans HV.out.2.2.2.1)
    · rw [← hW]
      show _ < (V1.heap.modify _ _).size
      rw [Array.size_modify]
      omega)
  rw [hW]
  clear hW b1 hg hG
  have c0 : W.cell? ⟨w.heap.size, 0, none⟩ = some (.int .i64 i) := by simp [World.cell?, HW.out.2.1]
  have c1 : W.cell? ⟨w.heap.size, 1, none⟩ = some (.int .i64 k) := by simp [World.cell?, HW.out.2.1]
  have cx := HW.out.2.2.1
  have g0 : W.cell? ⟨g, 0, none⟩ = some (.int .i64 i) := by simp [World.cell?, HW.out.2.2.2.1]
  have g1 : W.cell? ⟨g, 1, none⟩ = some (.int .i64 k) := by simp [World.cell?, HW.out.2.2.2.1]
  go_wp2_with fail
  go_quiet (first | (go_at_call 18; refine Calls.quiet_of_same (is_wrongE g i k _ HW.out.2.2.2.1)))
  go_wp2_with fail
  go_ret
  exact ⟨by first | rfl | simp, below_dnF HW.out.1 nq⟩

end Go.Proofs.YtiebmglbnlhdpaaGreatDoor

/- The walk of SpeedMeans: the mean of every document, to the bit. -/
namespace Go.Proofs.YtiebmglbnlhdpaaGreatDoor
open Go.RowKit Go.Shelf

set_option maxRecDepth 100000 in
theorem run_bits (z : Nat) (w : World) : (callFunc 9 #[.float .f64 z]).run Tryz.prog w = .ok (.value (.int .u64 z)) w := by
  rw [@run_callFunc_extern Tryz.prog 9 _ Extern.MathFloatBits.float64bits Tryz.func9 (by kernel_rfl) (by kernel_rfl) (by kernel_rfl) (by kernel_rfl)]
  rfl
set_option maxRecDepth 100000 in
set_option maxHeartbeats 2000000 in
theorem means_walk (sp : Cu → List Sp) (L : List Cu) (oa : Option Addr) (cap : Nat) (hc : L.length ≤ cap ∧ cap ≤ maxLen) (T : Nat) (w : World) (hT : Tabs T w) (hR : CuO w oa L) (hP : ∀ x ∈ L, CuP w sp x) (hG : w.cell? ⟨1, 0, none⟩ = some (rty 29))
    (HCt : ∀ (s : ByteArray) (v : Value) (W : World), s.size ≤ 140737488355328 → Calls Tryz.prog 16 #[.agg #[.string s, v]] W fun e w' => e = .returned (.int .i64 (readN (signs s))) ∧ Below W.heap.size W w') :
    Calls Tryz.prog 3 #[.agg #[.slice oa L.length cap]] w fun e w' => e = .returned (.bool true) ∧ Below w.heap.size w w' := by
  have HF := hideC (fun (W : World) (b : Below w.heap.size w W) => few_any L oa cap hc W (hR.keep b))
  have HM := hideC (fun (hn : L.length ≤ 300) (W : World) (b : Below w.heap.size w W) => mean_any sp L oa cap hc hn T W (hT.below b) (hR.keep b) (fun x hx => (hP x hx).keep b))
  have HX := hideC (fun (hn : L.length ≤ 300) (W : World) (b : Below w.heap.size w W) => rmean_walk sp L oa cap hc hn W (hR.keep b) (fun x hx => (hP x hx).keep b) HCt)
  have HK := hideC (fun (W : World) (b : Below w.heap.size w W) => known11 T W (hT.below b))
  have hGl : 1 < w.heap.size := by
    rcases Nat.lt_or_ge 1 w.heap.size with h | h
    · exact h
    · simp [World.cell?, Array.getElem?_eq_none h] at hG
  have HG := hideC (And.intro hG hGl)
  obtain ⟨N, hN⟩ : ∃ N, L.length = N := ⟨_, rfl⟩
  obtain ⟨R, hRR⟩ : ∃ R, docC (chkF sp) L = R := ⟨_, rfl⟩
  have HFn : Hid (L.length ≤ 300 → Fn (mnA R L)) := hideC (fun hn => by
    cases R with
    | none => exact mnF_fn (fun x hx => chkF_tm ((docC_none hRR).2 x hx)) hn
    | some p => exact .inl ⟨false, 0, -1074, show Ieee.double.read 0 = _ by decide⟩)
  have hk0 : Hid (∀ i k, R = some (i, k) → ¬ k = 0) := hideC (fun i k e => by
    subst e
    unfold docC at hRR
    split at hRR
    · cases hRR
      omega
    · split at hRR
      · rename_i h3
        obtain ⟨_, _, x, _, h4, h5⟩ := badC_atM (chkF sp) L 0 _ h3
        cases hRR
        rw [show k = chkF sp x from h4]
        exact h5
      · have := disC_atM L 0 _ hRR
        simp at this
        omega)
  rw [hN] at HF HM HX HFn hc ⊢
  rw [hRR] at HM HX
  generalize mnA R L = mz at *
  clear hR hN hP hRR hT hG hGl HCt
  go_enter Tryz.func3, Tryz.ntmps3
  go_wp2_with fail
  have c0 : (w.alloc (.cells #[.slice oa N cap] 24)).cell? ⟨w.heap.size, 0, none⟩ = some (.slice oa N cap) := by simp
  have hz0 : w.heap.size < (w.alloc (.cells #[.slice oa N cap] 24)).heap.size := by simp
  refine (HK.out _ (bel1 _ _)).mono ?_
  rintro e w1 ⟨rfl, b1⟩
  have H1 : Hid (Below w.heap.size w w1 ∧ w.heap.size < w1.heap.size) := hideC ⟨bup (bel1 _ _) b1, Nat.lt_of_lt_of_le hz0 b1.size⟩
  have c1 : w1.cell? ⟨w.heap.size, 0, none⟩ = some (.slice oa N cap) := (b1.cell (p := ⟨w.heap.size, 0, none⟩) hz0).trans c0
  clear c0 hz0 b1 HK
  go_wp2_with fail
  refine (HF.out w1 H1.out.1).mono ?_
  rintro e w2 ⟨⟨bb, rfl, hbb⟩, b2⟩
  have H2 : Hid (Below w.heap.size w w2 ∧ w.heap.size < w2.heap.size) := hideC ⟨bup H1.out.1 b2, Nat.lt_of_lt_of_le H1.out.2 b2.size⟩
  have c2 : w2.cell? ⟨w.heap.size, 0, none⟩ = some (.slice oa N cap) := (b2.cell (p := ⟨w.heap.size, 0, none⟩) H1.out.2).trans c1
  clear c1 b2 HF H1
  cases bb with
  | false =>
    go_wp2_with fail
    go_ret
    exact ⟨rfl, H2.out.1⟩
  | true =>
    have hN3 := hbb rfl
    obtain ⟨zz, hzz⟩ := add_zero_fn (HFn.out hN3)
    have hadd : ∀ t w, (binOp .add t (.float .f64 mz) (.float .f64 0)).run Tryz.prog w = .ok (.float .f64 zz) w := fun t w => run_float_arith w .add t .f64 _ _ _ hzz
    clear hbb hzz
    go_wp2_with fail
    refine (HM.out hN3 w2 H2.out.1).mono ?_
    rintro e w3 ⟨v, rfl, hv, b3⟩
    have H3 : Hid (Below w.heap.size w w3 ∧ w.heap.size < w3.heap.size) := hideC ⟨bup H2.out.1 b3, Nat.lt_of_lt_of_le H2.out.2 b3.size⟩
    have c3 : w3.cell? ⟨w.heap.size, 0, none⟩ = some (.slice oa N cap) := (b3.cell (p := ⟨w.heap.size, 0, none⟩) H2.out.2).trans c2
    clear c2 b3
    go_wp2_with fail
    refine (HX.out hN3 w3 H3.out.1).mono ?_
    rintro e w4 ⟨rfl, b4⟩
    cases R with
    | none =>
      obtain rfl : v = .nilIface := hv
      have hdp : docP none = (0, 0) := rfl
      rw [hdp]
      have H4 : Hid (Below w.heap.size w w4) := hideC (bup H3.out.1 b4)
      clear c3 b4
      go_wp2_with fail
      refine (wrongly11_none _).mono ?_
      rintro e w5 ⟨rfl, b5⟩
      go_wp2_with (first | rw [hadd] | rw [run_bits])
      go_ret
      exact ⟨by first | rfl | simp, bup (bup H4.out (bel1 _ _)) b5⟩
    | some p =>
      obtain ⟨i, k⟩ := p
      have hk := hk0.out i k rfl
      obtain ⟨g, rfl, hg1, hg2⟩ := hv
      have hdp : docP (some (i, k)) = ((i : Int), k) := rfl
      rw [hdp]
      have H4 : Hid (Below w.heap.size w w4 ∧ w4.heap[g]? = some (.cells #[.int .i64 (i : Int), .int .i64 k] 60)) := hideC ⟨bup H3.out.1 b4, (b4.block g (Array.getElem?_eq_some_iff.1 hg2).1).trans hg2⟩
      clear c3 b4 hg1 hg2
      go_wp2_with fail
      refine (wrongly11_some g (i : Int) k _ hk ((Below.heap_alloc _ _ _ (Array.getElem?_eq_some_iff.1 H4.out.2).1).trans H4.out.2) (((bup H4.out.1 (bel1 _ _)).cell (p := ⟨1, 0, none⟩) HG.out.2).trans HG.out.1)).mono ?_
      rintro e w5 ⟨rfl, b5⟩
      go_wp2_with (first | rw [hadd] | rw [run_bits])
      go_ret
      exact ⟨by first | rfl | simp, bup (bup H4.out.1 (bel1 _ _)) b5⟩
end Go.Proofs.YtiebmglbnlhdpaaGreatDoor

/- A cue's spans as memory tells them; of two documents with the same times, names and texts CheckDoc tells the same. -/
namespace Go.Proofs.YtiebmglbnlhdpaaGreatDoor
open Go.RowKit Go.Shelf

theorem spo_inj {W : World} {o : Option Addr} {D E : List Sp} (h1 : SpO W o D) (h2 : SpO W o E) (hl : D.length = E.length) : D = E := by
  refine List.ext_getElem? fun i => ?_
  by_cases hi : i < D.length
  · obtain ⟨p, hp⟩ : ∃ p, D[i]? = some p := ⟨_, List.getElem?_eq_getElem hi⟩
    obtain ⟨q, hq⟩ : ∃ q, E[i]? = some q := ⟨_, List.getElem?_eq_getElem (by omega)⟩
    obtain ⟨a, ha, _, c0, c1, c2, c3⟩ := h1 i p hp
    obtain ⟨a', ha', _, k0, k1, k2, k3⟩ := h2 i q hq
    obtain rfl : a = a' := by rw [ha] at ha'; exact Option.some.inj ha'
    rw [hp, hq]
    rw [c0] at k0
    rw [c1] at k1
    rw [c2] at k2
    rw [c3] at k3
    cases p
    cases q
    simp_all
  · rw [List.getElem?_eq_none (by omega), List.getElem?_eq_none (by omega)]
open Classical in
/-- The spans of a cue, as memory tells them. -/
noncomputable def spW (W : World) (y : Cu) : List Sp := if h : ∃ D : List Sp, D.length = y.n ∧ SpO W y.o D then h.choose else []
theorem spW_eq {W : World} {y : Cu} {D : List Sp} (hl : D.length = y.n) (hR : SpO W y.o D) : spW W y = D := by
  have h : ∃ D : List Sp, D.length = y.n ∧ SpO W y.o D := ⟨D, hl, hR⟩
  unfold spW
  rw [dif_pos h]
  exact spo_inj h.choose_spec.2 hR (h.choose_spec.1.trans hl.symm)
/-- A cue whose parts lie in memory as they should. -/
def CuQ (W : World) (x : Cu) : Prop := ∃ D : List Sp, RtIn ⟨x.a, x.b⟩ ∧ RtIn ⟨x.c, x.d⟩ ∧ x.s.size ≤ 140737488355328 ∧ (D.length = x.n ∧ D.length ≤ 4398046510976) ∧ (x.n ≤ x.k ∧ x.k ≤ maxLen) ∧ (x.o = none → D = [] ∧ x.k = 0) ∧ SpO W x.o D
theorem CuQ.keep {W W2 : World} {x : Cu} (h : CuQ W x) (b : Below W.heap.size W W2) : CuQ W2 x := by
  obtain ⟨D, h1, h2, h3, h4, h5, h6, h7⟩ := h
  exact ⟨D, h1, h2, h3, h4, h5, h6, h7.keep b⟩
theorem CuQ.sp {W : World} {x : Cu} (h : CuQ W x) : (spW W x).length = x.n ∧ (spW W x).length ≤ 4398046510976 ∧ SpO W x.o (spW W x) ∧ (x.o = none → spW W x = [] ∧ x.k = 0) := by
  obtain ⟨D, h1, h2, h3, h4, h5, h6, h7⟩ := h
  rw [spW_eq h4.1 h7]
  exact ⟨h4.1, h4.2, h7, h6⟩
theorem CuQ.p {W : World} {x : Cu} (h : CuQ W x) : CuP W (spW W) x := by
  have hs := h.sp
  obtain ⟨D, h1, h2, h3, h4, h5, h6, h7⟩ := h
  exact ⟨h1, h2, h3, hs.1, h5, hs.2.2.2, hs.2.2.1⟩
theorem spW_keep {W W2 : World} {x : Cu} (h : CuQ W x) (b : Below W.heap.size W W2) : spW W2 x = spW W x := by
  obtain ⟨D, h1, h2, h3, h4, h5, h6, h7⟩ := h
  rw [spW_eq h4.1 h7, spW_eq h4.1 (h7.keep b)]
/-- A cue and its twin in another world: the same but for where its spans lie. -/
def TwR (W W2 : World) (x y : Cu) : Prop := (x.a = y.a ∧ x.b = y.b ∧ x.c = y.c ∧ x.d = y.d) ∧ (x.la = y.la ∧ x.sd = y.sd) ∧ x.nm = y.nm ∧ x.s = y.s ∧ x.n = y.n ∧ spW W x = spW W2 y ∧ CuQ W2 y
theorem TwR.chk {W W2 : World} {x y : Cu} (h : TwR W W2 x y) : chkF (spW W) x = chkF (spW W2) y := by
  obtain ⟨⟨h1, h2, h3, h4⟩, ⟨h5, h6⟩, h7, h8, _, h9, _⟩ := h
  unfold chkF
  rw [h1, h2, h3, h4, h5, h6, h7, h8, h9]
theorem TwR.keep {W W2 W3 : World} {x y : Cu} (h : TwR W W2 x y) (b : Below W2.heap.size W2 W3) : TwR W W3 x y :=
  ⟨h.1, h.2.1, h.2.2.1, h.2.2.2.1, h.2.2.2.2.1, h.2.2.2.2.2.1.trans (spW_keep h.2.2.2.2.2.2 b).symm, h.2.2.2.2.2.2.keep b⟩
theorem badC_tw (f g : Cu → Int) : ∀ (L M : List Cu) (i : Nat), L.length = M.length → (∀ (j : Nat) (x y : Cu), L[j]? = some x → M[j]? = some y → f x = g y) → badC f i L = badC g i M
  | [], [], _, _, _ => rfl
  | [], _ :: _, _, h, _ => by simp at h
  | _ :: _, [], _, h, _ => by simp at h
  | x :: L, y :: M, i, h, hr => by
    unfold badC
    rw [hr 0 x y rfl rfl, badC_tw f g L M (i + 1) (by simpa using h) (fun j a b ha hb => hr (j + 1) a b (by simpa using ha) (by simpa using hb))]
theorem cmpC_tw {x y x2 y2 : Cu} (h : x.a = y.a ∧ x.b = y.b ∧ x.c = y.c ∧ x.d = y.d) (h2 : x2.a = y2.a ∧ x2.b = y2.b ∧ x2.c = y2.c ∧ x2.d = y2.d) : cmpC x x2 = cmpC y y2 := by
  unfold cmpC
  rw [h.1, h.2.1, h.2.2.1, h.2.2.2, h2.1, h2.2.1, h2.2.2.1, h2.2.2.2]
theorem disC_tw : ∀ (L M : List Cu) (i : Nat), L.length = M.length → (∀ (j : Nat) (x y : Cu), L[j]? = some x → M[j]? = some y → x.a = y.a ∧ x.b = y.b ∧ x.c = y.c ∧ x.d = y.d) → disC i L = disC i M
  | [], [], _, _, _ => rfl
  | [], _ :: _, _, h, _ => by simp at h
  | _ :: _, [], _, h, _ => by simp at h
  | [_], [_], _, _, _ => rfl
  | [_], _ :: _ :: _, _, h, _ => by simp at h
  | _ :: _ :: _, [_], _, h, _ => by simp at h
  | x :: x2 :: L, y :: y2 :: M, i, h, hr => by
    unfold disC
    rw [cmpC_tw (hr 0 x y rfl rfl) (hr 1 x2 y2 rfl rfl), disC_tw (x2 :: L) (y2 :: M) (i + 1) (by simpa using h) (fun j a b ha hb => hr (j + 1) a b (by simpa using ha) (by simpa using hb))]
theorem docC_tw {W W2 : World} {L M : List Cu} (hl : L.length = M.length) (h : ∀ (j : Nat) (x y : Cu), L[j]? = some x → M[j]? = some y → TwR W W2 x y) : docC (chkF (spW W)) L = docC (chkF (spW W2)) M := by
  unfold docC
  rw [hl, badC_tw _ _ L M 0 hl (fun j x y hx hy => (h j x y hx hy).chk), disC_tw L M 0 hl (fun j x y hx hy => (h j x y hx hy).1)]
theorem badC_at (f : Cu → Int) : ∀ (L : List Cu) (i : Nat) (p : Nat × Int), badC f i L = some p → i ≤ p.1 ∧ p.1 < i + L.length ∧ ∃ x ∈ L, p.2 = f x ∧ ¬ f x = 0
  | [], _, _, h => by cases h
  | x :: L, i, p, h => by
    unfold badC at h
    split at h
    · obtain ⟨h1, h2, y, hy, h3⟩ := badC_at f L (i + 1) p h
      exact ⟨by omega, by simp; omega, y, List.mem_cons_of_mem _ hy, h3⟩
    · cases h
      rename_i h0
      exact ⟨Nat.le_refl _, by simp, x, List.mem_cons_self, rfl, h0⟩
theorem disC_at : ∀ (L : List Cu) (i : Nat) (p : Nat × Int), disC i L = some p → p.1 < i + L.length ∧ p.2 = 33
  | [], _, _, h => by cases h
  | [_], _, _, h => by cases h
  | x :: y :: L, i, p, h => by
    unfold disC at h
    split at h
    · cases h
      exact ⟨by simp, rfl⟩
    · obtain ⟨h1, h2⟩ := disC_at (y :: L) (i + 1) p h
      exact ⟨by simp at h1 ⊢; omega, h2⟩
end Go.Proofs.YtiebmglbnlhdpaaGreatDoor

/- A text with spans that is handed in, opened (chapter 7). -/
namespace Go.Proofs.YtiebmglbnlhdpaaGreatDoor
open Go.ChangeShapes Go.WideShapes Go.ChangeAt Go.RowKit Go.Joins

instance : Inhabited Sp := ⟨⟨0, 0, 0, 0⟩⟩
theorem cellsTx : Tryz.prog.cellsOf 41 = 2 := by kernel_rfl
theorem cellsSp : Tryz.prog.cellsOf 151 = 4 := by kernel_rfl
theorem bytesSp : Tryz.prog.bytesOf 151 = 32 := by kernel_rfl
theorem addrS_zero (a : Addr) : a.add 0 = a := by unfold Addr.add; rw [if_pos rfl]
theorem addrS_succ (a : Addr) (j : Nat) : a.add (j + 1) = ⟨a.block, a.off + (j + 1), none⟩ := by unfold Addr.add; rw [if_neg (by omega)]
set_option maxRecDepth 100000 in
theorem open_sp {H : Type} {enc : TypeId × Value → H} {W : World} {base : Nat} {spare : Nat → Bool} {held : Bool} {fuel : Nat} {v : Value} {x : DataW H × List MemPlace}
    (h : DataW.trod enc Tryz.prog W base spare held fuel 39 [v] = some x) :
    ∃ (D : List Sp) (o : Option Addr) (cap : Nat), v = .slice o D.length cap ∧ (D.length ≤ cap ∧ cap ≤ maxLen) ∧ (o = none → D = [] ∧ cap = 0) ∧ SpO W o D ∧
      ((x.1 = .nil ∧ D = []) ∨ ∃ el sp, x.1 = .slice el sp ∧ el.length = D.length) := by
  rcases Deep.open_slice Tryz.underlying39 h with ⟨hcs, hx⟩ | ⟨a, len, cap, m, n, E, Pl, hcs, hb, hl, hm, hmm, hx, hel⟩
  · simp at hcs
    subst hcs
    exact ⟨[], none, 0, rfl, ⟨by simp, by decide⟩, fun _ => ⟨rfl, rfl⟩, SpO.nil W none, .inl ⟨by rw [hx], rfl⟩⟩
  · simp at hcs
    subst hcs
    have hlm : len ≤ m := by rw [hmm]; split <;> omega
    have key : ∀ i, i < len → ∃ q : Sp, a.block < W.heap.size ∧
        W.cell? (a.add (i * 4)) = some (.int .i64 q.fr) ∧ W.cell? ⟨(a.add (i * 4)).block, (a.add (i * 4)).off + 1, none⟩ = some (.int .i64 q.tt) ∧ W.cell? ⟨(a.add (i * 4)).block, (a.add (i * 4)).off + 2, none⟩ = some (.int .i64 q.kd) ∧ W.cell? ⟨(a.add (i * 4)).block, (a.add (i * 4)).off + 3, none⟩ = some (.int .i64 q.vl) := by
      intro i hi
      obtain ⟨cs', h1, h2⟩ := hel i (by omega)
      rw [cellsSp] at h1
      have hbl := World.cells?_block h1 (by decide)
      rw [addrS_block] at hbl
      obtain ⟨_, hlen, hcell⟩ := World.cells?_some h1
      match cs', hlen with
      | [v0, v1, v2, v3], _ =>
        obtain ⟨y0, y1, y2, y3, k, _, _, t0, t1, t2, t3⟩ := trod_struct4 Tryz.underlying151 h2
        obtain ⟨k0, a0, _, w0⟩ := DataW.trod_int Tryz.underlying3 t0
        obtain ⟨k1, a1, _, w1⟩ := DataW.trod_int Tryz.underlying3 t1
        obtain ⟨k2, a2, _, w2⟩ := DataW.trod_int Tryz.underlying3 t2
        obtain ⟨k3, a3, _, w3⟩ := DataW.trod_int Tryz.underlying3 t3
        have c3 : Tryz.prog.cellsOf 3 = 1 := by kernel_rfl
        simp [c3] at a0 a1 a2 a3
        subst a0 a1 a2 a3
        have e0 := hcell 0 (by omega)
        have e1 := hcell 1 (by omega)
        have e2 := hcell 2 (by omega)
        have e3 := hcell 3 (by omega)
        rw [addrS_zero] at e0
        rw [addrS_succ] at e1 e2 e3
        exact ⟨⟨k0, k1, k2, k3⟩, hbl, e0, e1, e2, e3⟩
    obtain ⟨q, hq⟩ := Deep.choose_lt key
    refine ⟨(List.range len).map q, some a, cap, by simp, ⟨by simpa using hl, hm⟩, (fun e => nomatch e), fun i r hr => ?_, .inr ⟨_, _, by rw [hx], by simp⟩⟩
    have hi : i < len := by
      have := (List.getElem?_eq_some_iff.1 hr).1
      simpa using this
    have er : r = q i := by
      rw [List.getElem?_map, List.getElem?_range hi] at hr
      simpa using hr.symm
    rw [er]
    exact ⟨a, rfl, hq i hi⟩
set_option maxRecDepth 100000 in
theorem open_text {H : Type} {enc : TypeId × Value → H} {W : World} {r : Reach} {b0 base : Nat} {spare : Nat → Bool} {held : Bool} {v : Value} {d : DataW H} {p : List MemPlace}
    (hv : Value.okWide Tryz.prog W r b0 41 v) (h : DataW.Trod enc Tryz.prog W base spare held 41 v d p)
    (hsz : (DataW.weights Tryz.prog 41 d).all (· ≤ reachBytes) = true) :
    ∃ (s : ByteArray) (D : List Sp) (o : Option Addr) (cap : Nat), v = .agg #[.string s, .slice o D.length cap] ∧ (D.length ≤ cap ∧ cap ≤ maxLen) ∧ (o = none → D = [] ∧ cap = 0) ∧ SpO W o D ∧ s.size ≤ 140737488355328 ∧ D.length ≤ 4398046510976 := by
  obtain ⟨c0, c1, y0, y1, m, rfl, rfl, rfl, hy0, hy1⟩ := open_agg2 Tryz.underlying41 (by kernel_rfl) cellsTx hv h
  obtain ⟨s, e0, rfl, _⟩ := DataW.trod_string Tryz.underlying9 hy0
  simp at e0
  subst e0
  obtain ⟨D, o, cap, rfl, hc, hn, hR, hd⟩ := open_sp hy1
  have hu : Tryz.prog.underlying 41 = _ := Tryz.underlying41
  unfold DataW.weights at hsz
  rw [hu] at hsz
  simp only [List.map_cons, List.map_nil, DataW.weightsEach, List.all_append, Bool.and_eq_true, List.append_nil, reachBytes] at hsz
  obtain ⟨hs0, hs1⟩ := hsz
  refine ⟨s, D, o, cap, rfl, hc, hn, hR, ?_, ?_⟩
  · simp only [DataW.weights, List.all_cons, Bool.and_eq_true] at hs0
    have h1 := of_decide_eq_true (by first | exact hs0 | exact hs0.1 : decide _ = true)
    rw [Lib.size_eq]
    omega
  · rcases hd with ⟨_, rfl⟩ | ⟨el, sp, e, hl⟩
    · simp
    · rw [e] at hs1
      unfold DataW.weights at hs1
      have hv2 : Tryz.prog.underlying 39 = _ := Tryz.underlying39
      rw [hv2] at hs1
      simp only [List.all_cons, Bool.and_eq_true, bytesSp] at hs1
      have h1 := of_decide_eq_true hs1.1
      omega
end Go.Proofs.YtiebmglbnlhdpaaGreatDoor

/- A document that is handed in, opened: its cues, their texts' spans. -/
namespace Go.Proofs.YtiebmglbnlhdpaaGreatDoor
open Go.ChangeShapes Go.WideShapes Go.ChangeAt Go.RowKit Go.Joins

theorem dc_i64 {n : Int} (h : (Lit.int .i64 n).wf = true) : I64 n := (Lit.wf_int_iff .i64 n).1 h
theorem dc_cellsRt : Tryz.prog.cellsOf 43 = 2 := by kernel_rfl
theorem dc_cellsCue : Tryz.prog.cellsOf 52 = 9 := by kernel_rfl
theorem dc_cellsDoc : Tryz.prog.cellsOf 24 = 1 := by kernel_rfl
theorem dc_cells64 : Tryz.prog.cellsOf 2 = 1 := by kernel_rfl
theorem dc_cellsI : Tryz.prog.cellsOf 3 = 1 := by kernel_rfl
theorem dc_cellsS : Tryz.prog.cellsOf 9 = 1 := by kernel_rfl
theorem dc_cellsSl : Tryz.prog.cellsOf 39 = 1 := by kernel_rfl
theorem dc_cellsCs : Tryz.prog.cellsOf 22 = 1 := by kernel_rfl
theorem dc_array9 {α : Type} {cs : Array α} (h : cs.size = 9) : ∃ c0 c1 c2 c3 c4 c5 c6 c7 c8, cs = #[c0, c1, c2, c3, c4, c5, c6, c7, c8] := by
  obtain ⟨l⟩ := cs
  match l, h with
  | [c0, c1, c2, c3, c4, c5, c6, c7, c8], _ => exact ⟨c0, c1, c2, c3, c4, c5, c6, c7, c8, rfl⟩
theorem dc_rt {H : Type} {enc : TypeId × Value → H} {W : World} {base : Nat} {spare : Nat → Bool} {held : Bool} {m : Nat} {a b : Value} {x : DataW H × List MemPlace}
    (h : DataW.trod enc Tryz.prog W base spare held m 43 [a, b] = some x) : ∃ r : Rt, a = .int .i64 r.N ∧ b = .int .i64 r.D ∧ RtIn r := by
  obtain ⟨y0, y1, k, _, _, t0, t1⟩ := trod_struct2 Tryz.underlying43 h
  obtain ⟨k0, a0, _, w0⟩ := DataW.trod_int Tryz.underlying2 t0
  obtain ⟨k1, a1, _, w1⟩ := DataW.trod_int Tryz.underlying2 t1
  simp [dc_cells64] at a0 a1
  exact ⟨⟨k0, k1⟩, a0, a1, ⟨dc_i64 w0, dc_i64 w1⟩⟩
theorem dc_six {H : Type} {enc : TypeId × Value → H} {P : Program} {w : World} {base : Nat} {spare : Nat → Bool} {held : Bool} {t : TypeId} {f0 f1 f2 f3 f4 f5 : Field} {fuel : Nat} {cs : List Value} {x : DataW H × List MemPlace} (ht : P.underlying t = some (.struct #[f0, f1, f2, f3, f4, f5])) (h : DataW.trod enc P w base spare held fuel t cs = some x) :
    ∃ y0 y1 y2 y3 y4 y5 n, x.1 = .agg [y0.1, y1.1, y2.1, y3.1, y4.1, y5.1] ∧ DataW.trod enc P w base spare held n f0.type ((cs.drop f0.offset).take (P.cellsOf f0.type)) = some y0 ∧ DataW.trod enc P w base spare held n f1.type ((cs.drop f1.offset).take (P.cellsOf f1.type)) = some y1 ∧
      DataW.trod enc P w base spare held n f2.type ((cs.drop f2.offset).take (P.cellsOf f2.type)) = some y2 ∧ DataW.trod enc P w base spare held n f3.type ((cs.drop f3.offset).take (P.cellsOf f3.type)) = some y3 ∧
      DataW.trod enc P w base spare held n f4.type ((cs.drop f4.offset).take (P.cellsOf f4.type)) = some y4 ∧ DataW.trod enc P w base spare held n f5.type ((cs.drop f5.offset).take (P.cellsOf f5.type)) = some y5 := by
  obtain ⟨xs, n, _, rfl, hl, hlen, hf⟩ := DataW.trod_struct ht h
  match xs, hlen with
  | [y0, y1, y2, y3, y4, y5], _ => exact ⟨y0, y1, y2, y3, y4, y5, n, by simp, by simpa using hf 0 f0 rfl, by simpa using hf 1 f1 rfl, by simpa using hf 2 f2 rfl, by simpa using hf 3 f3 rfl, by simpa using hf 4 f4 rfl, by simpa using hf 5 f5 rfl⟩
theorem dc_all {H : Type} {P : Program} {e : TypeId} : ∀ {l : List (DataW H)}, (DataW.weightsAll P e l).all (· ≤ reachBytes) = true → ∀ d ∈ l, (d.weights P e).all (· ≤ reachBytes) = true
  | [], _, _, hd => by simp at hd
  | x :: r, h, d, hd => by
    unfold DataW.weightsAll at h
    rw [List.all_append, Bool.and_eq_true] at h
    rcases List.mem_cons.1 hd with rfl | hd
    · exact h.1
    · exact dc_all h.2 d hd
set_option maxRecDepth 100000 in
theorem dc_text {H : Type} {enc : TypeId × Value → H} {W : World} {base : Nat} {spare : Nat → Bool} {held : Bool} {fuel : Nat} {a b : Value} {x : DataW H × List MemPlace}
    (h : DataW.trod enc Tryz.prog W base spare held fuel 41 [a, b] = some x) (hsz : (DataW.weights Tryz.prog 41 x.1).all (· ≤ reachBytes) = true) :
    ∃ (s : ByteArray) (D : List Sp) (o : Option Addr) (cap : Nat), a = .string s ∧ b = .slice o D.length cap ∧ (D.length ≤ cap ∧ cap ≤ maxLen) ∧ (o = none → D = [] ∧ cap = 0) ∧ SpO W o D ∧ s.size ≤ 140737488355328 ∧ D.length ≤ 4398046510976 := by
  obtain ⟨z0, z1, k, hx, _, t0, t1⟩ := trod_struct2 Tryz.underlying41 h
  simp [dc_cellsS, dc_cellsSl] at t0 t1
  obtain ⟨s, a5, e5, _⟩ := DataW.trod_string Tryz.underlying9 t0
  obtain ⟨D, o, cap, a6, hc, hn, hR, hd⟩ := open_sp t1
  simp at a5
  subst a5 a6 e5
  rw [hx] at hsz
  have hu : Tryz.prog.underlying 41 = _ := Tryz.underlying41
  unfold DataW.weights at hsz
  rw [hu] at hsz
  simp only [List.map_cons, List.map_nil, DataW.weightsEach, List.all_append, Bool.and_eq_true, List.append_nil, reachBytes] at hsz
  obtain ⟨hs0, hs1⟩ := hsz
  refine ⟨s, D, o, cap, rfl, rfl, hc, hn, hR, ?_, ?_⟩
  · simp only [DataW.weights, List.all_cons, Bool.and_eq_true] at hs0
    have h1 := of_decide_eq_true (by first | exact hs0 | exact hs0.1 : decide _ = true)
    rw [Lib.size_eq]
    omega
  · rcases hd with ⟨_, rfl⟩ | ⟨el, sp, e, hl⟩
    · simp
    · rw [e] at hs1
      unfold DataW.weights at hs1
      have hv2 : Tryz.prog.underlying 39 = _ := Tryz.underlying39
      rw [hv2] at hs1
      simp only [List.all_cons, Bool.and_eq_true, bytesSp] at hs1
      have h1 := of_decide_eq_true hs1.1
      omega
set_option maxRecDepth 100000 in
theorem dc_cue {H : Type} {enc : TypeId × Value → H} {W : World} {base : Nat} {spare : Nat → Bool} {held : Bool} {fuel : Nat} {c0 c1 c2 c3 c4 c5 c6 c7 c8 : Value} {x : DataW H × List MemPlace}
    (h : DataW.trod enc Tryz.prog W base spare held fuel 52 [c0, c1, c2, c3, c4, c5, c6, c7, c8] = some x) (hsz : (DataW.weights Tryz.prog 52 x.1).all (· ≤ reachBytes) = true) :
    ∃ q : Cu, [c0, c1, c2, c3, c4, c5, c6, c7, c8] = q.cells.toList ∧ CuQ W q := by
  obtain ⟨y0, y1, y2, y3, y4, y5, n, hx, h0, h1, h2, h3, h4, h5⟩ := dc_six Tryz.underlying52 h
  simp [dc_cellsRt, dc_cellsI, dc_cellsS, cellsTx] at h0 h1 h2 h3 h4 h5
  obtain ⟨S, rfl, rfl, hS⟩ := dc_rt h0
  obtain ⟨E, rfl, rfl, hE⟩ := dc_rt h1
  obtain ⟨k2, a2, _, w2⟩ := DataW.trod_int Tryz.underlying3 h2
  obtain ⟨k3, a3, _, w3⟩ := DataW.trod_int Tryz.underlying3 h3
  obtain ⟨nm, a4, _, _⟩ := DataW.trod_string Tryz.underlying9 h4
  rw [hx] at hsz
  have hu : Tryz.prog.underlying 52 = _ := Tryz.underlying52
  unfold DataW.weights at hsz
  rw [hu] at hsz
  simp only [List.map_cons, List.map_nil, DataW.weightsEach, List.all_append, Bool.and_eq_true, List.append_nil] at hsz
  obtain ⟨s, D, o, cap, rfl, rfl, hc, hn, hR, hs, hl⟩ := dc_text h5 (by first | exact hsz.2.2.2.2.2 | exact hsz.2.2.2.2.2.1)
  simp at a2 a3 a4
  subst a2 a3 a4
  exact ⟨⟨S.N, S.D, E.N, E.D, k2, k3, nm, s, o, D.length, cap⟩, rfl, D, hS, hE, hs, ⟨rfl, hl⟩, hc, hn, hR⟩
instance : Inhabited Cu := ⟨⟨0, 0, 0, 0, 0, 0, ⟨#[]⟩, ⟨#[]⟩, none, 0, 0⟩⟩
set_option maxRecDepth 100000 in
theorem dc_cues {H : Type} {enc : TypeId × Value → H} {W : World} {base : Nat} {spare : Nat → Bool} {held : Bool} {fuel : Nat} {v : Value} {x : DataW H × List MemPlace}
    (h : DataW.trod enc Tryz.prog W base spare held fuel 22 [v] = some x) (hsz : (DataW.weights Tryz.prog 22 x.1).all (· ≤ reachBytes) = true) :
    ∃ (L : List Cu) (o : Option Addr) (cap : Nat), v = .slice o L.length cap ∧ (L.length ≤ cap ∧ cap ≤ maxLen) ∧ (o = none → L = [] ∧ cap = 0) ∧ CuO W o L ∧ ∀ q ∈ L, CuQ W q := by
  rcases Deep.open_slice Tryz.underlying22 h with ⟨hcs, hx⟩ | ⟨a, len, cap, m, n, E, Pl, hcs, hb, hl, hm, hmm, hx, hel⟩
  · simp at hcs
    subst hcs
    exact ⟨[], none, 0, rfl, ⟨by simp, by decide⟩, fun _ => ⟨rfl, rfl⟩, fun i p hp => by simp at hp, fun q hq => by simp at hq⟩
  · simp at hcs
    subst hcs
    have hlm : len ≤ m := by rw [hmm]; split <;> omega
    rw [hx] at hsz
    unfold DataW.weights at hsz
    have hu : Tryz.prog.underlying 22 = _ := Tryz.underlying22
    rw [hu] at hsz
    simp only [List.all_cons, List.all_append, Bool.and_eq_true] at hsz
    have hall := dc_all hsz.2.1
    have key : ∀ i, i < len → ∃ x : Cu, CuQ W x ∧ a.block < W.heap.size ∧
        (W.cell? (a.add (i * 9)) = some (.int .i64 x.a) ∧ W.cell? ⟨(a.add (i * 9)).block, (a.add (i * 9)).off + 1, none⟩ = some (.int .i64 x.b) ∧ W.cell? ⟨(a.add (i * 9)).block, (a.add (i * 9)).off + 2, none⟩ = some (.int .i64 x.c) ∧ W.cell? ⟨(a.add (i * 9)).block, (a.add (i * 9)).off + 3, none⟩ = some (.int .i64 x.d)) ∧
        (W.cell? ⟨(a.add (i * 9)).block, (a.add (i * 9)).off + 4, none⟩ = some (.int .i64 x.la) ∧ W.cell? ⟨(a.add (i * 9)).block, (a.add (i * 9)).off + 5, none⟩ = some (.int .i64 x.sd)) ∧
        (W.cell? ⟨(a.add (i * 9)).block, (a.add (i * 9)).off + 6, none⟩ = some (.string x.nm) ∧ W.cell? ⟨(a.add (i * 9)).block, (a.add (i * 9)).off + 7, none⟩ = some (.string x.s) ∧ W.cell? ⟨(a.add (i * 9)).block, (a.add (i * 9)).off + 8, none⟩ = some (.slice x.o x.n x.k)) := by
      intro i hi
      obtain ⟨cs', h1, h2⟩ := hel i (by omega)
      rw [dc_cellsCue] at h1
      have hbl := World.cells?_block h1 (by decide)
      rw [addrS_block] at hbl
      obtain ⟨_, hlen, hcell⟩ := World.cells?_some h1
      match cs', hlen with
      | [v0, v1, v2, v3, v4, v5, v6, v7, v8], _ =>
        obtain ⟨q, hq, hQ⟩ := dc_cue h2 (hall (E i) (List.mem_map.2 ⟨i, List.mem_range.2 hi, rfl⟩))
        have e0 := hcell 0 (by omega)
        have e1 := hcell 1 (by omega)
        have e2 := hcell 2 (by omega)
        have e3 := hcell 3 (by omega)
        have e4 := hcell 4 (by omega)
        have e5 := hcell 5 (by omega)
        have e6 := hcell 6 (by omega)
        have e7 := hcell 7 (by omega)
        have e8 := hcell 8 (by omega)
        rw [addrS_zero] at e0
        rw [addrS_succ] at e1 e2 e3 e4 e5 e6 e7 e8
        unfold Cu.cells at hq
        simp only [List.cons.injEq, and_true] at hq
        obtain ⟨rfl, rfl, rfl, rfl, rfl, rfl, rfl, rfl, rfl⟩ := hq
        exact ⟨q, hQ, hbl, ⟨e0, e1, e2, e3⟩, ⟨e4, e5⟩, ⟨e6, e7, e8⟩⟩
    obtain ⟨q, hq⟩ := Deep.choose_lt key
    refine ⟨(List.range len).map q, some a, cap, by simp, ⟨by simpa using hl, hm⟩, (fun e => nomatch e), fun i r hr => ?_, fun r hr => ?_⟩
    · have hi : i < len := by
        have := (List.getElem?_eq_some_iff.1 hr).1
        simpa using this
      have er : r = q i := by
        rw [List.getElem?_map, List.getElem?_range hi] at hr
        simpa using hr.symm
      rw [er]
      exact ⟨a, rfl, (hq i hi).2⟩
    · obtain ⟨i, hi, rfl⟩ := List.mem_map.1 hr
      exact (hq i (List.mem_range.1 hi)).1
set_option maxRecDepth 100000 in
theorem open_doc {H : Type} {enc : TypeId × Value → H} {W : World} {r : Reach} {b0 base : Nat} {spare : Nat → Bool} {held : Bool} {v : Value} {d : DataW H} {p : List MemPlace}
    (hv : Value.okWide Tryz.prog W r b0 24 v) (h : DataW.Trod enc Tryz.prog W base spare held 24 v d p)
    (hsz : (DataW.weights Tryz.prog 24 d).all (· ≤ reachBytes) = true) :
    ∃ (L : List Cu) (o : Option Addr) (cap : Nat), v = .agg #[.slice o L.length cap] ∧ (L.length ≤ cap ∧ cap ≤ maxLen) ∧ (o = none → L = [] ∧ cap = 0) ∧ CuO W o L ∧ ∀ q ∈ L, CuQ W q := by
  obtain ⟨cs, rfl, hn⟩ := okWide_struct Tryz.underlying24 hv
  obtain ⟨c0, rfl⟩ : ∃ c0, cs = #[c0] := by
    obtain ⟨l⟩ := cs
    match l, hn.trans dc_cellsDoc with
    | [c0], _ => exact ⟨c0, rfl⟩
  obtain ⟨fuel, hf⟩ := h
  obtain ⟨y0, n, hx, _, h0⟩ := trod_struct1 Tryz.underlying24 hf
  simp [Value.cells, dc_cellsCs] at h0
  simp only [Prod.mk.injEq] at hx
  rw [hx.1] at hsz
  have hu : Tryz.prog.underlying 24 = _ := Tryz.underlying24
  unfold DataW.weights at hsz
  rw [hu] at hsz
  simp only [List.map_cons, List.map_nil, DataW.weightsEach, List.append_nil] at hsz
  obtain ⟨L, o, cap, rfl, hc, hn, hR, hQ⟩ := dc_cues h0 hsz
  exact ⟨L, o, cap, rfl, hc, hn, hR, hQ⟩
end Go.Proofs.YtiebmglbnlhdpaaGreatDoor
