/- Package ratio's Parse, at every text. -/
import Derived.Test.YtmofjkfghidlnaaDoorRatP3
import Derived.Test.YtmofjkfghidlnaaDoorRatP4
import Derived.Test.YtmofjkfghidlnaaDoorRatP5
import Derived.Test.YtmofjkfghidlnaaDoorRatP6
import Derived.Test.YtmofjkfghidlnaaDoorRatP7
import Derived.Test.YtmofjkfghidlnaaDoorRatQ
import Derived.Test.YtmofjkfghidlnaaDoorRatQ2
import Derived.Test.YtmofjkfghidlnaaDoorBackN
namespace Go.Proofs.YtmofjkfghidlnaaDoor
open Go.RowKit Go.Shelf

/-- A text without its sign, taken apart: ahead, below a '/', behind a '.', and whether it is of a ratio's form. -/
def readS (t : List UInt8) : List UInt8 × List UInt8 × List UInt8 × Bool :=
  if (Lib.cut t [47]).2.2 = true then ((Lib.cut t [47]).1, (Lib.cut t [47]).2.1, [], numB (Lib.cut t [47]).1 && numB (Lib.cut t [47]).2.1)
  else if (Lib.cut t [46]).2.2 = true then ((Lib.cut t [46]).1, [], (Lib.cut t [46]).2.1, numB (Lib.cut t [46]).1 && digB (Lib.cut t [46]).2.1 && decide ((Lib.cut t [46]).2.1.length ≤ 9))
  else (t, [], [], numB t)
def parseS (below : Bool) (t : List UInt8) : Rt × Int :=
  if (readS t).2.2.2 = false then bad 13
  else if below = true ∧ ((readS t).1 ++ (readS t).2.2.1).all ([48].contains ·) = true then bad 13
  else if 19 < (readS t).1.length ∨ 19 < (readS t).2.1.length then bad 12
  else if (readS t).2.1 = [48] then bad 11
  else low (Rat.divInt (if below = true then -(topN (readS t).1 (readS t).2.2.1 : Int) else topN (readS t).1 (readS t).2.2.1) (botN (readS t).2.1 (readS t).2.2.1))

theorem cut_miss (t : List UInt8) (c : UInt8) (h : ¬ (Lib.cut t [c]).2.2 = true) : Lib.cut t [c] = (t, [], false) := by
  unfold Lib.cut at h ⊢
  split
  · rename_i h1
    rw [if_pos h1] at h
    simp at h
  · rfl
theorem cut_short (t : List UInt8) (c : UInt8) : (Lib.cut t [c]).1.length ≤ t.length ∧ (Lib.cut t [c]).2.1.length ≤ t.length := by
  unfold Lib.cut
  split
  · constructor <;> simp <;> omega
  · simp
theorem read_any (l t : List UInt8) (below : Bool) (ht : t.length ≤ 9223372036854775807)
    (HP : ∀ w, Calls Tryd.prog 99 #[.string (bs l), .string ⟨#[45]⟩] w fun e w' => e = .returned (.tuple #[.string (bs t), .bool below]) ∧ w' = w) (w : World) :
    Calls Tryd.prog 79 #[.string (bs l)] w fun e w' => e = .returned (.tuple #[.agg #[.bool below, .string (bs (readS t).1), .string (bs (readS t).2.1), .string (bs (readS t).2.2.1)], .bool (readS t).2.2.2]) ∧ Below w.heap.size w w' := by
  have HC := cut_any t ht 47
  have HD := cut_any t ht 46
  have s1 := cut_short t 47
  have s2 := cut_short t 46
  unfold readS
  by_cases h1 : (Lib.cut t [47]).2.2 = true
  · rw [if_pos h1]
    rw [h1] at HC
    exact read_over l t _ _ below _ _ HP HC (isNumber_any _ (by omega)) (fun _ => isNumber_any _ (by omega)) w
  · rw [if_neg h1]
    rw [cut_miss t 47 h1] at HC
    by_cases h2 : (Lib.cut t [46]).2.2 = true
    · rw [if_pos h2]
      rw [h2] at HD
      have HN := isNumber_any (Lib.cut t [46]).1 (by omega)
      have HA := areDigits_any (Lib.cut t [46]).2.1 (by omega)
      cases n1 : numB (Lib.cut t [46]).1
      · rw [n1] at HN
        exact read_point1 l t _ _ below HP HC HD HN w
      · rw [n1] at HN
        cases n2 : digB (Lib.cut t [46]).2.1
        · rw [n2] at HA
          exact read_point2 l t _ _ below HP HC HD HN HA w
        · rw [n2] at HA
          by_cases h9 : (Lib.cut t [46]).2.1.length ≤ 9
          · rw [decide_eq_true h9]
            exact read_point3 l t _ _ below HP HC HD HN HA (by omega) w
          · rw [decide_eq_false h9]
            exact read_point4 l t _ _ below HP HC HD HN HA (by omega) w
    · rw [if_neg h2]
      rw [cut_miss t 46 h2] at HD
      exact read_plain l t t [] below _ HP HC HD (isNumber_any t ht) w
theorem fold_ge : ∀ (l : List UInt8) (n : Nat), n ≤ l.foldl (fun n c => n * 10 + (c.toNat - 48)) n
  | [], n => Nat.le_refl n
  | c :: t, n => by
    have := fold_ge t (n * 10 + (c.toNat - 48))
    simp only [List.foldl_cons]
    omega
theorem num_pos (l : List UInt8) (h : numB l = true) (h0 : ¬ l = [48]) : 0 < valN l := by
  unfold numB digB at h
  cases l with
  | nil => simp at h
  | cons c t =>
    simp only [Bool.and_eq_true, List.all_cons, Bool.or_eq_true, beq_iff_eq, List.head?_cons] at h
    obtain ⟨⟨_, hc, _⟩, hz⟩ := h
    have hx : 48 ≤ c.toNat ∧ c.toNat ≤ 57 := of_decide_eq_true hc
    have hne : c ≠ 48 := by
      rcases hz with hz | hz
      · exact absurd hz h0
      · intro e
        rw [e] at hz
        simp at hz
    have hn : c.toNat ≠ 48 := fun e => hne (UInt8.toNat_inj.1 e)
    have := fold_ge t (0 * 10 + (c.toNat - 48))
    unfold valN
    simp only [List.foldl_cons]
    omega
theorem num_dig {l : List UInt8} (h : numB l = true) : l.all isDig = true := by
  unfold numB digB at h
  simp only [Bool.and_eq_true] at h
  exact h.1.2
theorem readS_ok (t : List UInt8) (h : (readS t).2.2.2 = true) : (readS t).1.all isDig = true ∧ (readS t).2.1.all isDig = true ∧ (readS t).2.2.1.all isDig = true ∧ (readS t).2.2.1.length ≤ 9 ∧ (¬ (readS t).2.1 = [48] → (readS t).2.1 = [] ∨ 0 < valN (readS t).2.1) := by
  unfold readS at h ⊢
  split
  · rename_i h1
    rw [if_pos h1] at h
    simp only [Bool.and_eq_true] at h
    exact ⟨num_dig h.1, num_dig h.2, rfl, by simp, fun h0 => .inr (num_pos _ h.2 h0)⟩
  · rename_i h1
    rw [if_neg h1] at h
    split
    · rename_i h2
      rw [if_pos h2] at h
      simp only [Bool.and_eq_true, decide_eq_true_eq] at h
      have hd : (Lib.cut t [46]).2.1.all isDig = true := by
        have := h.1.2
        unfold digB at this
        simp only [Bool.and_eq_true] at this
        exact this.2
      exact ⟨num_dig h.1.1, rfl, hd, h.2, fun _ => .inl rfl⟩
    · rename_i h2
      rw [if_neg h2] at h
      exact ⟨num_dig h, rfl, rfl, by simp, fun _ => .inl rfl⟩
theorem val_le (l : List UInt8) (h : l.all isDig = true) : valN l < 10 ^ l.length := by
  have := valN_lt l h l.length (Nat.le_refl _)
  rwa [List.take_length] at this

theorem parse_any (l t : List UInt8) (below : Bool) (ht : t.length ≤ 4611686018427387903)
    (HP : ∀ w, Calls Tryd.prog 99 #[.string (bs l), .string ⟨#[45]⟩] w fun e w' => e = .returned (.tuple #[.string (bs t), .bool below]) ∧ w' = w) (w : World) :
    Calls Tryd.prog 47 #[.string (bs l)] w fun e w' => e = .returned (.tuple #[rtv (parseS below t).1, .int .i64 (parseS below t).2]) ∧ Below w.heap.size w w' := by
  have HR := read_any l t below (by omega) HP
  have hok := readS_ok t
  unfold parseS
  have len : (readS t).1.length + (readS t).2.2.1.length ≤ 9223372036854775807 := by
    have s1 := cut_short t 47
    have s2 := cut_short t 46
    unfold readS
    split
    · simp; omega
    · split
      · simp; omega
      · simp; omega
  generalize readS t = RR at *
  obtain ⟨wh, un, be, ok⟩ := RR
  simp only at HR hok len ⊢
  cases ok
  · rw [if_pos rfl]
    exact parse_bad l wh un be below HR w
  · rw [if_neg (by simp)]
    obtain ⟨dw, du, db, lb, hu0⟩ := hok rfl
    have HN := fun (b : Nat) (w : World) c1 c3 => nought_any b wh be (by simp; omega) w c1 c3
    obtain ⟨z, hz⟩ : ∃ z, (wh ++ be).all ([48].contains ·) = z := ⟨_, rfl⟩
    rw [hz] at HN
    have hz2 : ((wh ++ be).all ([48].contains ·) = true) ↔ z = true := by rw [hz]
    by_cases hn : below = true ∧ z = true
    · obtain ⟨rfl, rfl⟩ := hn
      rw [if_pos ⟨rfl, hz⟩]
      exact parse_nought l wh un be HR HN w
    · rw [if_neg (fun h => hn ⟨h.1, hz2.1 h.2⟩)]
      have hbz : below = true → z = false := fun h => by cases z; rfl; exact absurd ⟨h, rfl⟩ hn
      by_cases hw : 19 < wh.length
      · rw [if_pos (.inl hw)]
        cases below
        · exact parse_long1F l wh un be hw HR w
        · rw [hbz rfl] at HN
          exact parse_long1T l wh un be hw HR HN w
      · by_cases hu : 19 < un.length
        · rw [if_pos (.inr hu)]
          cases below
          · exact parse_long2F l wh un be (by omega) hu HR w
          · rw [hbz rfl] at HN
            exact parse_long2T l wh un be (by omega) hu HR HN w
        · rw [if_neg (by omega)]
          by_cases h0 : un = [48]
          · rw [if_pos h0]
            cases below
            · exact parse_zeroF l wh un be (by omega) h0 HR w
            · rw [hbz rfl] at HN
              exact parse_zeroT l wh un be (by omega) h0 HR HN w
          · rw [if_neg h0]
            have vw := val_le wh dw
            have vu := val_le un du
            have vb := val_le be db
            have p1 := pow10_le wh.length 19 (by omega)
            have p2 := pow10_le un.length 19 (by omega)
            have p3 := pow10_le be.length 9 lb
            have p0 : 0 < 10 ^ be.length := Nat.pow_pos (by omega)
            have tb : topN wh be < 10 ^ 19 * 10 ^ 9 := by
              unfold topN
              have : valN wh * 10 ^ be.length + 10 ^ be.length ≤ 10 ^ 19 * 10 ^ 9 := by
                have : (valN wh + 1) * 10 ^ be.length ≤ 10 ^ 19 * 10 ^ 9 := Nat.mul_le_mul (by omega) p3
                rw [Nat.add_mul, Nat.one_mul] at this
                exact this
              omega
            have bb : 0 < botN un be ∧ botN un be < 18446744073709551616 := by
              unfold botN
              rcases hu0 h0 with rfl | hv
              · simp
                omega
              · rw [if_neg (by intro e; rw [List.isEmpty_iff] at e; rw [e] at hv; simp [valN] at hv)]
                omega
            have HL := lowest_any (if below = true then -(topN wh be : Int) else topN wh be) (botN un be) (by unfold In128; split <;> omega) (by omega) (by omega)
            have HB := fun (b : Nat) (w : World) => bottom_any b un be du (by omega) lb w
            have HT := fun (b : Nat) (w : World) z c0 c1 c3 => top_any b below wh be dw db (by omega) lb w z c0 c1 c3
            cases below
            · exact parse_low l wh un be _ _ _ (by omega) (by omega) h0 HR HT HB HL w
            · rw [hbz rfl] at HN
              exact parse_neg l wh un be _ _ _ (by omega) (by omega) h0 HR HT HB HN HL w
end Go.Proofs.YtmofjkfghidlnaaDoor
