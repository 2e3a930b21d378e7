/- Package ratio: Parse of what Text writes. -/
import Derived.Test.YtmofjkfghidlnaaDoorBackM
import Derived.Test.YtmofjkfghidlnaaDoorBackN
import Derived.Test.YtmofjkfghidlnaaDoorRatP7
import Derived.Test.YtmofjkfghidlnaaDoorRatQ
namespace Go.Proofs.YtmofjkfghidlnaaDoor
open Go.RowKit Go.Shelf
open Go.Lib (decDigits)

theorem pre_not (l : List UInt8) (h : (45 : UInt8) ∉ l) : Lib.hasPrefix l [45] = false ∧ Lib.trimPrefix l [45] = l := by
  have e : Lib.hasPrefix l [45] = false := by
    unfold Lib.hasPrefix
    cases l with
    | nil => rfl
    | cons x t =>
      have hx : ((45 : UInt8) == x) = false := by
        rw [beq_eq_false_iff_ne]
        intro e
        exact h (by rw [e]; exact List.mem_cons_self)
      simp only [List.isPrefixOf, hx, Bool.false_and]
  refine ⟨e, ?_⟩
  unfold Lib.trimPrefix
  rw [e]
  rfl
theorem pre_at (l : List UInt8) : Lib.hasPrefix (45 :: l) [45] = true ∧ Lib.trimPrefix (45 :: l) [45] = l := by
  have e : Lib.hasPrefix (45 :: l) [45] = true := by simp [Lib.hasPrefix, List.isPrefixOf]
  refine ⟨e, ?_⟩
  unfold Lib.trimPrefix
  rw [e]
  rfl
/-- The digits that Text writes, without a sign. -/
def bare (u d : Nat) : List UInt8 := if d = 1 then decDigits u else decDigits u ++ 47 :: decDigits d
theorem bare_not (u d : Nat) : (45 : UInt8) ∉ bare u d := by
  unfold bare
  split
  · exact dd_not u 45 (by decide)
  · intro h
    rw [List.mem_append, List.mem_cons] at h
    rcases h with h | h | h
    · exact dd_not u 45 (by decide) h
    · exact absurd h (by decide)
    · exact dd_not d 45 (by decide) h
theorem dd_nought (u : Nat) (h0 : 0 < u) : (decDigits u ++ []).all ([48].contains ·) = false := by
  rw [List.append_nil]
  have := dd_head u h0
  cases h : decDigits u with
  | nil => exact absurd h (dd_ne u)
  | cons x t =>
    rw [h] at this
    have hx : ([48].contains x) = false := by
      have : x ≠ 48 := fun e => this (by rw [e]; rfl)
      simp [this]
    rw [List.all_cons, hx]
    rfl

theorem back_parse (l : List UInt8) (below : Bool) (u d : Nat) (hu : u ≤ 4611686018427387904) (hd : 1 ≤ d) (hd2 : d ≤ 2147483648) (hb : below = true → 0 < u)
    (HP : ∀ w, Calls Tryd.prog 99 #[.string (bs l), .string ⟨#[45]⟩] w fun e w' => e = .returned (.tuple #[.string (bs (bare u d)), .bool below]) ∧ w' = w) (w : World) :
    Calls Tryd.prog 47 #[.string (bs l)] w fun e w' => e = .returned (.tuple #[rtv (low (Rat.divInt (if below = true then -(u : Int) else u) d)).1, .int .i64 (low (Rat.divInt (if below = true then -(u : Int) else u) d)).2]) ∧ Below w.heap.size w w' := by
  have lu := dd_len 18 u (by omega)
  have ld := dd_len 18 d (by omega)
  have nu := dd_num u
  have nd := dd_num d
  have au := dd_all u
  have ad := dd_all d
  have vu := dd_val u
  have vd := dd_val d
  have HNu := isNumber_any (decDigits u) (by omega)
  have HNd := isNumber_any (decDigits d) (by omega)
  rw [nu] at HNu
  rw [nd] at HNd
  have hnd : ¬ decDigits d = [48] := fun e => by
    rw [e] at vd
    simp [valN] at vd
    omega
  obtain ⟨un, hun, hur, HR⟩ : ∃ un : List UInt8, (un.length ≤ 19 ∧ ¬ un = [48] ∧ un.all isDig = true) ∧ botN un [] = d ∧ ∀ w, Calls Tryd.prog 79 #[.string (bs l)] w fun e w' => e = .returned (.tuple #[.agg #[.bool below, .string (bs (decDigits u)), .string (bs un), .string (bs [])], .bool true]) ∧ Below w.heap.size w w' := by
    unfold bare at HP
    by_cases h1 : d = 1
    · rw [if_pos h1] at HP
      have HC := cut_any (decDigits u) (by omega) 47
      rw [cut_not _ _ (dd_not u 47 (by decide))] at HC
      have HD := cut_any (decDigits u) (by omega) 46
      rw [cut_not _ _ (dd_not u 46 (by decide))] at HD
      exact ⟨[], ⟨by simp, by simp, rfl⟩, by rw [h1]; rfl, read_plain l (decDigits u) (decDigits u) [] below true HP HC HD HNu⟩
    · rw [if_neg h1] at HP
      have HC := cut_any (decDigits u ++ 47 :: decDigits d) (by simp; omega) 47
      rw [cut_at _ _ _ (dd_not u 47 (by decide))] at HC
      refine ⟨decDigits d, ⟨ld, hnd, ad⟩, ?_, read_over l _ (decDigits u) (decDigits d) below true true HP HC HNu (fun _ => HNd)⟩
      unfold botN
      rw [if_neg (by simpa using dd_ne d), vd]
  have HB := fun (b : Nat) (w : World) => bottom_any b un [] hun.2.2 hun.1 (by simp) w
  rw [hur] at HB
  have et : topN (decDigits u) [] = u := by
    unfold topN
    rw [vu]
    show u * 1 + 0 = u
    omega
  have HL := lowest_any (if below = true then -(u : Int) else u) d (by unfold In128; split <;> omega) (by omega) (by omega)
  cases below
  · rw [if_neg (by simp)] at HL ⊢
    refine parse_low l (decDigits u) un [] (u : Int) d _ lu hun.1 hun.2.1 HR (fun b w z c0 c1 c3 => ?_) HB HL w
    have := top_any b false (decDigits u) [] au rfl lu (by simp) w z c0 c1 c3
    rw [et, if_neg (by simp)] at this
    exact this
  · rw [if_pos rfl] at HL ⊢
    refine parse_neg l (decDigits u) un [] (-(u : Int)) d _ lu hun.1 hun.2.1 HR (fun b w z c0 c1 c3 => ?_) HB (fun b w c1 c3 => ?_) HL w
    · have := top_any b true (decDigits u) [] au rfl lu (by simp) w z c0 c1 c3
      rw [et, if_pos rfl] at this
      exact this
    · have := nought_any b (decDigits u) [] (by simp; omega) w c1 c3
      rw [dd_nought u (hb rfl)] at this
      exact this
end Go.Proofs.YtmofjkfghidlnaaDoor
