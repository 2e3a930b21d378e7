/- What Parse reads, told by the run of digits ahead (as the reference does it). -/
import Derived.Test.YtmofjkfghidlnaaDoorRatQ3
import Derived.Test.YtmofjkfghidlnaaDoorRefD1
namespace Go.Proofs.YtmofjkfghidlnaaDoor
open Go.RowKit Go.Shelf

theorem cut_hit (t : List UInt8) (c : UInt8) (h : (Lib.cut t [c]).2.2 = true) : t = (Lib.cut t [c]).1 ++ c :: (Lib.cut t [c]).2.1 ∧ c ∉ (Lib.cut t [c]).1 := by
  rcases Lib.index_spec t [c] with ⟨h1, _⟩ | ⟨i, h1, h2, h3, h4⟩
  · unfold Lib.cut at h
    rw [h1] at h
    simp at h
  · unfold Lib.cut
    rw [h1, if_pos (by omega)]
    simp only [Int.toNat_natCast, List.length_cons, List.length_nil, Nat.zero_add]
    have occ : ∀ j, Lib.occAt t [c] j = true ↔ t[j]? = some c := by
      intro j
      unfold Lib.occAt
      rw [← List.head?_drop]
      cases t.drop j with
      | nil => simp
      | cons b m =>
        simp only [List.isPrefixOf_cons_cons, List.isPrefixOf_nil_left, Bool.and_true, beq_iff_eq, List.head?_cons, Option.some.injEq]
        exact eq_comm
    have hi := (occ i).1 h3
    have hil : i < t.length := by
      rcases Nat.lt_or_ge i t.length with h | h
      · exact h
      · rw [List.getElem?_eq_none h] at hi; cases hi
    constructor
    · conv => lhs; rw [← List.take_append_drop i t]
      rw [List.drop_eq_getElem_cons hil]
      rw [List.getElem?_eq_getElem hil] at hi
      rw [Option.some.inj hi]
    · intro hm
      obtain ⟨j, hj, e⟩ := List.mem_iff_getElem.1 hm
      rw [List.length_take] at hj
      rw [List.getElem_take] at e
      have := h4 j (by omega)
      rw [Bool.eq_false_iff] at this
      exact this ((occ j).2 (by rw [List.getElem?_eq_getElem (by omega), e]))
theorem app_uniq {c : UInt8} : ∀ {a a' b b' : List UInt8}, c ∉ a → c ∉ a' → a ++ c :: b = a' ++ c :: b' → a = a' ∧ b = b'
  | [], [], _, _, _, _, h => by simp at h; exact ⟨rfl, h⟩
  | [], x :: a', _, _, _, h2, h => by simp at h; exact absurd (by rw [h.1]; simp) h2
  | x :: a, [], _, _, h1, _, h => by simp at h; exact absurd (by rw [h.1]; simp) h1
  | x :: a, y :: a', b, b', h1, h2, h => by
    simp only [List.cons_append, List.cons.injEq] at h
    obtain ⟨e1, e2⟩ := app_uniq (a := a) (a' := a') (fun m => h1 (List.mem_cons_of_mem _ m)) (fun m => h2 (List.mem_cons_of_mem _ m)) h.2
    exact ⟨by rw [h.1, e1], e2⟩
theorem cut_gone (t : List UInt8) (c : UInt8) (h : c ∉ t) : Lib.cut t [c] = (t, [], false) := by
  apply cut_miss
  intro hc
  obtain ⟨e, _⟩ := cut_hit t c hc
  exact h (by rw [e]; simp)
theorem cut_atE (a b : List UInt8) (c : UInt8) (h : c ∉ a) : Lib.cut (a ++ c :: b) [c] = (a, b, true) := by
  by_cases hc : (Lib.cut (a ++ c :: b) [c]).2.2 = true
  · obtain ⟨e, n⟩ := cut_hit _ c hc
    obtain ⟨e1, e2⟩ := app_uniq h n e
    exact Prod.ext e1.symm (Prod.ext e2.symm hc)
  · have e := cut_miss _ c hc
    rcases Lib.index_spec (a ++ c :: b) [c] with ⟨_, h2⟩ | ⟨i, h1, _⟩
    · have := h2 a.length (by simp)
      unfold Lib.occAt at this
      rw [List.drop_left] at this
      simp at this
    · unfold Lib.cut at e
      rw [h1, if_pos (by omega)] at e
      simp at e
theorem run_all : ∀ t : List UInt8, (t.take (runN t)).all isDig = true
  | [] => rfl
  | c :: t => by
    unfold runN
    split
    · rename_i h
      rw [List.take_succ_cons, List.all_cons, h, run_all t]
      rfl
    · rfl
theorem run_le : ∀ t : List UInt8, runN t ≤ t.length
  | [] => Nat.le_refl _
  | c :: t => by
    unfold runN
    have := run_le t
    split
    · simp; omega
    · omega
theorem run_stop : ∀ (t : List UInt8) (c : UInt8) (m : List UInt8), t.drop (runN t) = c :: m → isDig c = false
  | [], c, m, h => by simp at h
  | x :: t, c, m, h => by
    unfold runN at h
    split at h
    · rw [List.drop_succ_cons] at h
      exact run_stop t c m h
    · rename_i hx
      rw [List.drop_zero] at h
      rw [← (List.cons.inj h).1]
      exact Bool.eq_false_iff.2 hx
theorem run_app : ∀ (a : List UInt8) (c : UInt8) (b : List UInt8), a.all isDig = true → isDig c = false → runN (a ++ c :: b) = a.length
  | [], c, b, _, h => by
    simp only [List.nil_append, List.length_nil]
    unfold runN
    rw [if_neg (by rw [h]; simp)]
  | x :: a, c, b, ha, h => by
    rw [List.all_cons, Bool.and_eq_true] at ha
    rw [List.cons_append]
    unfold runN
    rw [if_pos ha.1, run_app a c b ha.2 h, List.length_cons]
theorem dig_no {l : List UInt8} (h : l.all isDig = true) {c : UInt8} (hc : isDig c = false) : c ∉ l := by
  intro m
  have := List.all_eq_true.1 h c m
  rw [hc] at this
  cases this

theorem readS_plain (t : List UInt8) (h : t.drop (runN t) = []) : readS t = (t, [], [], numB t) := by
  have hd : t.all isDig = true := by
    have := run_all t
    rwa [List.take_of_length_le (List.drop_eq_nil_iff.1 h)] at this
  unfold readS
  rw [cut_gone t 47 (dig_no hd rfl), cut_gone t 46 (dig_no hd rfl)]
  simp
theorem readS_over (t m : List UInt8) (h : t.drop (runN t) = 47 :: m) : readS t = (t.take (runN t), m, [], numB (t.take (runN t)) && numB m) := by
  have hc : Lib.cut t [47] = (t.take (runN t), m, true) := by
    conv => lhs; rw [← List.take_append_drop (runN t) t, h]
    exact cut_atE _ _ _ (dig_no (run_all t) rfl)
  unfold readS
  rw [hc]
  simp
theorem run_split (t a b : List UInt8) (x c : UInt8) (m : List UInt8) (h : t.drop (runN t) = c :: m) (e : t = a ++ x :: b) (ha : a.all isDig = true) (hx : isDig x = false) : x = c ∧ b = m := by
  rw [e, run_app a x b ha hx, List.drop_left] at h
  exact ⟨(List.cons.inj h).1, (List.cons.inj h).2⟩
theorem num_no {l : List UInt8} (h : l.all isDig = false) : numB l = false := by
  unfold numB digB
  rw [h]
  simp
/-- Whatever is read has nothing but digits ahead of its mark. -/
theorem readS_mark (t : List UInt8) (c : UInt8) (m : List UInt8) (h : t.drop (runN t) = c :: m) (hc : c ≠ 47) (hx : c = 46 → digB m = false) : (readS t).2.2.2 = false := by
  have hs := run_stop t c m h
  unfold readS
  by_cases h1 : (Lib.cut t [47]).2.2 = true
  · rw [if_pos h1]
    obtain ⟨e, _⟩ := cut_hit t 47 h1
    rw [num_no (Bool.eq_false_iff.2 fun ha => hc (run_split t _ _ 47 c m h e ha rfl).1.symm)]
    rfl
  · rw [if_neg h1]
    by_cases h2 : (Lib.cut t [46]).2.2 = true
    · rw [if_pos h2]
      obtain ⟨e, _⟩ := cut_hit t 46 h2
      by_cases ha : (Lib.cut t [46]).1.all isDig = true
      · obtain ⟨e1, e2⟩ := run_split t _ _ 46 c m h e ha rfl
        rw [e2, hx e1.symm]
        simp
      · rw [num_no (Bool.eq_false_iff.2 ha)]
        rfl
    · rw [if_neg h2]
      refine num_no (Bool.eq_false_iff.2 fun ha => ?_)
      have hm : c ∈ t := List.mem_of_mem_drop (i := runN t) (by rw [h]; simp)
      exact dig_no ha hs hm
theorem readS_point (t m : List UInt8) (h : t.drop (runN t) = 46 :: m) (hm : digB m = true) : readS t = (t.take (runN t), [], m, numB (t.take (runN t)) && decide (m.length ≤ 9)) := by
  have hd : m.all isDig = true := by
    unfold digB at hm
    rw [Bool.and_eq_true] at hm
    exact hm.2
  have e : t = t.take (runN t) ++ 46 :: m := by
    conv => lhs; rw [← List.take_append_drop (runN t) t, h]
  have h47 : (47 : UInt8) ∉ t := by
    rw [e]
    simp only [List.mem_append, List.mem_cons, not_or]
    exact ⟨dig_no (run_all t) rfl, by decide, dig_no hd rfl⟩
  have hc : Lib.cut t [46] = (t.take (runN t), m, true) := by
    conv => lhs; rw [e]
    exact cut_atE _ _ _ (dig_no (run_all t) rfl)
  unfold readS
  rw [cut_gone t 47 h47, hc, hm]
  simp
/-- Digits alone: the run is the whole. -/
theorem run_dig (m : List UInt8) : digB m = true ↔ runN m ≠ 0 ∧ runN m = m.length := by
  unfold digB
  rw [Bool.and_eq_true]
  constructor
  · rintro ⟨h1, h2⟩
    have : runN m = m.length := by
      rcases hd : m.drop (runN m) with _ | ⟨c, r⟩
      · exact Nat.le_antisymm (run_le m) (List.drop_eq_nil_iff.1 hd)
      · have := run_stop m c r hd
        exact absurd (List.mem_of_mem_drop (i := runN m) (by rw [hd]; simp)) (dig_no h2 this)
    refine ⟨?_, this⟩
    rw [this]
    intro h0
    rw [List.length_eq_zero_iff.1 h0] at h1
    simp at h1
  · rintro ⟨h1, h2⟩
    constructor
    · rw [bne_iff_ne]
      rintro rfl
      exact h1 rfl
    · have := run_all m
      rwa [h2, List.take_length] at this
/-- A number: digits, and no nought ahead of others. -/
theorem num_run (t : List UInt8) : numB (t.take (runN t)) = !(decide (runN t = 0) || (decide (1 < runN t) && decide (t.head? = some 48))) := by
  have ha := run_all t
  have hl := run_le t
  cases t with
  | nil => rfl
  | cons c r =>
    by_cases h0 : runN (c :: r) = 0
    · rw [h0]; rfl
    · obtain ⟨k, hk⟩ : ∃ k, runN (c :: r) = k + 1 := ⟨runN (c :: r) - 1, by omega⟩
      rw [hk] at ha hl ⊢
      simp only [List.length_cons] at hl
      unfold numB digB
      rw [ha]
      simp only [List.take_succ_cons, List.head?_cons]
      by_cases hc : c = 48
      · subst hc
        cases k with
        | zero => simp
        | succ k =>
          cases r with
          | nil => simp at hl
          | cons d r => simp
      · simp [hc]
end Go.Proofs.YtmofjkfghidlnaaDoor
