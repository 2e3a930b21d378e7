/- Parse's reading: mathematics for the reference's cases. -/
import Derived.Test.YtmofjkfghidlnaaDoorRefE1
import Derived.Test.YtmofjkfghidlnaaDoorRefD3
namespace Go.Proofs.YtmofjkfghidlnaaDoor
open Go.RowKit Go.Shelf

theorem bs_ext (l : List UInt8) (a b : Nat) : (bs l).extract a b = bs ((l.take b).drop a) := by
  apply ByteArray.ext
  simp [bs, ByteArray.data_extract, List.drop_take]
theorem readS_bad (t : List UInt8) (h : numB (t.take (runN t)) = false) : (readS t).2.2.2 = false := by
  rcases hd : t.drop (runN t) with _ | ⟨c, m⟩
  · rw [readS_plain t hd]
    rwa [List.take_of_length_le (List.drop_eq_nil_iff.1 hd)] at h
  · by_cases h1 : c = 47
    · subst h1
      rw [readS_over t m hd, h]
      rfl
    · by_cases h2 : c = 46 ∧ digB m = true
      · obtain ⟨rfl, h3⟩ := h2
        rw [readS_point t m hd h3, h]
        rfl
      · refine readS_mark t c m hd h1 fun h3 => ?_
        rw [← Bool.not_eq_true]
        exact fun h4 => h2 ⟨h3, h4⟩
theorem parseS_bad (b : Bool) (t : List UInt8) (h : (readS t).2.2.2 = false) : parseS b t = bad 13 := by
  unfold parseS
  rw [if_pos h]
theorem parseS_eq (b : Bool) (t a u e : List UInt8) (h : readS t = (a, u, e, true)) : parseS b t = if b = true ∧ (a ++ e).all ([48].contains ·) = true then bad 13 else if 19 < a.length ∨ 19 < u.length then bad 12 else if u = [48] then bad 11 else low (Rat.divInt (if b = true then -(topN a e : Int) else topN a e) (botN u e)) := by
  unfold parseS
  rw [h, if_neg (by simp)]
theorem all48 (l : List UInt8) : l.all ([48].contains ·) = l.all (· == 48) := by
  congr 1
  funext c
  rw [Bool.eq_iff_iff]
  simp
theorem fold_from : ∀ (l : List UInt8) (n : Nat), l.foldl (fun n c => n * 10 + (c.toNat - 48)) n = n * 10 ^ l.length + l.foldl (fun n c => n * 10 + (c.toNat - 48)) 0
  | [], n => by simp
  | c :: t, n => by
    simp only [List.foldl_cons, List.length_cons]
    rw [fold_from t (n * 10 + (c.toNat - 48)), fold_from t (0 * 10 + (c.toNat - 48)), Nat.pow_succ]
    rw [Nat.zero_mul, Nat.zero_add, Nat.add_mul, Nat.mul_assoc, Nat.mul_comm 10, Nat.add_assoc]
theorem valN_app (a b : List UInt8) : valN (a ++ b) = topN a b := by
  unfold topN valN
  rw [List.foldl_append, fold_from b]
theorem sgn_vn (b : Bool) (m : Nat) (hm : m < 340282366920938463463374607431768211456) : sgn (b && !(hiZ m == 0 && loZ m == 0)) m = if b = true then -(m : Int) else m := by
  by_cases h : m = 0
  · subst h
    cases b <;> rfl
  · have : (hiZ m == 0 && loZ m == 0) = false := by
      rw [Bool.and_eq_false_iff]
      simp only [beq_eq_false_iff_ne]
      unfold hiZ loZ
      omega
    rw [this]
    cases b <;> rfl
/-- The head of a text, and what follows. -/
theorem head_get (t : List UInt8) (h : 0 < t.length) : t.head? = some (t[0]'h) := by
  cases t with
  | nil => simp at h
  | cons c r => rfl
theorem nz_of (t : List UInt8) (hn : numB (t.take (runN t)) = true) : 0 < runN t ∧ (runN t ≤ 1 ∨ 1 < runN t ∧ t.head? ≠ some 48) := by
  rw [num_run] at hn
  simp only [Bool.not_eq_true', Bool.or_eq_false_iff, Bool.and_eq_false_iff, decide_eq_false_iff_not] at hn
  refine ⟨by omega, ?_⟩
  rcases hn.2 with h | h
  · exact .inl (by omega)
  · rcases Nat.lt_or_ge 1 (runN t) with h2 | h2
    · exact .inr ⟨h2, h⟩
    · exact .inl h2
theorem nz_not (t : List UInt8) (hn : numB (t.take (runN t)) = false) : runN t = 0 ∨ 1 < runN t ∧ t.head? = some 48 := by
  rw [num_run] at hn
  simp only [Bool.not_eq_false', Bool.or_eq_true, Bool.and_eq_true, decide_eq_true_eq] at hn
  exact hn
theorem run_self (m : List UInt8) (h : runN m = m.length) : m.take (runN m) = m := by rw [h, List.take_length]
end Go.Proofs.YtmofjkfghidlnaaDoor
