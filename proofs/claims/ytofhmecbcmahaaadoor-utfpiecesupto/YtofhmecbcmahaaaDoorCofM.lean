/- Plain facts on cuts of cuts: the places of a part are those of the text; what is cut out and what is left is the text, and does not melt. -/
import Derived.Test.YtofhmecbcmahaaaDoorBckM
import Derived.Test.YtofhmecbcmahaaaDoorMltM
namespace Go.Proofs.YtofhmecbcmahaaaDoor

theorem extract_extract' (s : ByteArray) (X Y x y : Nat) (h : X + y ≤ Y) : (s.extract X Y).extract x y = s.extract (X + x) (X + y) := by
  refine ba_ext ?_
  rw [Lib.extract_data, Lib.extract_data, Lib.extract_data, List.drop_take, List.take_take, List.drop_drop]
  congr 1
  omega
theorem app_ext (a b : ByteArray) : (a ++ b).data.toList = a.data.toList ++ b.data.toList := by rw [ByteArray.data_append, Array.toList_append]
/-- A cut of a text in two, in three. -/
theorem ext_two (s : ByteArray) (A B : Nat) (h1 : A ≤ B) (_h2 : B ≤ s.size) : s.extract 0 A ++ s.extract A B = s.extract 0 B := by
  refine ba_ext ?_
  rw [app_ext, Lib.extract_data, Lib.extract_data, Lib.extract_data, List.drop_zero, Nat.sub_zero, Nat.sub_zero, ← List.take_add]
  congr 1
  omega
theorem ext_all (s : ByteArray) : s.extract 0 s.size = s := by
  refine ba_ext ?_
  rw [Lib.extract_data, List.drop_zero, Nat.sub_zero, Lib.size_eq, List.take_length]
theorem ext_rest (s : ByteArray) (A B : Nat) (h1 : A ≤ B) (h2 : B ≤ s.size) : s.extract A B ++ s.extract B s.size = s.extract A s.size := by
  refine ba_ext ?_
  have hl : s.data.toList.length = s.size := (Lib.size_eq s).symm
  rw [app_ext, Lib.extract_data, Lib.extract_data, Lib.extract_data, show List.drop B s.data.toList = List.drop (B - A) (List.drop A s.data.toList) by rw [List.drop_drop]; congr 1; omega, show s.size - B = (s.size - A) - (B - A) by omega, ← List.take_add]
  congr 1
  omega
theorem app_assoc' (a b c : ByteArray) : a ++ b ++ c = a ++ (b ++ c) := by
  refine ba_ext ?_
  rw [app_ext, app_ext, app_ext, app_ext, List.append_assoc]

/-- What is known of two places of a text, one not behind the other. -/
structure Pt (s : ByteArray) (P Q : Spot) (i j A B : Nat) : Prop where
  hi : P = spotAt s i
  hj : Q = spotAt s j
  le : i ≤ j
  jl : j ≤ (signs s).length
  hA : P.b = A
  hB : Q.b = B
theorem pt_of {s : ByteArray} {P Q : Spot} (hP : P ∈ spotsL s) (hQ : Q ∈ spotsL s) (u : Int) (h : P.get u ≤ Q.get u) : ∃ i j A B, Pt s P Q i j A B := by
  obtain ⟨i, h1, rfl⟩ := spotAt_of hP
  obtain ⟨j, h2, rfl⟩ := spotAt_of hQ
  have h3 := spot_le hP hQ u 2 h
  rw [show (spotAt s i).get 2 = (spotAt s i).c from rfl, show (spotAt s j).get 2 = (spotAt s j).c from rfl, spotAt_c s i h1, spotAt_c s j h2] at h3
  have k1 := spot_b hP
  have k2 := spot_b hQ
  exact ⟨i, j, (spotAt s i).b.toNat, (spotAt s j).b.toNat, rfl, rfl, by omega, h2, by omega, by omega⟩
theorem Pt.part {s : ByteArray} {P Q : Spot} {i j A B : Nat} (h : Pt s P Q i j A B) : A ≤ B ∧ B ≤ s.size ∧ (signs (s.extract A B)).length = j - i ∧ ∀ k, k ≤ j - i → spotAt s (i + k) = P.plus (spotAt (s.extract A B) k) := by
  have := part_spots s i j A B h.le h.jl (by rw [← h.hi]; exact h.hA) (by rw [← h.hj]; exact h.hB)
  rwa [← h.hi] at this
theorem Pt.last {s : ByteArray} {P Q : Spot} {i j A B : Nat} (h : Pt s P Q i j A B) (u : Int) : (lastS (s.extract A B)).get u = Q.get u - P.get u := by
  obtain ⟨_, _, h3, h4⟩ := h.part
  have := h4 (j - i) (Nat.le_refl _)
  have hle := h.le
  rw [show i + (j - i) = j by omega, ← h.hj] at this
  rw [lastS_eq, h3, this, plus_get]
  omega
theorem Pt.find {s : ByteArray} {P Q : Spot} {i j A B : Nat} (h : Pt s P Q i j A B) {u : Int} (hu : u = 1 ∨ u = 2 ∨ u = 3) (c : Int) (h0 : 0 ≤ c) (h1 : c ≤ Q.get u - P.get u) :
    (∃ q, findS (s.extract A B) u c = (q, 0) ∧ findS s u (P.get u + c) = (P.plus q, 0) ∧ q ∈ spotsL (s.extract A B)) ∨ (findS (s.extract A B) u c = (zeroSpot, 21) ∧ findS s u (P.get u + c) = (zeroSpot, 21)) := by
  obtain ⟨p1, p2, p3, p4⟩ := h.part
  have hl := h.last u
  have hP : P ∈ spotsL s := by rw [h.hi]; exact spotAt_mem s i
  have hQ : Q ∈ spotsL s := by rw [h.hj]; exact spotAt_mem s j
  have hP0 := first_least s u hP
  by_cases he : (findS (s.extract A B) u c).2 = 0
  · left
    obtain ⟨m1, e1⟩ := findS_ok he
    have hp : findS (s.extract A B) u c = ((findS (s.extract A B) u c).1, 0) := Prod.ext rfl he
    generalize (findS (s.extract A B) u c).1 = q at *
    refine ⟨q, hp, ?_, m1⟩
    obtain ⟨k, hk, rfl⟩ := spotAt_of m1
    have h5 := p4 k (by omega)
    have h6 := find_at (spotAt_mem s (i + k)) u
    rw [h5, plus_get, e1] at h6
    exact h6
  · right
    refine ⟨(find_within hu h0 (by rw [hl]; exact h1) he).1, ?_⟩
    have hlast := last_most s u hQ
    refine (find_within hu (by omega) (by omega) (fun e => he ?_)).1
    obtain ⟨m1, e1⟩ := findS_ok e
    generalize (findS s u (P.get u + c)).1 = q at *
    have l1 := spot_le hP m1 u 2 (by omega)
    have l2 := spot_le m1 hQ u 2 (by omega)
    obtain ⟨k, hk, rfl⟩ := spotAt_of m1
    have hjl := h.jl
    have hle := h.le
    rw [h.hi, show (spotAt s i).get 2 = (spotAt s i).c from rfl, show (spotAt s k).get 2 = (spotAt s k).c from rfl, spotAt_c s i (by omega), spotAt_c s k hk] at l1
    rw [h.hj, show (spotAt s j).get 2 = (spotAt s j).c from rfl, show (spotAt s k).get 2 = (spotAt s k).c from rfl, spotAt_c s k hk, spotAt_c s j hjl] at l2
    have h5 := p4 (k - i) (by omega)
    rw [show i + (k - i) = k by omega] at h5
    rw [h5, plus_get] at e1
    have h6 := find_at (spotAt_mem (s.extract A B) (k - i)) u
    rw [show (spotAt (s.extract A B) (k - i)).get u = c by omega] at h6
    rw [h6]
theorem Pt.cut {s : ByteArray} {P Q : Spot} {i j A B : Nat} (h : Pt s P Q i j A B) {u : Int} (hu : u = 1 ∨ u = 2 ∨ u = 3) (c d : Int) (h0 : 0 ≤ c) (h1 : c ≤ d) (h2 : d ≤ Q.get u - P.get u) :
    cutF (s.extract A B) u c d = cutF s u (P.get u + c) (P.get u + d) := by
  obtain ⟨p1, p2, p3, p4⟩ := h.part
  unfold cutF
  rcases h.find hu c h0 (by omega) with ⟨q, f1, f2, m1⟩ | ⟨f1, f2⟩ <;> rcases h.find hu d (by omega) h2 with ⟨r, g1, g2, m2⟩ | ⟨g1, g2⟩
  · rw [f1, f2, g1, g2]
    rw [if_neg (by simp; omega), if_neg (by simp), if_neg (by simp; omega), if_neg (by simp)]
    have k1 := spot_b m1
    have k2 := spot_b m2
    rw [ByteArray.size_extract] at k1 k2
    rw [extract_extract' s A B q.b.toNat r.b.toNat (by omega)]
    have e1 : (P.plus q).b.toNat = A + q.b.toNat := by show (P.b + q.b).toNat = _; rw [h.hA]; omega
    have e2 : (P.plus r).b.toNat = A + r.b.toNat := by show (P.b + r.b).toNat = _; rw [h.hA]; omega
    rw [e1, e2]
  all_goals
    rw [f1, f2, g1, g2]
    rw [if_neg (by simp; omega), if_pos (by simp), if_neg (by simp; omega), if_pos (by simp)]
/-- A cut in the range: the part, or within a sign. -/
theorem cut_range {s : ByteArray} {u a b : Int} (hu : u = 1 ∨ u = 2 ∨ u = 3) (h0 : 0 ≤ a) (h1 : a ≤ b) (h2 : b ≤ (lastS s).get u) :
    (cutF s u a b = (ByteArray.empty, 21) ∧ u ≠ 2) ∨ ∃ P Q i j A B, Pt s P Q i j A B ∧ P.get u = a ∧ Q.get u = b ∧ cutF s u a b = (s.extract A B, 0) := by
  unfold cutF
  have n1 : (findS s u a).2 ≠ 1 := fun e => by have := (findS_arg s u a).1 e; omega
  have n2 : (findS s u b).2 ≠ 1 := fun e => by have := (findS_arg s u b).1 e; omega
  rw [if_neg (by omega)]
  by_cases c1 : (findS s u a).2 = 0
  · by_cases c2 : (findS s u b).2 = 0
    · right
      obtain ⟨m1, e1⟩ := findS_ok c1
      obtain ⟨m2, e2⟩ := findS_ok c2
      obtain ⟨i, j, A, B, hp⟩ := pt_of m1 m2 u (by omega)
      refine ⟨_, _, i, j, A, B, hp, e1, e2, ?_⟩
      rw [if_neg (by omega), hp.hA, hp.hB]
      rfl
    · left
      rw [if_pos (.inr c2)]
      exact ⟨rfl, (find_within hu (by omega) (by omega) c2).2⟩
  · left
    rw [if_pos (.inl c1)]
    exact ⟨rfl, (find_within hu (by omega) (by omega) c1).2⟩
theorem Pt.front {s : ByteArray} {P Q : Spot} {i j A B : Nat} (h : Pt s P Q i j A B) {u : Int} (hu : u = 1 ∨ u = 2 ∨ u = 3) : cutF s u 0 (P.get u) = (s.extract 0 A, 0) ∧ cutF s u (Q.get u) ((lastS s).get u) = (s.extract B s.size, 0) := by
  have hP : P ∈ spotsL s := by rw [h.hi]; exact spotAt_mem s i
  have hQ : Q ∈ spotsL s := by rw [h.hj]; exact spotAt_mem s j
  have z0 := find_at (first_mem s) u
  rw [unit_get hu] at z0
  have hP0 := first_least s u hP
  have hQ1 := last_most s u hQ
  unfold cutF
  refine ⟨?_, ?_⟩
  · rw [z0, find_at hP u, if_neg (by simp; omega), if_neg (by simp), h.hA]
    rfl
  · rw [find_at hQ u, find_at (last_mem s) u, if_neg (by simp; omega), if_neg (by simp), h.hB, lastS_b]
    rfl
theorem seam_no {s : ByteArray} {q : Spot} (h : q ∈ spotsL s) (A : Nat) (hA : q.b = A) : meltsB (s.extract 0 A) (s.extract A s.size) = false := by
  cases hm : meltsB (s.extract 0 A) (s.extract A s.size)
  · rfl
  · exfalso
    have kb := spot_b h
    have hx : s.extract 0 A ++ s.extract A s.size = s := by rw [ext_two s A s.size (by omega) (Nat.le_refl _), ext_all]
    refine (melts_iff _ _).1 hm ?_
    rw [hx, ByteArray.size_extract]
    obtain ⟨k, hk, rfl⟩ := spotAt_of h
    obtain ⟨p, h1, h2, h3, _⟩ := spotAt_lies s k hk
    exact ⟨_, by rw [show min A s.size - 0 = p by omega]; exact h3⟩
end Go.Proofs.YtofhmecbcmahaaaDoor
