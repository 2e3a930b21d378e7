/- A part of a text's spans, as mathematics (P0706): cut and moved, or moved while it is cut. -/
import Derived.Test.YthonbeonjjhmlaaDoorSpG
namespace Go.Proofs.YthonbeonjjhmlaaDoor
open Go.RowKit Go.Shelf

/-- A span, cut to a part of the text. -/
def clS (f t : Int) (x : Sp) : Sp := ⟨max x.fr f, min x.tt t, x.kd, x.vl⟩
def fulS (x : Sp) : Bool := decide (x.fr < x.tt)
def clL (f t : Int) (L : List Sp) : List Sp := (L.map (clS f t)).filter fulS
/-- A span, cut and moved at once. -/
def suS (f t : Int) (x : Sp) : Sp := ⟨max x.fr f - f, min x.tt t - f, x.kd, x.vl⟩
def suL (f t : Int) (L : List Sp) : List Sp := (L.map (suS f t)).filter fulS
def InS (n : Int) (x : Sp) : Prop := 0 ≤ x.fr ∧ x.fr ≤ n ∧ 0 ≤ x.tt ∧ x.tt ≤ n
theorem wrap_in7 {z : Int} (h1 : -9000000000000000000 ≤ z) (h2 : z ≤ 9000000000000000000) : IntKind.i64.wrap z = z := IntWalk.i64_in _ ⟨by omega, by omega⟩
theorem su_mv (f t n : Int) (hf : 0 ≤ f) (hft : f ≤ t) (ht : t ≤ n) (hn : n ≤ 1000000) (x : Sp) (h : InS n x) : mvS (-f) (clS f t x) = suS f t x := by
  obtain ⟨a, b, c, d⟩ := h
  unfold mvS clS suS
  dsimp only
  rw [wrap_in7 (by omega) (by omega), wrap_in7 (by omega) (by omega)]
  rfl
theorem cl_snoc (f t : Int) (L : List Sp) (x : Sp) : clL f t (L ++ [x]) = if (clS f t x).fr < (clS f t x).tt then clL f t L ++ [clS f t x] else clL f t L := by
  unfold clL
  rw [List.map_append, List.filter_append]
  by_cases h : (clS f t x).fr < (clS f t x).tt
  · rw [if_pos h]; simp [fulS, h]
  · rw [if_neg h]; simp [fulS, h]
theorem su_snoc (f t : Int) (L : List Sp) (x : Sp) : suL f t (L ++ [x]) = if (suS f t x).fr < (suS f t x).tt then suL f t L ++ [suS f t x] else suL f t L := by
  unfold suL
  rw [List.map_append, List.filter_append]
  by_cases h : (suS f t x).fr < (suS f t x).tt
  · rw [if_pos h]; simp [fulS, h]
  · rw [if_neg h]; simp [fulS, h]
theorem su_cl (f t n : Int) (hf : 0 ≤ f) (hft : f ≤ t) (ht : t ≤ n) (hn : n ≤ 1000000) : ∀ (L : List Sp), (∀ x ∈ L, InS n x) → (clL f t L).map (mvS (-f)) = suL f t L
  | [], _ => rfl
  | x :: L, h => by
    have ih := su_cl f t n hf hft ht hn L (fun y hy => h y (List.mem_cons_of_mem _ hy))
    have e := su_mv f t n hf hft ht hn x (h x (List.mem_cons_self ..))
    unfold clL suL at ih ⊢
    rw [List.map_cons, List.map_cons]
    have q : fulS (clS f t x) = fulS (suS f t x) := by
      unfold fulS clS suS
      exact decide_eq_decide.2 (by constructor <;> intro k <;> simp only at k ⊢ <;> omega)
    by_cases k : fulS (suS f t x) = true
    · rw [List.filter_cons_of_pos k, List.filter_cons_of_pos (q.trans k), List.map_cons, ih, e]
    · rw [List.filter_cons_of_neg k, List.filter_cons_of_neg (by rw [q]; exact k), ih]
theorem isort_inR {α : Type} (lt : α → α → Bool) (z : α) : ∀ (r : List α), z ∈ isort lt r.reverse ↔ z ∈ r
  | [] => by simp [isort]
  | x :: r => by
    rw [List.reverse_cons, isort_snoc, mg_mem, isort_inR lt z r]
    simp [or_comm]
theorem isort_mem' {α : Type} (lt : α → α → Bool) (z : α) (l : List α) : z ∈ isort lt l ↔ z ∈ l := by
  have := isort_inR lt z l.reverse
  rw [List.reverse_reverse] at this
  rw [this]; simp
end Go.Proofs.YthonbeonjjhmlaaDoor
