/- RatioRows over any row of ratios. -/
import Derived.Test.YtmofjkfghidlnaaDoorRowsW
namespace Go.Proofs.YtmofjkfghidlnaaDoor
open Go.RowKit Go.Shelf

theorem outer_any (b : Rt) (t : List Rt) (hl : ∀ p ∈ b :: t, RtIn p) (side : Int) (a : Addr) (cap : Nat) (hc : (b :: t).length ≤ cap ∧ cap ≤ maxLen) (w : World) (hR : RowAt (b :: t) a w) :
    Calls Tryd.prog 72 #[.slice (some a) (b :: t).length cap, .int .i64 side] w fun e w' => e = .returned (.tuple #[rtv (bestF side b t), .bool true]) ∧ Below w.heap.size w w' := by
  by_cases h1 : cap = 1
  · subst h1
    have ht : t = [] := by
      have := hc.1
      rw [List.length_cons] at this
      exact List.eq_nil_of_length_eq_zero (by omega)
    subst ht
    exact outer_one b side a w hR
  · exact outer_walk (b :: t) t hl b rfl rfl side a cap hc h1 w hR

theorem rows_any (l : List Rt) (hl : ∀ p ∈ l, RtIn p) (o : Option Addr) (cap : Nat) (hc : l.length ≤ cap ∧ cap ≤ maxLen) (w : World) (hO : ∀ (k : Nat) (p : Rt), l[k]? = some p → ∃ a, o = some a ∧ RowAt l a w) :
    Calls Tryd.prog 7 #[.slice o l.length cap] w fun e w' => e = .returned (.bool true) ∧ Below w.heap.size w w' := by
  cases l with
  | nil =>
    exact rows_walk [] hl o cap hc w hO 0 1 0 0 0 0 0 false false (fun w0 _ => sum_nil o cap w0) (fun w0 _ => rsum_nil o cap w0)
      (fun w0 _ => least_wrap w0 (.slice o 0 cap) 0 0 false (fun w1 _ => outer_nil o cap (-1) w1)) (fun w0 _ => rbest_nil o cap (-1) w0)
      (fun w0 _ => most_wrap w0 (.slice o 0 cap) 0 0 false (fun w1 _ => outer_nil o cap 1 w1)) (fun w0 _ => rbest_nil o cap 1 w0)
  | cons b t =>
    obtain ⟨a, rfl, hR⟩ := hO 0 b rfl
    exact rows_walk (b :: t) hl (some a) cap hc w hO _ _ _ _ _ _ _ true true (fun w0 h0 => sum_any (b :: t) hl a cap hc w0 (hR.keep h0)) (fun w0 h0 => rsum_any (b :: t) hl a cap hc w0 (hR.keep h0))
      (fun w0 h0 => least_wrap w0 _ _ _ true (fun w1 h1 => outer_any b t hl (-1) a cap hc w1 ((hR.keep h0).keep h1))) (fun w0 h0 => rbest_walk (b :: t) hl b rfl (-1) a cap hc w0 (hR.keep h0))
      (fun w0 h0 => most_wrap w0 _ _ _ true (fun w1 h1 => outer_any b t hl 1 a cap hc w1 ((hR.keep h0).keep h1))) (fun w0 h0 => rbest_walk (b :: t) hl b rfl 1 a cap hc w0 (hR.keep h0))
end Go.Proofs.YtmofjkfghidlnaaDoor
