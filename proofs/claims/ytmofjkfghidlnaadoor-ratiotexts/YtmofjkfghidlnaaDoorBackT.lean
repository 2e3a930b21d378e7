/- The contracts of strconv.FormatInt, at base 10, and of ratio.Text. -/
import Derived.Test.YtmofjkfghidlnaaDoorRatF
import Derived.Test.YtmofjkfghidlnaaDoorBackP
import Derived.Test.YtmofjkfghidlnaaDoorMgB
import Derived.Deep.RegionHeld3
namespace Go.Proofs.YtmofjkfghidlnaaDoor
open Go.RowKit Go.Shelf Go.Sort
open Go.Lib (decDigits)
attribute [local go_sem] Oper.semAt_some

set_option maxRecDepth 100000 in
set_option maxHeartbeats 1000000 in
theorem text_one (w : World) (n : Int) (l : List UInt8)
    (HF : ∀ w0, Below w.heap.size w w0 → Calls Tryd.prog 86 #[.int .i64 n, .int .i64 10] w0 fun e w' => e = .returned (.string (bs l)) ∧ Below w0.heap.size w0 w') :
    Calls Tryd.prog 49 #[.agg #[.int .i64 n, .int .i64 1]] w fun e w' => e = .returned (.string (bs l)) ∧ Below w.heap.size w w' := by
  have HF := hideR HF
  go_enter Tryd.func49, Tryd.ntmps49
  go_wp2_with fail
  go_at_call 86
  refine Calls.mono (HF.out _ (bel1 w _)) ?_
  rintro e w1 ⟨rfl, b1⟩
  go_wp2_with fail
  go_ret
  exact ⟨rfl, bup (bel1 w _) b1⟩

set_option maxRecDepth 100000 in
set_option maxHeartbeats 1000000 in
theorem text_two (w : World) (n d : Int) (h1 : ¬ d = 1) (l m : List UInt8) (hl : l.length ≤ 100) (hm : m.length ≤ 100)
    (HF : ∀ w0, Below w.heap.size w w0 → Calls Tryd.prog 86 #[.int .i64 n, .int .i64 10] w0 fun e w' => e = .returned (.string (bs l)) ∧ Below w0.heap.size w0 w')
    (HG : ∀ w0, Below w.heap.size w w0 → Calls Tryd.prog 86 #[.int .i64 d, .int .i64 10] w0 fun e w' => e = .returned (.string (bs m)) ∧ Below w0.heap.size w0 w') :
    Calls Tryd.prog 49 #[.agg #[.int .i64 n, .int .i64 d]] w fun e w' => e = .returned (.string (bs (l ++ 47 :: m))) ∧ Below w.heap.size w w' := by
  have ha1 : ∀ w, (Op.stringOp .add (bs l) ⟨#[47]⟩).run Tryd.prog w = .ok (.string (bs (l ++ [47]))) w := fun w => by
    have := run_string_add_sum (P := Tryd.prog) w (bs l) (bs [47]) (by rw [bs_size, bs_size]; simp; omega)
    rw [bs_append] at this
    exact this
  have ha2 : ∀ w, (Op.stringOp .add (bs (l ++ [47])) (bs m)).run Tryd.prog w = .ok (.string (bs (l ++ 47 :: m))) w := fun w => by
    have := run_string_add_sum (P := Tryd.prog) w (bs (l ++ [47])) (bs m) (by rw [bs_size, bs_size]; simp; omega)
    rw [bs_append, List.append_assoc] at this
    exact this
  have HF := hideR HF
  have HG := hideR HG
  have T0 := Two.new w (.int .i64 n) (.int .i64 d) 26
  have SC : (w.alloc (.cells #[.int .i64 n, .int .i64 d] 26)).cell? ⟨w.heap.size, 0, none⟩ = some (.int .i64 n) ∧ (w.alloc (.cells #[.int .i64 n, .int .i64 d] 26)).cell? ⟨w.heap.size, 1, none⟩ = some (.int .i64 d) := ⟨T0.2.1, T0.2.2.1⟩
  go_enter Tryd.func49, Tryd.ntmps49
  go_wp2_with fail
  go_region_held3 (fun w' => w'.cell? ⟨w.heap.size, 0, none⟩ = some (.int .i64 n) ∧ w'.cell? ⟨w.heap.size, 1, none⟩ = some (.int .i64 d)) (first | assumption | go_keep)
    (first | (go_at_call_of 86 n; refine (HF.out _ (bel1 w (.cells #[.int .i64 n, .int .i64 d] 26)).drew).mono ?_; rintro e w1 ⟨rfl, b1⟩; have T1 := T0.drew.keep b1; have S1 : w1.cell? ⟨w.heap.size, 0, none⟩ = some (.int .i64 n) ∧ w1.cell? ⟨w.heap.size, 1, none⟩ = some (.int .i64 d) := ⟨T1.2.1, T1.2.2.1⟩; have B1 := bup (bel1 w (.cells #[.int .i64 n, .int .i64 d] 26)).drew b1) | (go_at_call_of 86 d; refine (HG.out _ B1).mono ?_; rintro e w2 ⟨rfl, b2⟩; have T2 := T1.keep b2; have S2 : w2.cell? ⟨w.heap.size, 0, none⟩ = some (.int .i64 n) ∧ w2.cell? ⟨w.heap.size, 1, none⟩ = some (.int .i64 d) := ⟨T2.2.1, T2.2.2.1⟩))
  all_goals (try go_wp2_with fail)
  all_goals (go_ret; exact ⟨rfl, bup B1 b2⟩)
end Go.Proofs.YtmofjkfghidlnaaDoor
