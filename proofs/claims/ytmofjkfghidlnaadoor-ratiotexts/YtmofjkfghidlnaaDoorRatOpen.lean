/- A ratio that is handed in, opened and shut. -/
import Derived.Test.YtmofjkfghidlnaaDoorRatBase
import Derived.Test.YtmofjkfghidlnaaDoorMgB
import Derived.Lib.SmallJoins
import Derived.ShutString
import Derived.DataShut
import Derived.Deep.DeepWitnessRowRef
namespace Go.Proofs.YtmofjkfghidlnaaDoor
open Go.ChangeShapes Go.WideShapes Go.ChangeAt Go.RowKit Go.Joins

theorem int_bd {k : IntKind} {n : Int} (h : (Lit.int k n).wf = true) : k.min ≤ n ∧ n ≤ k.max := (Lit.wf_int_iff k n).1 h
theorem i64_of {n : Int} (h : (Lit.int .i64 n).wf = true) : I64 n := int_bd h
theorem cellsRt : Tryd.prog.cellsOf 26 = 2 := by kernel_rfl

set_option maxRecDepth 100000 in
theorem open_rt {H : Type} {enc : TypeId × Value → H} {w : World} {r : Reach} {b0 base : Nat} {spare : Nat → Bool} {held : Bool} {v : Value} {d : DataW H} {p : List MemPlace}
    (hv : Value.okWide Tryd.prog w r b0 26 v) (h : DataW.Trod enc Tryd.prog w base spare held 26 v d p) :
    ∃ x : Rt, v = rtv x ∧ d = .agg [.lit (.int .i64 x.N), .lit (.int .i64 x.D)] ∧ p = [] ∧ (Lit.int .i64 x.N).wf = true ∧ (Lit.int .i64 x.D).wf = true := by
  obtain ⟨c0, c1, y0, y1, m, rfl, rfl, rfl, hy0, hy1⟩ := open_agg2 Tryd.underlying26 (by kernel_rfl) cellsRt hv h
  obtain ⟨a, e0, rfl, wa⟩ := DataW.trod_int Tryd.underlying2 hy0
  obtain ⟨b, e1, rfl, wb⟩ := DataW.trod_int Tryd.underlying2 hy1
  simp at e0 e1
  subst e0 e1
  exact ⟨⟨a, b⟩, rfl, rfl, rfl, wa, wb⟩
set_option maxRecDepth 100000 in
theorem shut_rt {H : Type} {enc : TypeId × Value → H} {w : World} {base : Nat} {spare : Nat → Bool} {held : Bool} {x : Rt} (h0 : (Lit.int .i64 x.N).wf = true) (h1 : (Lit.int .i64 x.D).wf = true) :
    DataW.Trod enc Tryd.prog w base spare held 26 (rtv x) (.agg [.lit (.int .i64 x.N), .lit (.int .i64 x.D)]) [] :=
  shut_agg2 (y0 := (.lit (.int .i64 x.N), [])) (y1 := (.lit (.int .i64 x.D), [])) Tryd.underlying26 (by kernel_rfl) cellsRt ⟨1, by simp [DataW.trod, Tryd.underlying2, h0]⟩ ⟨1, by simp [DataW.trod, Tryd.underlying2, h1]⟩
end Go.Proofs.YtmofjkfghidlnaaDoor
