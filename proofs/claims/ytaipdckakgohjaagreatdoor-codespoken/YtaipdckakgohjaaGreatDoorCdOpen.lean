/- A ratio, a rate that is handed in, opened and shut. -/
import Derived.Test.YtaipdckakgohjaaGreatDoorCdBase
import Derived.Test.YtaipdckakgohjaaGreatDoorRatW7
import Derived.Lib.SmallJoins
import Derived.ShutString
import Derived.DataShut
import Derived.Deep.DeepWitnessRowRef
namespace Go.Proofs.YtaipdckakgohjaaGreatDoor
open Go.ChangeShapes Go.WideShapes Go.ChangeAt Go.RowKit Go.Joins

theorem int_bd {k : IntKind} {n : Int} (h : (Lit.int k n).wf = true) : k.min ≤ n ∧ n ≤ k.max := (Lit.wf_int_iff k n).1 h
theorem i64_of {n : Int} (h : (Lit.int .i64 n).wf = true) : I64 n := int_bd h
theorem cellsRt : Tryz.prog.cellsOf 24 = 2 := by kernel_rfl

set_option maxRecDepth 100000 in
theorem open_rt {H : Type} {enc : TypeId × Value → H} {w : World} {r : Reach} {b0 base : Nat} {spare : Nat → Bool} {held : Bool} {v : Value} {d : DataW H} {p : List MemPlace}
    (hv : Value.okWide Tryz.prog w r b0 24 v) (h : DataW.Trod enc Tryz.prog w base spare held 24 v d p) :
    ∃ x : Rt, v = rtv x ∧ d = .agg [.lit (.int .i64 x.N), .lit (.int .i64 x.D)] ∧ p = [] ∧ (Lit.int .i64 x.N).wf = true ∧ (Lit.int .i64 x.D).wf = true := by
  obtain ⟨c0, c1, y0, y1, m, rfl, rfl, rfl, hy0, hy1⟩ := open_agg2 Tryz.underlying24 (by kernel_rfl) cellsRt hv h
  obtain ⟨a, e0, rfl, wa⟩ := DataW.trod_int Tryz.underlying2 hy0
  obtain ⟨b, e1, rfl, wb⟩ := DataW.trod_int Tryz.underlying2 hy1
  simp at e0 e1
  subst e0 e1
  exact ⟨⟨a, b⟩, rfl, rfl, rfl, wa, wb⟩
set_option maxRecDepth 100000 in
theorem shut_rt {H : Type} {enc : TypeId × Value → H} {w : World} {base : Nat} {spare : Nat → Bool} {held : Bool} {x : Rt} (h0 : (Lit.int .i64 x.N).wf = true) (h1 : (Lit.int .i64 x.D).wf = true) :
    DataW.Trod enc Tryz.prog w base spare held 24 (rtv x) (.agg [.lit (.int .i64 x.N), .lit (.int .i64 x.D)]) [] :=
  shut_agg2 (y0 := (.lit (.int .i64 x.N), [])) (y1 := (.lit (.int .i64 x.D), [])) Tryz.underlying24 (by kernel_rfl) cellsRt ⟨1, by simp [DataW.trod, Tryz.underlying2, h0]⟩ ⟨1, by simp [DataW.trod, Tryz.underlying2, h1]⟩
theorem cellsRate : Tryz.prog.cellsOf 31 = 3 := by kernel_rfl
set_option maxRecDepth 100000 in
theorem open_rate {H : Type} {enc : TypeId × Value → H} {w : World} {r : Reach} {b0 base : Nat} {spare : Nat → Bool} {held : Bool} {v : Value} {d : DataW H} {p : List MemPlace}
    (hv : Value.okWide Tryz.prog w r b0 31 v) (h : DataW.Trod enc Tryz.prog w base spare held 31 v d p) :
    ∃ (n m : Int) (b : Bool), v = .agg #[.int .i64 n, .int .i64 m, .bool b] ∧ d = .agg [.lit (.int .i64 n), .lit (.int .i64 m), .lit (.bool b)] ∧ p = [] ∧ (Lit.int .i64 n).wf = true ∧ (Lit.int .i64 m).wf = true := by
  obtain ⟨c0, c1, c2, y0, y1, y2, m, rfl, rfl, rfl, hy0, hy1, hy2⟩ := open_agg3 Tryz.underlying31 (by kernel_rfl) cellsRate hv h
  obtain ⟨a, e0, rfl, wa⟩ := DataW.trod_int Tryz.underlying3 hy0
  obtain ⟨b, e1, rfl, wb⟩ := DataW.trod_int Tryz.underlying3 hy1
  obtain ⟨t, e2, rfl⟩ := DataW.trod_bool Tryz.underlying4 hy2
  simp at e0 e1 e2
  subst e0 e1 e2
  exact ⟨a, b, t, rfl, rfl, rfl, wa, wb⟩
set_option maxRecDepth 100000 in
theorem shut_rate {H : Type} {enc : TypeId × Value → H} {w : World} {base : Nat} {spare : Nat → Bool} {held : Bool} {n m : Int} {b : Bool} (h0 : (Lit.int .i64 n).wf = true) (h1 : (Lit.int .i64 m).wf = true) :
    DataW.Trod enc Tryz.prog w base spare held 31 (.agg #[.int .i64 n, .int .i64 m, .bool b]) (.agg [.lit (.int .i64 n), .lit (.int .i64 m), .lit (.bool b)]) [] :=
  shut_agg3 (y0 := (.lit (.int .i64 n), [])) (y1 := (.lit (.int .i64 m), [])) (y2 := (.lit (.bool b), [])) Tryz.underlying31 (by kernel_rfl) cellsRate ⟨1, by simp [DataW.trod, Tryz.underlying3, h0]⟩ ⟨1, by simp [DataW.trod, Tryz.underlying3, h1]⟩ ⟨1, by simp [DataW.trod, Tryz.underlying4]⟩
end Go.Proofs.YtaipdckakgohjaaGreatDoor
