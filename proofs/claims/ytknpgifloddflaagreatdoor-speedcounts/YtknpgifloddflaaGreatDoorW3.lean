/- The contract of the sequence of places that utf.find ranges over: it tells the places between the signs of its text, in all units, and stops where a round says so. -/
import Derived.Test.YtknpgifloddflaaGreatDoorW2
import Derived.Test.YtknpgifloddflaaGreatDoorLaw
namespace Go.Proofs.YtknpgifloddflaaGreatDoor
open Go.RowKit Go.Shelf
attribute [local go_sem] Oper.semAt_some

/-- A block of four cells. -/
def Row4 (W : World) (B : Nat) (t : TypeId) (c0 c1 c2 c3 : Value) : Prop := W.heap[B]? = some (.cells #[c0, c1, c2, c3] t (0, 0))
theorem Row4.lt {W : World} {B : Nat} {t : TypeId} {c0 c1 c2 c3 : Value} (h : Row4 W B t c0 c1 c2 c3) : B < W.heap.size := (Array.getElem?_eq_some_iff.1 h).1
theorem Row4.cells {W : World} {B : Nat} {t : TypeId} {c0 c1 c2 c3 : Value} (h : Row4 W B t c0 c1 c2 c3) :
    W.cell? ⟨B, 0, none⟩ = some c0 ∧ W.cell? ⟨B, 1, none⟩ = some c1 ∧ W.cell? ⟨B, 2, none⟩ = some c2 ∧ W.cell? ⟨B, 3, none⟩ = some c3 := by
  simp [World.cell?, show W.heap[B]? = _ from h]
theorem Row4.frozen {W : World} {B : Nat} {t : TypeId} {c0 c1 c2 c3 : Value} (h : Row4 W B t c0 c1 c2 c3) (o : Nat) : W.frozen? ⟨B, o, none⟩ = false := by
  simp [World.frozen?, show W.heap[B]? = _ from h]
theorem Row4.of_block {W W' : World} {B : Nat} {t : TypeId} {c0 c1 c2 c3 : Value} (h : Row4 W B t c0 c1 c2 c3) (e : W'.heap[B]? = W.heap[B]?) : Row4 W' B t c0 c1 c2 c3 := e.trans h
theorem heap_setCell_same (W : World) (B o : Nat) (v : Value) (c : Array Value) (t : TypeId) (h : W.heap[B]? = some (.cells c t (0, 0))) : (W.setCell ⟨B, o, none⟩ v).heap[B]? = some (.cells (c.setIfInBounds o v) t (0, 0)) := by
  obtain ⟨hlt, hk⟩ := Array.getElem?_eq_some_iff.1 h
  show (W.heap.modify B _)[B]? = _
  rw [Array.getElem?_eq_getElem (by rw [Array.size_modify]; exact hlt), Array.getElem_modify_self, hk]
  rfl
theorem Row4.set1 {W : World} {B : Nat} {t : TypeId} {c0 c1 c2 c3 : Value} (h : Row4 W B t c0 c1 c2 c3) (v : Value) : Row4 (W.setCell ⟨B, 1, none⟩ v) B t c0 v c2 c3 := heap_setCell_same W B 1 v _ t h
theorem Row4.set2 {W : World} {B : Nat} {t : TypeId} {c0 c1 c2 c3 : Value} (h : Row4 W B t c0 c1 c2 c3) (v : Value) : Row4 (W.setCell ⟨B, 2, none⟩ v) B t c0 c1 v c3 := heap_setCell_same W B 2 v _ t h
theorem Row4.set3 {W : World} {B : Nat} {t : TypeId} {c0 c1 c2 c3 : Value} (h : Row4 W B t c0 c1 c2 c3) (v : Value) : Row4 (W.setCell ⟨B, 3, none⟩ v) B t c0 c1 c2 v := heap_setCell_same W B 3 v _ t h

/-- A place, told in bytes, signs, units of UTF-16. -/
structure Spot where
  b : Int
  c : Int
  d : Int
def Spot.val (p : Spot) : Value := .agg #[.int .i64 0, .int .i64 p.b, .int .i64 p.c, .int .i64 p.d]
def Spot.step (p : Spot) (x : Sg) : Spot := ⟨p.b + x.len, p.c + 1, p.d + pairsI x.rune⟩
/-- The places ahead of each sign, and the place behind them all. -/
def trail (l : List Sg) : List Spot × Spot := l.foldl (fun lp x => (lp.1 ++ [lp.2], lp.2.step x)) ([], ⟨0, 0, 0⟩)
theorem trail_snoc (l : List Sg) (x : Sg) : trail (l ++ [x]) = ((trail l).1 ++ [(trail l).2], (trail l).2.step x) := by simp [trail, List.foldl_append]
theorem snoc_ind {α : Type} {P : List α → Prop} (h0 : P []) (hs : ∀ l x, P l → P (l ++ [x])) (l : List α) : P l := by
  rw [← List.reverse_reverse l]
  induction l.reverse with
  | nil => exact h0
  | cons x r ih => rw [List.reverse_cons]; exact hs _ _ ih
theorem trail_length (l : List Sg) : (trail l).1.length = l.length := by
  refine snoc_ind (P := fun l => (trail l).1.length = l.length) rfl (fun l x ih => ?_) l
  simp only [trail_snoc, List.length_append, List.length_singleton, ih]
theorem trail_bd (l : List Sg) : (0 ≤ (trail l).2.b ∧ (trail l).2.b ≤ 4 * l.length) ∧ (trail l).2.c = l.length ∧ 0 ≤ (trail l).2.d ∧ (trail l).2.d ≤ 2 * l.length := by
  refine snoc_ind (P := fun l => (0 ≤ (trail l).2.b ∧ (trail l).2.b ≤ 4 * l.length) ∧ (trail l).2.c = l.length ∧ 0 ≤ (trail l).2.d ∧ (trail l).2.d ≤ 2 * l.length) (by simp [trail]) (fun l x ih => ?_) l
  have hx := x.small
  have hp := pairsI_bd x.rune
  simp only [trail_snoc, Spot.step, List.length_append, List.length_singleton]
  omega
def spotsL (s : ByteArray) : List Spot := (trail (signs s)).1 ++ [(trail (signs s)).2]
theorem trail_append (l m : List Sg) : (trail l).1 <+: (trail (l ++ m)).1 := by
  refine snoc_ind (P := fun m => (trail l).1 <+: (trail (l ++ m)).1) (by simp) (fun m x ih => ?_) m
  rw [← List.append_assoc, trail_snoc]
  exact ih.trans (List.prefix_append _ _)
theorem trail_prefix {l : List Sg} {s : ByteArray} (h : l <+: signs s) : (trail l).1 <+: spotsL s := by
  obtain ⟨m, e⟩ := h
  unfold spotsL
  rw [← e]
  exact (trail_append l m).trans (List.prefix_append _ _)

theorem round_any {m m' : Nat} {P : Program} {l l' : Nat} {f : FuncId} {tmps : Array Value} {assign body : Code} {w : World} {R : Ending → World → Prop} (h : RoundIn Fence.wide m P l f tmps assign body w R) :
    RoundIn (Fence.wide.inRound l') m' P l f tmps assign body w R := ⟨h.1, fun c cs _ => h.2 c cs (room_wide _)⟩
theorem round_any0 {m m' : Nat} {P : Program} {l : Nat} {f : FuncId} {tmps : Array Value} {assign body : Code} {w : World} {R : Ending → World → Prop} (h : RoundIn Fence.wide m P l f tmps assign body w R) :
    RoundIn Fence.wide m' P l f tmps assign body w R := ⟨h.1, fun c cs _ => h.2 c cs (room_wide _)⟩

end Go.Proofs.YtknpgifloddflaaGreatDoor
