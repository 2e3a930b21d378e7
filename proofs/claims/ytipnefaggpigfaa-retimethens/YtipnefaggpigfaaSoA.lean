/- Rows of spans in memory, which may be written; the order of outerFirst (chapter 7). -/
import Derived.Test.YtipnefaggpigfaaStA
import Derived.Test.YtipnefaggpigfaaLawL
import Derived.OwnWalk
import Derived.WalkKit
import Derived.WalkSpells
import Derived.WalkLawsBesides
import Derived.Deep.QuietTactic
import Derived.BigQuiet
import Derived.Shelf.RegionOpen
import Derived.Deep.RegionHeld3
import Derived.Deep.Cut
import Derived.Deep.CutRange
import Derived.Deep.CutBlock
import Derived.Deep.DeepCutAuto
namespace Go.Proofs.Ytipnefaggpigfaa
open Go.RowKit Go.Shelf
attribute [local go_sem] Oper.semAt_some

theorem hideS {p : Prop} (h : p) : Hid p := h
theorem bel1S (w : World) (o : Obj) : Below w.heap.size w (w.alloc o) := (Below.refl _ w).alloc (Nat.le_refl _) o
theorem bupS {w a b : World} (h : Below w.heap.size w a) (k : Below a.heap.size a b) : Below w.heap.size w b := h.trans (k.mono h.size)
theorem below_dnS {B : Nat} {a w : World} (h : Below B a w) (n : Nat) : Below B a (w.drewN n) := h.trans ⟨rfl, rfl, rfl, Nat.le_refl _, fun _ _ => rfl⟩
/-- A span. -/
structure Sp where
  fr : Int
  tt : Int
  kd : Int
  vl : Int
def Sp.val (x : Sp) : Value := .agg #[.int .i64 x.fr, .int .i64 x.tt, .int .i64 x.kd, .int .i64 x.vl]
theorem set_atS {w : World} {B : Nat} {cs : Array Value} {t : TypeId} {fr : Nat × Nat} (h : w.heap[B]? = some (.cells cs t fr)) (i : Nat) (v : Value) : (w.setCell ⟨B, i, none⟩ v).heap[B]? = some (.cells (cs.setIfInBounds i v) t fr) := by
  obtain ⟨hlt, hk⟩ := Array.getElem?_eq_some_iff.1 h
  show (w.heap.modify B _)[B]? = _
  rw [Array.getElem?_eq_getElem (by rw [Array.size_modify]; exact hlt), Array.getElem_modify_self, hk]
  rfl
variable {κ : Nat}
/-- A span laid at a place. -/
def put4 (W : World) (G n : Nat) (v : Sp) : World := (((W.setCell ⟨G, n * 4, none⟩ (.int .i64 v.fr)).setCell ⟨G, n * 4 + 1, none⟩ (.int .i64 v.tt)).setCell ⟨G, n * 4 + 2, none⟩ (.int .i64 v.kd)).setCell ⟨G, n * 4 + 3, none⟩ (.int .i64 v.vl)
theorem put4_but (W : World) (G n : Nat) (v : Sp) : But (fun k => k = G) W (put4 W G n v) := ((((But.refl (fun k => k = G) W).setCell (p := ⟨G, n * 4, none⟩) rfl _).setCell (p := ⟨G, n * 4 + 1, none⟩) rfl _).setCell (p := ⟨G, n * 4 + 2, none⟩) rfl _).setCell (p := ⟨G, n * 4 + 3, none⟩) rfl _
/-- The order of outerFirst: by From, then the longer one first. -/
def csI (a b : Sp) : Int := if a.fr < b.fr then -1 else if b.fr < a.fr then 1 else if b.tt < a.tt then -1 else if a.tt < b.tt then 1 else 0
def ltS (a b : Sp) : Bool := decide (csI a b < 0)
theorem ltS_iff (a b : Sp) : ltS a b = true ↔ a.fr < b.fr ∨ (a.fr = b.fr ∧ b.tt < a.tt) := by
  unfold ltS csI
  rw [decide_eq_true_iff]
  split
  · omega
  · split
    · omega
    · split
      · omega
      · split <;> omega
theorem ltS_false (a b : Sp) : ltS a b = false ↔ ¬ (a.fr < b.fr ∨ (a.fr = b.fr ∧ b.tt < a.tt)) := by
  rw [← ltS_iff]
  cases ltS a b <;> simp
theorem swoS : Swo ltS where
  asym x y h := by
    rw [ltS_iff] at h
    rw [ltS_false]
    omega
  ntr x y z h1 h2 := by
    rw [ltS_false] at *
    omega
end Go.Proofs.Ytipnefaggpigfaa
