/- Rows of spans in memory, which may be written; the order of outerFirst (chapter 7). -/
import Derived.Test.YtbiodfeanngkdaaDoorStA
import Derived.Test.YtbiodfeanngkdaaDoorLawL
import Derived.OwnWalk
import Derived.WalkKit
import Derived.WalkSpells
import Derived.WalkLawsBesides
import Derived.Deep.QuietTactic
import Derived.BigQuiet
import Derived.Shelf.RegionOpen
import Derived.Deep.RegionHeld3
import Derived.Deep.Cut
import Derived.Deep.CutRange
import Derived.Deep.CutBlock
import Derived.Deep.DeepCutAuto
namespace Go.Proofs.YtbiodfeanngkdaaDoor
open Go.RowKit Go.Shelf
attribute [local go_sem] Oper.semAt_some

theorem hideS {p : Prop} (h : p) : Hid p := h
theorem bel1S (w : World) (o : Obj) : Below w.heap.size w (w.alloc o) := (Below.refl _ w).alloc (Nat.le_refl _) o
theorem bupS {w a b : World} (h : Below w.heap.size w a) (k : Below a.heap.size a b) : Below w.heap.size w b := h.trans (k.mono h.size)
theorem below_dnS {B : Nat} {a w : World} (h : Below B a w) (n : Nat) : Below B a (w.drewN n) := h.trans ⟨rfl, rfl, rfl, Nat.le_refl _, fun _ _ => rfl⟩
/-- A span. -/
structure Sp where
  fr : Int
  tt : Int
  kd : Int
  vl : Int
def Sp.val (x : Sp) : Value := .agg #[.int .i64 x.fr, .int .i64 x.tt, .int .i64 x.kd, .int .i64 x.vl]
theorem set_atS {w : World} {B : Nat} {cs : Array Value} {t : TypeId} {fr : Nat × Nat} (h : w.heap[B]? = some (.cells cs t fr)) (i : Nat) (v : Value) : (w.setCell ⟨B, i, none⟩ v).heap[B]? = some (.cells (cs.setIfInBounds i v) t fr) := by
  obtain ⟨hlt, hk⟩ := Array.getElem?_eq_some_iff.1 h
  show (w.heap.modify B _)[B]? = _
  rw [Array.getElem?_eq_getElem (by rw [Array.size_modify]; exact hlt), Array.getElem_modify_self, hk]
  rfl
/-- Spans in a block of their own, which may be written. -/
def SC (κ : Nat) (W : World) (G : Nat) (Q : List Sp) : Prop := ∃ cur : Array Value, W.heap[G]? = some (.cells cur 45 (0, 0)) ∧ cur.size = κ ∧ ∀ (i : Nat) (p : Sp), Q[i]? = some p → cur[i * 4]? = some (.int .i64 p.fr) ∧ cur[i * 4 + 1]? = some (.int .i64 p.tt) ∧ cur[i * 4 + 2]? = some (.int .i64 p.kd) ∧ cur[i * 4 + 3]? = some (.int .i64 p.vl)
variable {κ : Nat}
theorem SC.lt {W : World} {G : Nat} {Q : List Sp} (h : SC κ W G Q) : G < W.heap.size := by
  obtain ⟨_, h1, _⟩ := h
  exact (Array.getElem?_eq_some_iff.1 h1).1
theorem SC.same {W U : World} {G : Nat} {Q : List Sp} (h : SC κ W G Q) (e : U.heap[G]? = W.heap[G]?) : SC κ U G Q := by
  obtain ⟨cur, h1, h2⟩ := h
  exact ⟨cur, e.trans h1, h2⟩
theorem SC.keep {W U : World} {G : Nat} {Q : List Sp} (h : SC κ W G Q) (b : Below W.heap.size W U) : SC κ U G Q := h.same (b.block G h.lt)
theorem SC.at {W : World} {G : Nat} {Q : List Sp} (h : SC κ W G Q) {i : Nat} {p : Sp} (hp : Q[i]? = some p) :
    (W.cell? ⟨G, i * 4, none⟩ = some (.int .i64 p.fr) ∧ W.cell? ⟨G, i * 4 + 1, none⟩ = some (.int .i64 p.tt) ∧ W.cell? ⟨G, i * 4 + 2, none⟩ = some (.int .i64 p.kd) ∧ W.cell? ⟨G, i * 4 + 3, none⟩ = some (.int .i64 p.vl)) ∧ W.frozen? ⟨G, i * 4, none⟩ = false ∧ W.frozen? ⟨G, i * 4 + 1, none⟩ = false ∧ W.frozen? ⟨G, i * 4 + 2, none⟩ = false ∧ W.frozen? ⟨G, i * 4 + 3, none⟩ = false := by
  obtain ⟨cur, h1, _, h2⟩ := h
  obtain ⟨c0, c1, c2, c3⟩ := h2 i p hp
  simp [World.cell?, World.frozen?, h1, c0, c1, c2, c3]
/-- A span laid at a place. -/
def put4 (W : World) (G n : Nat) (v : Sp) : World := (((W.setCell ⟨G, n * 4, none⟩ (.int .i64 v.fr)).setCell ⟨G, n * 4 + 1, none⟩ (.int .i64 v.tt)).setCell ⟨G, n * 4 + 2, none⟩ (.int .i64 v.kd)).setCell ⟨G, n * 4 + 3, none⟩ (.int .i64 v.vl)
theorem SC.set {W : World} {G : Nat} {Q : List Sp} (h : SC κ W G Q) (n : Nat) (v : Sp) : SC κ (put4 W G n v) G (Q.set n v) := by
  obtain ⟨cur, h1, h0, h2⟩ := h
  refine ⟨(((cur.setIfInBounds (n * 4) (.int .i64 v.fr)).setIfInBounds (n * 4 + 1) (.int .i64 v.tt)).setIfInBounds (n * 4 + 2) (.int .i64 v.kd)).setIfInBounds (n * 4 + 3) (.int .i64 v.vl), set_atS (set_atS (set_atS (set_atS h1 _ _) _ _) _ _) _ _, by simpa using h0, fun i p hp => ?_⟩
  rw [List.getElem?_set] at hp
  by_cases c : n = i
  · subst c
    rw [if_pos rfl] at hp
    split at hp
    · rename_i hn
      obtain rfl : v = p := by simpa using hp
      obtain ⟨c0, c1, c2, c3⟩ := h2 n Q[n] (List.getElem?_eq_getElem hn)
      have b0 := (Array.getElem?_eq_some_iff.1 c0).1
      have b1 := (Array.getElem?_eq_some_iff.1 c1).1
      have b2 := (Array.getElem?_eq_some_iff.1 c2).1
      have b3 := (Array.getElem?_eq_some_iff.1 c3).1
      refine ⟨?_, ?_, ?_, ?_⟩
      · rw [Array.getElem?_setIfInBounds_ne (by omega), Array.getElem?_setIfInBounds_ne (by omega), Array.getElem?_setIfInBounds_ne (by omega), Array.getElem?_setIfInBounds_self_of_lt b0]
      · rw [Array.getElem?_setIfInBounds_ne (by omega), Array.getElem?_setIfInBounds_ne (by omega), Array.getElem?_setIfInBounds_self_of_lt (by simpa using b1)]
      · rw [Array.getElem?_setIfInBounds_ne (by omega), Array.getElem?_setIfInBounds_self_of_lt (by simpa using b2)]
      · rw [Array.getElem?_setIfInBounds_self_of_lt (by simpa using b3)]
    · cases hp
  · rw [if_neg c] at hp
    obtain ⟨c0, c1, c2, c3⟩ := h2 i p hp
    have ne : ∀ j, j < 4 → ((((cur.setIfInBounds (n * 4) (.int .i64 v.fr)).setIfInBounds (n * 4 + 1) (.int .i64 v.tt)).setIfInBounds (n * 4 + 2) (.int .i64 v.kd)).setIfInBounds (n * 4 + 3) (.int .i64 v.vl))[i * 4 + j]? = cur[i * 4 + j]? := fun j hj => by
      rw [Array.getElem?_setIfInBounds_ne (by omega), Array.getElem?_setIfInBounds_ne (by omega), Array.getElem?_setIfInBounds_ne (by omega), Array.getElem?_setIfInBounds_ne (by omega)]
    exact ⟨(ne 0 (by omega)).trans c0, (ne 1 (by omega)).trans c1, (ne 2 (by omega)).trans c2, (ne 3 (by omega)).trans c3⟩
theorem put4_but (W : World) (G n : Nat) (v : Sp) : But (fun k => k = G) W (put4 W G n v) := ((((But.refl (fun k => k = G) W).setCell (p := ⟨G, n * 4, none⟩) rfl _).setCell (p := ⟨G, n * 4 + 1, none⟩) rfl _).setCell (p := ⟨G, n * 4 + 2, none⟩) rfl _).setCell (p := ⟨G, n * 4 + 3, none⟩) rfl _
/-- The order of outerFirst: by From, then the longer one first. -/
def csI (a b : Sp) : Int := if a.fr < b.fr then -1 else if b.fr < a.fr then 1 else if b.tt < a.tt then -1 else if a.tt < b.tt then 1 else 0
def ltS (a b : Sp) : Bool := decide (csI a b < 0)
theorem ltS_iff (a b : Sp) : ltS a b = true ↔ a.fr < b.fr ∨ (a.fr = b.fr ∧ b.tt < a.tt) := by
  unfold ltS csI
  rw [decide_eq_true_iff]
  split
  · omega
  · split
    · omega
    · split
      · omega
      · split <;> omega
theorem ltS_false (a b : Sp) : ltS a b = false ↔ ¬ (a.fr < b.fr ∨ (a.fr = b.fr ∧ b.tt < a.tt)) := by
  rw [← ltS_iff]
  cases ltS a b <;> simp
theorem swoS : Swo ltS where
  asym x y h := by
    rw [ltS_iff] at h
    rw [ltS_false]
    omega
  ntr x y z h1 h2 := by
    rw [ltS_false] at *
    omega
end Go.Proofs.YtbiodfeanngkdaaDoor
