/- Package wrap: parts in memory; mayHaveDash, kindAt, stopAt. -/
import Derived.Test.YteignefcijmmeaaDoorWrC
import Derived.Test.YteignefcijmmeaaDoorLawL
import Derived.Deep.RegionHeld3
namespace Go.Proofs.YteignefcijmmeaaDoor
open Go.RowKit
attribute [local go_sem] Oper.semAt_some

/-- A cluster as breaking sees it: where it begins by bytes, signs, cells; its class; is it wide. -/
structure Pt where
  loc : Int
  sg : Int
  ce : Int
  cl : Int
  wd : Bool
/-- Parts that lie one behind the other. -/
def PRow (l : List Pt) (a : Addr) (V : World) : Prop := a.block < V.heap.size ∧ ∀ (i : Nat) (p : Pt), l[i]? = some p →
  V.cell? (a.add (i * 5)) = some (.int .i64 p.loc) ∧ V.cell? (a.add (i * 5 + 1)) = some (.int .i64 p.sg) ∧ V.cell? (a.add (i * 5 + 2)) = some (.int .i64 p.ce) ∧ V.cell? (a.add (i * 5 + 3)) = some (.int .i64 p.cl) ∧ V.cell? (a.add (i * 5 + 4)) = some (.bool p.wd)
theorem addrW_block (a : Addr) (n : Nat) : (a.add n).block = a.block := by unfold Addr.add; split <;> rfl
theorem addrW_next (a : Addr) (n k : Nat) : a.add (n + (k + 1)) = ⟨(a.add n).block, (a.add n).off + (k + 1), none⟩ := by
  unfold Addr.add
  by_cases h : n = 0
  · subst h; simp
  · simp [h]; omega
theorem PRow.keep {l : List Pt} {a : Addr} {V V2 : World} (h : PRow l a V) (b : Below V.heap.size V V2) : PRow l a V2 :=
  ⟨Nat.lt_of_lt_of_le h.1 b.size, fun i p hp => by
    obtain ⟨h0, h1, h2, h3, h4⟩ := h.2 i p hp
    have k : ∀ n, (a.add n).block < V.heap.size := fun n => by rw [addrW_block]; exact h.1
    exact ⟨(b.cell (k _)).trans h0, (b.cell (k _)).trans h1, (b.cell (k _)).trans h2, (b.cell (k _)).trans h3, (b.cell (k _)).trans h4⟩⟩
theorem PRow.five {l : List Pt} {a : Addr} {V : World} (h : PRow l a V) {i : Nat} {p : Pt} (hp : l[i]? = some p) :
    V.cell? (a.add (i * 5)) = some (.int .i64 p.loc) ∧ V.cell? ⟨(a.add (i * 5)).block, (a.add (i * 5)).off + 1, none⟩ = some (.int .i64 p.sg) ∧ V.cell? ⟨(a.add (i * 5)).block, (a.add (i * 5)).off + 2, none⟩ = some (.int .i64 p.ce) ∧ V.cell? ⟨(a.add (i * 5)).block, (a.add (i * 5)).off + 3, none⟩ = some (.int .i64 p.cl) ∧ V.cell? ⟨(a.add (i * 5)).block, (a.add (i * 5)).off + 4, none⟩ = some (.bool p.wd) := by
  obtain ⟨h0, h1, h2, h3, h4⟩ := h.2 i p hp
  rw [addrW_next] at h1 h2 h3 h4
  exact ⟨h0, h1, h2, h3, h4⟩
theorem bel1W (w : World) (o : Obj) : Below w.heap.size w (w.alloc o) := (Below.refl _ w).alloc (Nat.le_refl _) o
theorem bupW {w a b : World} (h : Below w.heap.size w a) (k : Below a.heap.size a b) : Below w.heap.size w b := h.trans (k.mono h.size)
def Pt.val (p : Pt) : Value := .agg #[.int .i64 p.loc, .int .i64 p.sg, .int .i64 p.ce, .int .i64 p.cl, .bool p.wd]
def dashB (p : Pt) : Bool := p.cl != 2 && p.cl != 1 && p.cl != 3
set_option maxRecDepth 100000 in
theorem dash_any (p : Pt) (w : World) : Calls Tryd.prog 72 #[p.val] w fun e w' => e = .returned (.bool (dashB p)) ∧ Below w.heap.size w w' := by
  unfold Pt.val dashB
  by_cases h2 : p.cl = 2
  · have t2 : (p.cl != 2) = false := by rw [h2]; rfl
    rw [t2]
    go_enter Tryd.func72, Tryd.ntmps72
    go_wp2_with fail
    go_ret
    exact ⟨rfl, bel1W w _⟩
  · have t2 : (p.cl != 2) = true := by rw [bne_iff_ne]; exact h2
    by_cases h1 : p.cl = 1
    · have t1 : (p.cl != 1) = false := by rw [h1]; rfl
      rw [t2, t1]
      go_enter Tryd.func72, Tryd.ntmps72
      go_wp2_with fail
      go_ret
      exact ⟨rfl, bel1W w _⟩
    · have t1 : (p.cl != 1) = true := by rw [bne_iff_ne]; exact h1
      obtain ⟨b, hb⟩ : ∃ b, (p.cl != 3) = b := ⟨_, rfl⟩
      rw [t2, t1, hb]
      go_enter Tryd.func72, Tryd.ntmps72
      go_wp2_with fail
      go_ret
      exact ⟨by cases b <;> rfl, bel1W w _⟩
end Go.Proofs.YteignefcijmmeaaDoor
