/- What the rows' list of package-level variables gives: the two tables of package cell and the two of unicode/utf8 lie in memory as their texts lay them; and a world in which they lie so. -/
import Derived.Test.YtbehlaclffjkbaaDoorCards
import Derived.Test.YtbehlaclffjkbaaDoorTie
import Derived.Test.YtbehlaclffjkbaaDoorCellM
import Derived.PinnedBridge
import Derived.Lib.LaidU8
import Derived.Lib.LaidU8T
import Derived.WalkKit
import Derived.ProofKit
import Derived.OpenShut
import Derived.LaidMore
import Derived.Deep.SlicePairs
import Derived.Deep.DeepHandedRow
import Derived.Lib.LaidTab
namespace Go.Proofs.YtbehlaclffjkbaaDoor
open Go.ChangeShapes Go.WideShapes Go.ChangeAt Go.RowKit Go.Shelf Go.Lib

set_option maxRecDepth 100000

theorem own : ownKnob Tryd.prog.godebug = none := by kernel_rfl
def ren : Ren := ⟨fun x => x, fun x => if x = 119 then 93 else if x = 138 then 96 else if x = 139 then 97 else x, fun x => if x = 3 then 0 else if x = 4 then 1 else x⟩
theorem u8types : U8Types Tryd.prog ren := ⟨by kernel_rfl, by kernel_rfl, by kernel_rfl, by kernel_rfl⟩
theorem u8extra : U8Extra Tryd.prog ren := ⟨by kernel_rfl, by kernel_rfl, by kernel_rfl, by kernel_rfl, by kernel_rfl, by kernel_rfl, by kernel_rfl⟩
theorem accept_eq : Rows.laid_unicode_utf8_acceptRanges = acceptData := by kernel_rfl
def listed : List (String × DataW Unit) := [("unicode/utf8.acceptRanges", Rows.laid_unicode_utf8_acceptRanges), ("surtitle/cell.noCells", Rows.laid_surtitle_cell_noCells), ("surtitle/cell.twoCells", Rows.laid_surtitle_cell_twoCells), ("unicode/utf8.first", Rows.laid_unicode_utf8_first)]
def pairData (l : List (Int × Int)) : DataW Unit := .slice (l.map fun p => .agg [.lit (.int .i32 p.1), .lit (.int .i32 p.2)]) []
theorem no_eq : Rows.laid_surtitle_cell_noCells = pairData tab0 := by kernel_rfl
theorem two_eq : Rows.laid_surtitle_cell_twoCells = pairData tab2 := by kernel_rfl

theorem tab_of_reads {W : World} {name : String} {g : Nat} {l : List (Int × Int)} (hn : Tryd.prog.globalNamed name = some g) (hy : (Tryd.prog.globals[g]?).map (·.type) = some 103)
    (f0 f1 : Field) (he : Tryd.prog.underlying 105 = some (.struct #[f0, f1])) (o0 : f0.offset = 0) (o1 : f1.offset = 1) (y0 : f0.type = 21) (y1 : f1.type = 21)
    (hl0 : 0 < l.length) (h : VarReads Tryd.prog W name (pairData l)) : Tab W.heap.size g l W := by
  obtain ⟨g', t, cs, fuel, p, hg, hty, hvar, hd⟩ := h
  obtain rfl := Option.some.inj (hn.symm.trans hg)
  obtain rfl := Option.some.inj (hy.symm.trans hty)
  rcases Deep.open_slice_pairs (by kernel_rfl) he (by kernel_rfl) o0 o1 (by rw [y0]; kernel_rfl) (by rw [y1]; kernel_rfl) hd with ⟨_, hx⟩ | ⟨a, len, cap, m, n, V0, V1, D0, D1, P0, P1, hcs, _, hl, hm, hmm, hx, hel⟩
  · simp [pairData] at hx
  simp only [pairData, Prod.mk.injEq, DataW.slice.injEq] at hx
  obtain ⟨⟨hx1, _⟩, _⟩ := hx
  have hlen : len = l.length := by have := congrArg List.length hx1; simpa using this.symm
  subst hlen
  have hcell : W.cell? ⟨g, 0, none⟩ = some (.slice (some a) l.length cap) := by
    have := World.var?_cell hg hvar 0
    rw [Array.eq_one_of_toList hcs] at this
    simpa using this
  have hlm : l.length ≤ m := by rw [hmm]; split <;> omega
  have hels : ∀ (i : Nat) (p : Int × Int), l[i]? = some p → W.cell? (a.add (i * 2)) = some (.int .i32 p.1) ∧ W.cell? (a.add (i * 2 + 1)) = some (.int .i32 p.2) := by
    intro i p hp
    have hi : i < l.length := (List.getElem?_eq_some_iff.1 hp).1
    obtain ⟨e0, e1, t0, t1⟩ := hel i (by omega)
    have := congrArg (·[i]?) hx1
    simp only [List.getElem?_map, hp, Option.map_some, List.getElem?_range hi, Option.some.injEq, DataW.agg.injEq, List.cons.injEq, and_true] at this
    rw [y0] at t0
    rw [y1] at t1
    obtain ⟨k0, a0, b0, _⟩ := DataW.trod_int Tryd.underlying21 t0
    obtain ⟨k1, a1, b1, _⟩ := DataW.trod_int Tryd.underlying21 t1
    simp only [Prod.mk.injEq] at b0 b1
    rw [b0.1, b1.1] at this
    simp at this
    simp at a0 a1
    rw [e0, e1, a0, a1, this.1, this.2]
    exact ⟨rfl, rfl⟩
  have hin : ∀ (q : Addr) (v : Value), W.cell? q = some v → q.block < W.heap.size := fun q v h => by
    refine Nat.lt_of_not_le fun e => ?_
    have : W.heap[q.block]? = none := Array.getElem?_eq_none e
    simp [World.cell?, this] at h
  refine ⟨⟨hin _ _ hcell, Nat.le_refl _⟩, a, cap, ⟨?_, by omega, hm⟩, hcell, hels⟩
  have := hin _ _ (hels 0 (l[0]) (List.getElem?_eq_getElem hl0)).1
  rwa [add_block] at this


theorem tabs {W : World} (h : laidMetH Tryd.prog listed W) : Tabs W.heap.size W ∧ Lib.Utf8Tabs 0 1 W := by
  have h' : laidMet Tryd.prog listed W := by rw [MakeChecks.laidMetH_plain _ _ _ (by kernel_rfl)] at h; exact h
  have h0 := laidMet.reads h' (n := "surtitle/cell.noCells") (d := Rows.laid_surtitle_cell_noCells) (by simp [listed])
  have h1 := laidMet.reads h' (n := "surtitle/cell.twoCells") (d := Rows.laid_surtitle_cell_twoCells) (by simp [listed])
  rw [no_eq] at h0
  rw [two_eq] at h1
  have h3 : VarReads Tryd.prog W "unicode/utf8.first" firstData := by
    have := laidMet.reads h' (n := "unicode/utf8.first") (d := Rows.laid_unicode_utf8_first) (by simp [listed])
    rw [show Rows.laid_unicode_utf8_first = firstData from Pinned.utf8First_eq] at this
    exact this
  have h4 : VarReads Tryd.prog W "unicode/utf8.acceptRanges" acceptData := by
    have := laidMet.reads h' (n := "unicode/utf8.acceptRanges") (d := Rows.laid_unicode_utf8_acceptRanges) (by simp [listed])
    rw [accept_eq] at this
    exact this
  exact ⟨⟨tab_of_reads (by kernel_rfl) (by kernel_rfl) _ _ Tryd.underlying105 rfl rfl rfl rfl (by decide) h0, tab_of_reads (by kernel_rfl) (by kernel_rfl) _ _ Tryd.underlying105 rfl rfl rfl rfl (by decide) h1⟩, utf8Tabs_of_readsT u8types u8extra h3 h4⟩

/-- A block of cells, holding these. -/
def putCells (c : Array Value) (o : Obj) : Obj := match o with
  | .cells _ t frozen => .cells c t frozen
  | x => x
def firstCells : Array Value := (firstTab.map fun z => Value.int .u8 z).toArray
def acceptCells : Array Value := ((List.range 32).map fun i => Value.int .u8 (if i % 2 = 0 then accLo (i / 2) else accHi (i / 2) : Nat)).toArray
def layTabs (h : Array Obj) : Array Obj := (h.modify 0 (putCells firstCells)).modify 1 (putCells acceptCells)
/-- A world for the witness: what the tables' own texts leave. -/
noncomputable def laidWorld (os : Os) : World := { World.doorLaid Tryd.prog 77 os with heap := layTabs (World.doorLaid Tryd.prog 77 os).heap }
theorem laid_met (os : Os) (args : Array Value) : laidMet Tryd.prog listed ((laidWorld os).forCall (fun _ _ => 0) ⟨#[], args, []⟩).memory :=
  laidMet_of_run' 8 (by kernel_rfl) (by kernel_rfl)
end Go.Proofs.YtbehlaclffjkbaaDoor
