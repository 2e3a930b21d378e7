/- What the rows' list of package-level variables gives: errors.errorType and the two tables of package cell lie in memory as their text lays them; and a world in which they lie so. -/
import Derived.Test.YthhhglfcacoejaaGreatDoorCards
import Derived.Test.YthhhglfcacoejaaGreatDoorTie
import Derived.Test.YthhhglfcacoejaaGreatDoorCellM
import Derived.Test.YthhhglfcacoejaaGreatDoorGC
import Derived.PinnedBridge
import Derived.Lib.LaidU8
import Derived.ChangeSame
import Derived.ChangeVars
import Derived.JoinedOf
import Derived.RowKit
import Derived.RowKitTokens
import Derived.LaidLaws
import Derived.LaidHandle
import Derived.Stop.Joined
import Derived.WalkKit
import Derived.ProofKit
import Derived.OpenShut
import Derived.LaidMore
import Derived.Deep.SlicePairs
import Derived.Deep.DeepHandedRow
namespace Go.Proofs.YthhhglfcacoejaaGreatDoor
open Go.ChangeShapes Go.WideShapes Go.ChangeAt Go.RowKit Go.Shelf Go.Lib

set_option maxRecDepth 100000

theorem own : ownKnob Tryz.prog.godebug = none := by kernel_rfl
def listed2 : List (String × DataW Unit) := [("surtitle/cell.noCells", Rows.laid_surtitle_cell_noCells), ("surtitle/cell.twoCells", Rows.laid_surtitle_cell_twoCells)]
def listed1 : List (String × DataW Unit) := [("errors.errorType", Rows.laid_errors_errorType)]
def listed : List (String × DataW Unit) := [("errors.errorType", Rows.laid_errors_errorType), ("surtitle/cell.noCells", Rows.laid_surtitle_cell_noCells), ("surtitle/cell.twoCells", Rows.laid_surtitle_cell_twoCells)]
def pairData (l : List (Int × Int)) : DataW Unit := .slice (l.map fun p => .agg [.lit (.int .i32 p.1), .lit (.int .i32 p.2)]) []
theorem no_eq : Rows.laid_surtitle_cell_noCells = pairData tab0 := by kernel_rfl
theorem two_eq : Rows.laid_surtitle_cell_twoCells = pairData tab2 := by kernel_rfl

theorem tab_of_reads {W : World} {name : String} {g : Nat} {l : List (Int × Int)} (hn : Tryz.prog.globalNamed name = some g) (hy : (Tryz.prog.globals[g]?).map (·.type) = some 171)
    (f0 f1 : Field) (he : Tryz.prog.underlying 173 = some (.struct #[f0, f1])) (o0 : f0.offset = 0) (o1 : f1.offset = 1) (y0 : f0.type = 21) (y1 : f1.type = 21)
    (hl0 : 0 < l.length) (h : VarReads Tryz.prog W name (pairData l)) : Tab W.heap.size g l W := by
  obtain ⟨g', t, cs, fuel, p, hg, hty, hvar, hd⟩ := h
  obtain rfl := Option.some.inj (hn.symm.trans hg)
  obtain rfl := Option.some.inj (hy.symm.trans hty)
  rcases Deep.open_slice_pairs (by kernel_rfl) he (by kernel_rfl) o0 o1 (by rw [y0]; kernel_rfl) (by rw [y1]; kernel_rfl) hd with ⟨_, hx⟩ | ⟨a, len, cap, m, n, V0, V1, D0, D1, P0, P1, hcs, _, hl, hm, hmm, hx, hel⟩
  · simp [pairData] at hx
  simp only [pairData, Prod.mk.injEq, DataW.slice.injEq] at hx
  obtain ⟨⟨hx1, _⟩, _⟩ := hx
  have hlen : len = l.length := by have := congrArg List.length hx1; simpa using this.symm
  subst hlen
  have hcell : W.cell? ⟨g, 0, none⟩ = some (.slice (some a) l.length cap) := by
    have := World.var?_cell hg hvar 0
    rw [Array.eq_one_of_toList hcs] at this
    simpa using this
  have hlm : l.length ≤ m := by rw [hmm]; split <;> omega
  have hels : ∀ (i : Nat) (p : Int × Int), l[i]? = some p → W.cell? (a.add (i * 2)) = some (.int .i32 p.1) ∧ W.cell? (a.add (i * 2 + 1)) = some (.int .i32 p.2) := by
    intro i p hp
    have hi : i < l.length := (List.getElem?_eq_some_iff.1 hp).1
    obtain ⟨e0, e1, t0, t1⟩ := hel i (by omega)
    have := congrArg (·[i]?) hx1
    simp only [List.getElem?_map, hp, Option.map_some, List.getElem?_range hi, Option.some.injEq, DataW.agg.injEq, List.cons.injEq, and_true] at this
    rw [y0] at t0
    rw [y1] at t1
    obtain ⟨k0, a0, b0, _⟩ := DataW.trod_int Tryz.underlying21 t0
    obtain ⟨k1, a1, b1, _⟩ := DataW.trod_int Tryz.underlying21 t1
    simp only [Prod.mk.injEq] at b0 b1
    rw [b0.1, b1.1] at this
    simp at this
    simp at a0 a1
    rw [e0, e1, a0, a1, this.1, this.2]
    exact ⟨rfl, rfl⟩
  have hin : ∀ (q : Addr) (v : Value), W.cell? q = some v → q.block < W.heap.size := fun q v h => by
    refine Nat.lt_of_not_le fun e => ?_
    have : W.heap[q.block]? = none := Array.getElem?_eq_none e
    simp [World.cell?, this] at h
  refine ⟨⟨hin _ _ hcell, Nat.le_refl _⟩, a, cap, ⟨?_, by omega, hm⟩, hcell, hels⟩
  have := hin _ _ (hels 0 (l[0]) (List.getElem?_eq_getElem hl0)).1
  rwa [add_block] at this

theorem et_global : Tryz.prog.globalNamed "errors.errorType" = some 0 := by kernel_rfl
theorem rt_type : (Tryz.prog.cutTypes.find? (·.1 == "internal/reflectlite.rtype")).map (·.2) = some 148 := by kernel_rfl
theorem one_row : ((List.range 255).filter fun t => Tryz.prog.rowNamed t [101, 114, 114, 111, 114]) = [34] := by kernel_rfl
theorem n_types : Tryz.prog.types.size = 255 := by kernel_rfl
theorem tabs {W : World} (h : laidMetH Tryz.prog listed W) : Tabs W.heap.size W ∧ W.cell? ⟨0, 0, none⟩ = some (rty 34) := by
  have hh : laidMet Tryz.prog listed2 W ∧ handlesMet Tryz.prog listed1 W := h
  refine ⟨?_, ?_⟩
  · have h' := hh.1
    have h0 := laidMet.reads h' (n := "surtitle/cell.noCells") (d := Rows.laid_surtitle_cell_noCells) (by simp [listed2])
    have h1 := laidMet.reads h' (n := "surtitle/cell.twoCells") (d := Rows.laid_surtitle_cell_twoCells) (by simp [listed2])
    rw [no_eq] at h0
    rw [two_eq] at h1
    exact ⟨tab_of_reads (by kernel_rfl) (by kernel_rfl) _ _ Tryz.underlying173 rfl rfl rfl rfl (by decide) h0, tab_of_reads (by kernel_rfl) (by kernel_rfl) _ _ Tryz.underlying173 rfl rfl rfl rfl (by decide) h1⟩
  · have h' := hh
    obtain ⟨name, u, ty, e1, e2, e3, e4, e5⟩ := h'.2 _ (List.mem_singleton.2 rfl)
    have en : name = [101, 114, 114, 111, 114] := (Option.some.inj e1).symm
    subst en
    obtain rfl := Option.some.inj (rt_type.symm.trans e2)
    have hm : ty ∈ (List.range 255).filter fun t => Tryz.prog.rowNamed t [101, 114, 114, 111, 114] := List.mem_filter.2 ⟨List.mem_range.2 (by rw [← n_types]; exact e3), e4⟩
    rw [one_row] at hm
    obtain rfl := List.mem_singleton.1 hm
    have hh : typeHandle Tryz.prog 34 = .pointer (some ⟨6, 34, none⟩) := by kernel_rfl
    rw [hh] at e5
    unfold rty
    simpa using World.var?_cell et_global e5 0


/-- A world for the witness: what the variables' own text leaves, and the handle. -/
noncomputable def laidWorld (os : Os) : World :=
  let w0 := World.doorLaid Tryz.prog 84 os
  { w0 with heap := w0.heap.modify 0 fun
      | .cells _ t frozen => .cells #[rty 34] t frozen
      | o => o }
theorem laid_met (os : Os) (args : Array Value) : laidMetH Tryz.prog listed ((laidWorld os).forCall (fun _ _ => 0) ⟨#[], args, []⟩).memory :=
  laidMetH_of_parts (show laidMet Tryz.prog listed2 _ from laidMet_of_run' 8 (by kernel_rfl) (by kernel_rfl)) (by kernel_rfl)
end Go.Proofs.YthhhglfcacoejaaGreatDoor
