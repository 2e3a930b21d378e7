/- A row of knots, a row of ratios that are handed in, opened. -/
import Derived.Test.YtipnefaggpigfaaGreatKnD
import Derived.Deep.Slices
import Derived.ChangeOld
import Derived.ShutString
import Derived.DataShut
import Derived.OpenShut
import Derived.ChangeSame
import Derived.WideShapes
import Derived.ProofKit
import Derived.WalkKit
namespace Go.Proofs.YtipnefaggpigfaaGreat
open Go.ChangeShapes Go.WideShapes Go.ChangeAt Go.RowKit

theorem addrS_zero (a : Addr) : a.add 0 = a := by unfold Addr.add; rw [if_pos rfl]
theorem addrS_succ (a : Addr) (j : Nat) : a.add (j + 1) = ⟨a.block, a.off + (j + 1), none⟩ := by unfold Addr.add; rw [if_neg (by omega)]
theorem ok_i64 {n : Int} (h : (Lit.int .i64 n).wf = true) : I64 n := (Lit.wf_int_iff .i64 n).1 h
theorem ok_cellsRt : Tryz.prog.cellsOf 23 = 2 := by kernel_rfl
theorem ok_cellsKn : Tryz.prog.cellsOf 44 = 4 := by kernel_rfl
theorem ok_bytesKn : Tryz.prog.bytesOf 44 = 32 := by kernel_rfl
theorem ok_cells64 : Tryz.prog.cellsOf 2 = 1 := by kernel_rfl
theorem ok_rt {H : Type} {enc : TypeId × Value → H} {W : World} {base : Nat} {spare : Nat → Bool} {held : Bool} {m : Nat} {a b : Value} {x : DataW H × List MemPlace}
    (h : DataW.trod enc Tryz.prog W base spare held m 23 [a, b] = some x) : ∃ r : Rt, a = .int .i64 r.N ∧ b = .int .i64 r.D ∧ RtIn r := by
  obtain ⟨y0, y1, k, _, _, t0, t1⟩ := trod_struct2 Tryz.underlying23 h
  obtain ⟨k0, a0, _, w0⟩ := DataW.trod_int Tryz.underlying2 t0
  obtain ⟨k1, a1, _, w1⟩ := DataW.trod_int Tryz.underlying2 t1
  simp [ok_cells64] at a0 a1
  exact ⟨⟨k0, k1⟩, a0, a1, ⟨ok_i64 w0, ok_i64 w1⟩⟩
theorem ok_kn {H : Type} {enc : TypeId × Value → H} {W : World} {base : Nat} {spare : Nat → Bool} {held : Bool} {m : Nat} {a b c d : Value} {x : DataW H × List MemPlace}
    (h : DataW.trod enc Tryz.prog W base spare held m 44 [a, b, c, d] = some x) : ∃ r : Kn, (a = .int .i64 r.i.N ∧ b = .int .i64 r.i.D ∧ c = .int .i64 r.o.N ∧ d = .int .i64 r.o.D) ∧ KnIn r := by
  obtain ⟨y0, y1, k, _, _, t0, t1⟩ := trod_struct2 Tryz.underlying44 h
  simp [ok_cellsRt] at t0 t1
  obtain ⟨i, rfl, rfl, hi⟩ := ok_rt t0
  obtain ⟨o, rfl, rfl, ho⟩ := ok_rt t1
  exact ⟨⟨i, o⟩, ⟨rfl, rfl, rfl, rfl⟩, hi, ho⟩
instance : Inhabited Kn := ⟨⟨⟨0, 0⟩, ⟨0, 0⟩⟩⟩
theorem ok_pick {α : Type} [Inhabited α] {n : Nat} {p : Nat → α → Prop} (h : ∀ i, i < n → ∃ x, p i x) : ∃ f : Nat → α, ∀ i, i < n → p i (f i) := by
  classical
  refine ⟨fun i => if hi : i < n then Classical.choose (h i hi) else default, fun i hi => ?_⟩
  simp only [hi, dif_pos]
  exact Classical.choose_spec (h i hi)
set_option maxRecDepth 100000 in
theorem open_knK {H : Type} {enc : TypeId × Value → H} {W : World} {base : Nat} {spare : Nat → Bool} {held : Bool} {v : Value} {d : DataW H} {p : List MemPlace} {r : Reach} {b0 : Nat}
    (hv : Value.okWide Tryz.prog W r b0 45 v) (hh : DataW.Trod enc Tryz.prog W base spare held 45 v d p) (hsz : (DataW.weights Tryz.prog 45 d).all (· ≤ reachBytes) = true) :
    ∃ (L : List Kn) (o : Option Addr) (cap : Nat), v = .slice o L.length cap ∧ (∀ x ∈ L, KnIn x) ∧ (L.length ≤ cap ∧ cap ≤ maxLen) ∧ (o = none → cap = 0) ∧ L.length * 32 ≤ 140737488355328 ∧ KnO W o L := by
  obtain ⟨o, len, cap, rfl⟩ := okWide_slice Tryz.underlying45 hv
  obtain ⟨fuel, h⟩ := hh
  rcases Deep.open_slice Tryz.underlying45 h with ⟨hcs, hx⟩ | ⟨a, len', cap', m, n, E, Pl, hcs, hb, hl, hm, hmm, hx, hel⟩
  · simp [Value.cells] at hcs
    obtain ⟨rfl, rfl, rfl⟩ := hcs
    exact ⟨[], none, 0, rfl, (fun x hx => by cases hx), ⟨by simp, by decide⟩, fun _ => rfl, by simp, fun i p hp => by simp at hp⟩
  · simp [Value.cells] at hcs
    obtain ⟨rfl, rfl, rfl⟩ := hcs
    have hlm : len ≤ m := by rw [hmm]; split <;> omega
    simp only [Prod.mk.injEq] at hx
    rw [hx.1] at hsz
    unfold DataW.weights at hsz
    have hu : Tryz.prog.underlying 45 = _ := Tryz.underlying45
    rw [hu] at hsz
    simp only [List.all_cons, List.all_append, Bool.and_eq_true, ok_bytesKn, reachBytes] at hsz
    have h1 := of_decide_eq_true hsz.1
    have key : ∀ i, i < len → ∃ x : Kn, KnIn x ∧ a.block < W.heap.size ∧
        W.cell? (a.add (i * 4)) = some (.int .i64 x.i.N) ∧ W.cell? ⟨(a.add (i * 4)).block, (a.add (i * 4)).off + 1, none⟩ = some (.int .i64 x.i.D) ∧ W.cell? ⟨(a.add (i * 4)).block, (a.add (i * 4)).off + 2, none⟩ = some (.int .i64 x.o.N) ∧ W.cell? ⟨(a.add (i * 4)).block, (a.add (i * 4)).off + 3, none⟩ = some (.int .i64 x.o.D) := by
      intro i hi
      obtain ⟨cs', h1, h2⟩ := hel i (by omega)
      rw [ok_cellsKn] at h1
      have hbl := World.cells?_block h1 (by decide)
      rw [addrN_block] at hbl
      obtain ⟨_, hlen, hcell⟩ := World.cells?_some h1
      match cs', hlen with
      | [v0, v1, v2, v3], _ =>
        obtain ⟨q, ⟨rfl, rfl, rfl, rfl⟩, hQ⟩ := ok_kn h2
        have e0 := hcell 0 (by omega)
        have e1 := hcell 1 (by omega)
        have e2 := hcell 2 (by omega)
        have e3 := hcell 3 (by omega)
        rw [addrS_zero] at e0
        rw [addrS_succ] at e1 e2 e3
        exact ⟨q, hQ, hbl, e0, e1, e2, e3⟩
    obtain ⟨q, hq⟩ := ok_pick key
    refine ⟨(List.range len).map q, some a, cap, by simp, fun r hr => ?_, ⟨by simpa using hl, hm⟩, (fun e => nomatch e), ?_, fun i r hr => ?_⟩
    · obtain ⟨i, hi, rfl⟩ := List.mem_map.1 hr
      exact (hq i (List.mem_range.1 hi)).1
    · simp at h1 ⊢
      omega
    · have hi : i < len := by
        have := (List.getElem?_eq_some_iff.1 hr).1
        simpa using this
      have er : r = q i := by
        rw [List.getElem?_map, List.getElem?_range hi] at hr
        simpa using hr.symm
      rw [er]
      exact ⟨a, rfl, (hq i hi).2⟩
set_option maxRecDepth 100000 in
theorem open_rtK {H : Type} {enc : TypeId × Value → H} {W : World} {base : Nat} {spare : Nat → Bool} {held : Bool} {v : Value} {d : DataW H} {p : List MemPlace} {r : Reach} {b0 : Nat}
    (hv : Value.okWide Tryz.prog W r b0 26 v) (hh : DataW.Trod enc Tryz.prog W base spare held 26 v d p) :
    ∃ (L : List Rt) (o : Option Addr) (cap : Nat), v = .slice o L.length cap ∧ (∀ x ∈ L, RtIn x) ∧ (L.length ≤ cap ∧ cap ≤ maxLen) ∧ RtO W o L := by
  obtain ⟨o, len, cap, rfl⟩ := okWide_slice Tryz.underlying26 hv
  obtain ⟨fuel, h⟩ := hh
  rcases Deep.open_slice Tryz.underlying26 h with ⟨hcs, hx⟩ | ⟨a, len', cap', m, n, E, Pl, hcs, hb, hl, hm, hmm, hx, hel⟩
  · simp [Value.cells] at hcs
    obtain ⟨rfl, rfl, rfl⟩ := hcs
    exact ⟨[], none, 0, rfl, (fun x hx => by cases hx), ⟨by simp, by decide⟩, fun i p hp => by simp at hp⟩
  · simp [Value.cells] at hcs
    obtain ⟨rfl, rfl, rfl⟩ := hcs
    have hlm : len ≤ m := by rw [hmm]; split <;> omega
    have key : ∀ i, i < len → ∃ x : Rt, RtIn x ∧ a.block < W.heap.size ∧ W.cell? (a.add (i * 2)) = some (.int .i64 x.N) ∧ W.cell? ⟨(a.add (i * 2)).block, (a.add (i * 2)).off + 1, none⟩ = some (.int .i64 x.D) := by
      intro i hi
      obtain ⟨cs', h1, h2⟩ := hel i (by omega)
      rw [ok_cellsRt] at h1
      have hbl := World.cells?_block h1 (by decide)
      rw [addrN_block] at hbl
      obtain ⟨_, hlen, hcell⟩ := World.cells?_some h1
      match cs', hlen with
      | [v0, v1], _ =>
        obtain ⟨q, rfl, rfl, hQ⟩ := ok_rt h2
        have e0 := hcell 0 (by omega)
        have e1 := hcell 1 (by omega)
        rw [addrS_zero] at e0
        rw [addrS_succ] at e1
        exact ⟨q, hQ, hbl, e0, e1⟩
    haveI : Inhabited Rt := ⟨⟨0, 0⟩⟩
    obtain ⟨q, hq⟩ := ok_pick key
    refine ⟨(List.range len).map q, some a, cap, by simp, fun r hr => ?_, ⟨by simpa using hl, hm⟩, fun i r hr => ?_⟩
    · obtain ⟨i, hi, rfl⟩ := List.mem_map.1 hr
      exact (hq i (List.mem_range.1 hi)).1
    · have hi : i < len := by
        have := (List.getElem?_eq_some_iff.1 hr).1
        simpa using this
      have er : r = q i := by
        rw [List.getElem?_map, List.getElem?_range hi] at hr
        simpa using hr.symm
      rw [er]
      exact ⟨a, rfl, (hq i hi).2⟩
end Go.Proofs.YtipnefaggpigfaaGreat
