/- Several texts, one behind the other. -/
import Derived.Shelf.Sort.Plain
import Derived.Lib.SortBridge
import Derived.Shelf.Slices.CompactI
import Derived.Lib.RowBridge
import Derived.Laws.StructEq
import Derived.Test.YtlkgnheccoodpaaGreatDoorGS
import Derived.Test.YtlkgnheccoodpaaGreatDoorProg
/- style.lay, style.lookAt (chapter 7). -/
namespace Go.Proofs.YtlkgnheccoodpaaGreatDoor
open Go.RowKit Go.Shelf
attribute [local go_sem] Oper.semAt_some

/-- How a sign looks. -/
structure At where
  b : Bool
  i : Bool
  u : Bool
  s : Bool
  c : Int
deriving DecidableEq
def At.val (a : At) : Value := .agg #[.bool a.b, .bool a.i, .bool a.u, .bool a.s, .int .i64 a.c]
def at0 : At := ⟨false, false, false, false, 0⟩
/-- A look under one more span. -/
def layA (a : At) (x : Sp) : At := if x.kd = 1 then { a with b := true } else if x.kd = 2 then { a with i := true } else if x.kd = 3 then { a with u := true } else if x.kd = 4 then { a with s := true } else if x.kd = 5 then { a with c := IntKind.i64.wrap (x.vl + 1) } else a
/-- How a sign looks under spans that are laid one by one. -/
def lookA (D : List Sp) (n : Int) : At := D.foldl (fun a x => if x.fr ≤ n ∧ n < x.tt then layA a x else a) at0
theorem lookA_snoc (D : List Sp) (x : Sp) (n : Int) : lookA (D ++ [x]) n = if x.fr ≤ n ∧ n < x.tt then layA (lookA D n) x else lookA D n := by simp [lookA]
end Go.Proofs.YtlkgnheccoodpaaGreatDoor

/- The shelf's contract of slices.Sort at ints speaks of this program. -/
namespace Go.Proofs.YtlkgnheccoodpaaGreatDoor
open Go.Shelf
end Go.Proofs.YtlkgnheccoodpaaGreatDoor

/- The shelf's contract of slices.Compact at ints speaks of this program. -/
namespace Go.Proofs.YtlkgnheccoodpaaGreatDoor
open Go.Shelf
end Go.Proofs.YtlkgnheccoodpaaGreatDoor

/- style.bounds (chapter 7). -/
namespace Go.Proofs.YtlkgnheccoodpaaGreatDoor
open Go.RowKit Go.Shelf Go.Sort
attribute [local go_sem] Oper.semAt_some

/-- Ints in memory. -/
def intV (l : List Int) : List Value := l.map (Value.int .i64)
theorem but_setCells (b : Nat) : ∀ (vs : List Value) (o : Nat) (w : World), But (fun k => k = b) w (w.setCells b o vs)
  | [], _, w => But.refl _ w
  | v :: r, o, w => (But.set (M := fun k => k = b) w ⟨b, o, none⟩ v rfl).trans (but_setCells b r (o + 1) _)
theorem below_grow (w : World) (os : Array Obj) : Below w.heap.size w (grow w os) := ⟨rfl, rfl, rfl, by simp [grow], fun k hk => by simp [grow, Array.getElem?_append_left hk]⟩
theorem own_keep {W V : World} {base : Nat} {e : TypeId} {size : Nat} {v : Value} {n : Nat} {xs : List Value} (h : W.ownsRow base e size v n xs) (b : Below W.heap.size W V) : V.ownsRow base e size v n xs := by
  refine ⟨h.1, ?_⟩
  rcases h.2 with hn | ⟨g, cap, cur, rfl, hb, hgg, rest⟩
  · exact .inl hn
  · exact .inr ⟨g, cap, cur, rfl, hb, (b.block g (Array.getElem?_eq_some_iff.1 hgg).1).trans hgg, rest⟩
theorem holds_keep {W V : World} {g o : Nat} {d : Array Int} (h : Holds (Value.int .i64) W g o d) (hg : g < W.heap.size) (b : Below W.heap.size W V) : Holds (Value.int .i64) V g o d := fun j hj => by
  obtain ⟨h1, h2⟩ := h j hj
  have e := b.block g hg
  exact ⟨(b.cell (p := ⟨g, o + j, none⟩) hg).trans h1, by unfold World.frozen? at *; rw [e]; exact h2⟩
theorem holds_setCells {W : World} {g : Nat} {d : Array Int} (ys : List Int) (h : Holds (Value.int .i64) W g 0 d) (hl : ys.length = d.size) : Holds (Value.int .i64) (W.setCells g 0 (ys.map (Value.int .i64))) g 0 ys.toArray := fun j hj => by
  have hj2 : j < ys.length := by simpa using hj
  have hs : ∀ i, i < (ys.map (Value.int .i64)).length → (W.cell? ⟨g, 0 + i, none⟩).isSome = true := fun i hi => by
    rw [(h i (by rw [List.length_map] at hi; omega)).1]
    rfl
  refine ⟨?_, ?_⟩
  · rw [World.cell?_setCells_in g _ 0 W hs j (by rw [List.length_map]; exact hj2)]
    simp [hj2]
  · rw [World.frozen?_setCells]
    exact (h j (by omega)).2
theorem own_holds {W : World} {base g n cap : Nat} {zs : List Int} (h : W.ownsRow base 3 1 (.slice (some ⟨g, 0, none⟩) n cap) n (intV zs)) : Holds (Value.int .i64) W g 0 zs.toArray ∧ g < W.heap.size ∧ base ≤ g ∧ zs.length = n ∧ (n ≤ cap ∧ cap ≤ maxLen) := by
  have hl := h.1
  rcases h.2 with ⟨e, _⟩ | ⟨g2, cap2, cur, e, hb, hg, hcn, hcm, hs, h4⟩
  · simp at e
  · obtain ⟨rfl, rfl⟩ : g = g2 ∧ cap = cap2 := by simpa using e
    have hzl : zs.length = n := by rw [intV, List.length_map] at hl; omega
    refine ⟨fun j hj => ?_, (Array.getElem?_eq_some_iff.1 hg).1, hb, hzl, hcn, hcm⟩
    have hj2 : j < zs.length := by simpa using hj
    have h5 : (cur.toList.take (n * 1))[j]? = some (.int .i64 zs[j]) := by
      rw [h4, intV, List.getElem?_map, List.getElem?_eq_getElem hj2]
      rfl
    rw [List.getElem?_take, if_pos (by omega), Array.getElem?_toList] at h5
    have e3 : zs.toArray[j]! = zs[j] := by simp [hj2]
    rw [e3]
    simp [World.cell?, World.frozen?, hg, h5]
theorem holds_at {W : World} {g : Nat} {zs : List Int} (h : Holds (Value.int .i64) W g 0 zs.toArray) {i : Nat} {x : Int} (hx : zs[i]? = some x) : W.cell? ⟨g, i, none⟩ = some (.int .i64 x) := by
  have hi := (List.getElem?_eq_some_iff.1 hx)
  have h1 := (h i (by simpa using hi.1)).1
  rw [Nat.zero_add] at h1
  rw [h1]
  have e3 : zs.toArray[i]! = x := by simp [hi.1, hi.2]
  rw [e3]
theorem but_drewN (g : Nat) (w : World) (q : Nat) : But (fun k => k = g) w (w.drewN q) := But.grown (below_dnS (Below.refl _ _) q)
theorem holds_drewN {W : World} {g : Nat} {d : Array Int} (h : Holds (Value.int .i64) W g 0 d) (q : Nat) : Holds (Value.int .i64) (W.drewN q) g 0 d := h
/-- 0, the end, and where spans begin and end. -/
def bndL (n : Int) (D : List Sp) : List Int := 0 :: n :: D.flatMap fun x => [x.fr, x.tt]
theorem bndL_snoc (n : Int) (D : List Sp) (x : Sp) : bndL n (D ++ [x]) = bndL n D ++ [x.fr, x.tt] := by simp [bndL]
theorem bndL_len (n : Int) (D : List Sp) : (bndL n D).length = 2 + 2 * D.length := by
  unfold bndL
  induction D with
  | nil => rfl
  | cons x D ih => simp at ih ⊢; omega
/-- In their order. -/
def bndS (n : Int) (D : List Sp) : List Int := (bndL n D).mergeSort fun x y => decide (x ≤ y)
theorem bndS_len (n : Int) (D : List Sp) : (bndS n D).length = 2 + 2 * D.length := by rw [bndS, List.length_mergeSort, bndL_len]
/-- Each once. -/
def bndC (n : Int) (D : List Sp) : List Int := Lib.compact (bndS n D)
/-- What bounds tells. -/
def bndM (n : Int) (D : List Sp) : List Int := (bndC n D).tail
theorem compact_one (zs : List Int) (h : zs ≠ []) : 1 ≤ (Lib.compact zs).length := by
  obtain ⟨m, hm⟩ : ∃ m, zs.length = m + 1 := ⟨zs.length - 1, by have := List.length_pos_iff.2 h; omega⟩
  unfold Lib.compact Lib.compactUpTo
  rw [hm, List.length_map, List.range_succ_eq_map, List.filter_cons, if_pos (Lib.keeps_lt_one _ 0 (by omega))]
  simp
theorem compact_le (zs : List Int) : (Lib.compact zs).length ≤ zs.length := by
  unfold Lib.compact Lib.compactUpTo
  rw [List.length_map]
  exact Nat.le_trans (List.length_filter_le _ _) (by simp)
theorem infoIb : (Tryz.prog.info? 3).map (fun i => (i.zero, i.size, i.bytes)) = some (some (.int .i64 0), 1, 8) := by kernel_rfl
theorem cell_twoS (w : World) (a b : Value) (t : TypeId) : ∀ j u, [a, b][j]? = some u → (w.alloc (.cells #[a, b] t)).cell? ((⟨w.heap.size, 0, none⟩ : Addr).add j) = some u := by
  intro j u hj
  have e : (w.alloc (.cells #[a, b] t)).heap[w.heap.size]? = _ := World.alloc_heap_new w _
  match j, hj with
  | 0, hj =>
    obtain rfl : a = u := by simpa using hj
    unfold World.cell?
    rw [show (⟨w.heap.size, 0, none⟩ : Addr).add 0 = ⟨w.heap.size, 0, none⟩ from rfl, e]
    rfl
  | 1, hj =>
    obtain rfl : b = u := by simpa using hj
    unfold World.cell?
    rw [show (⟨w.heap.size, 0, none⟩ : Addr).add 1 = ⟨w.heap.size, 1, none⟩ from rfl, e]
    rfl
  | n + 2, hj => simp at hj
theorem own_two (w : World) (a b : Int) : (w.alloc (.cells #[.int .i64 a, .int .i64 b] 3)).ownsRow w.heap.size 3 1 (.slice (some ⟨w.heap.size, 0, none⟩) 2 2) 2 (intV [a, b]) :=
  ⟨rfl, .inr ⟨w.heap.size, 2, _, rfl, Nat.le_refl _, World.alloc_heap_new w _, Nat.le_refl _, by decide, rfl, rfl⟩⟩
end Go.Proofs.YtlkgnheccoodpaaGreatDoor

/- style.runsOf, style.Runs (chapter 7). -/
namespace Go.Proofs.YtlkgnheccoodpaaGreatDoor
open Go.RowKit Go.Shelf
attribute [local go_sem] Oper.semAt_some

/-- A run. -/
structure Rn where
  fr : Int
  tt : Int
  a : At
deriving DecidableEq
def Rn.cells (r : Rn) : List Value := [.int .i64 r.fr, .int .i64 r.tt, .bool r.a.b, .bool r.a.i, .bool r.a.u, .bool r.a.s, .int .i64 r.a.c]
def flat7 (L : List Rn) : List Value := L.flatMap Rn.cells
theorem flat7_len (L : List Rn) : (flat7 L).length = L.length * 7 := by
  induction L with
  | nil => rfl
  | cons x L ih =>
    show (Rn.cells x ++ flat7 L).length = _
    rw [List.length_append, ih]
    simp [Rn.cells]
    omega
theorem flat7_snoc (L : List Rn) (x : Rn) : flat7 (L ++ [x]) = flat7 L ++ x.cells := by simp [flat7]
theorem flat7_at : ∀ (Q : List Rn) (i : Nat) (p : Rn), Q[i]? = some p → ∀ j v, p.cells[j]? = some v → (flat7 Q)[i * 7 + j]? = some v
  | [], i, p, h => by simp at h
  | x :: Q, 0, p, h => by
    obtain rfl : x = p := by simpa using h
    intro j v hj
    show (Rn.cells x ++ flat7 Q)[0 * 7 + j]? = _
    rw [Nat.zero_mul, Nat.zero_add, List.getElem?_append_left (List.getElem?_eq_some_iff.1 hj).1]
    exact hj
  | x :: Q, i + 1, p, h => by
    intro j v hj
    have ih := flat7_at Q i p (by simpa using h) j v hj
    show (Rn.cells x ++ flat7 Q)[(i + 1) * 7 + j]? = _
    rw [List.getElem?_append_right (by simp [Rn.cells]; omega)]
    rw [← ih]
    congr 1
    simp [Rn.cells]
    omega
/-- A row of one's own, a cell of it written. -/
theorem own_set {W : World} {base g n cap : Nat} {e : TypeId} {size : Nat} {xs : List Value} (h : W.ownsRow base e size (.slice (some ⟨g, 0, none⟩) n cap) n xs) (i : Nat) (v : Value) : (W.setCell ⟨g, i, none⟩ v).ownsRow base e size (.slice (some ⟨g, 0, none⟩) n cap) n (xs.set i v) := by
  refine ⟨by rw [List.length_set]; exact h.1, ?_⟩
  rcases h.2 with ⟨e0, _⟩ | ⟨g2, cap2, cur, e0, hb, hg, hcn, hcm, hs, h4⟩
  · simp at e0
  · obtain ⟨rfl, rfl⟩ : g = g2 ∧ cap = cap2 := by simpa using e0
    refine .inr ⟨g, cap, cur.setIfInBounds i v, rfl, hb, set_atS hg i v, hcn, hcm, by rw [Array.size_setIfInBounds]; exact hs, ?_⟩
    rw [Array.toList_setIfInBounds, List.take_set, h4]
theorem own_cells {W : World} {base g n cap : Nat} {e : TypeId} {size : Nat} {xs : List Value} (h : W.ownsRow base e size (.slice (some ⟨g, 0, none⟩) n cap) n xs) (i : Nat) (v : Value) (hv : xs[i]? = some v) : W.cell? ⟨g, i, none⟩ = some v ∧ W.frozen? ⟨g, i, none⟩ = false ∧ g < W.heap.size ∧ base ≤ g := by
  rcases h.2 with ⟨e0, _⟩ | ⟨g2, cap2, cur, e0, hb, hg, hcn, hcm, hs, h4⟩
  · simp at e0
  · obtain ⟨rfl, rfl⟩ : g = g2 ∧ cap = cap2 := by simpa using e0
    have hi := (List.getElem?_eq_some_iff.1 hv).1
    rw [h.1] at hi
    rw [← h4, List.getElem?_take, if_pos hi, Array.getElem?_toList] at hv
    have hgl := (Array.getElem?_eq_some_iff.1 hg).1
    exact ⟨by simp [World.cell?, hg, hv], by simp [World.frozen?, hg], hgl, hb⟩
/-- One more stretch. -/
def runStep (acc : List Rn) (fr te : Int) (a : At) : List Rn :=
  match acc.getLast? with
  | none => [⟨fr, te, a⟩]
  | some r => if r.a = a then acc.dropLast ++ [⟨r.fr, te, r.a⟩] else acc ++ [⟨fr, te, a⟩]
/-- The runs between bounds. -/
def runGo (D : List Sp) : List Rn → Int → List Int → List Rn
  | acc, _, [] => acc
  | acc, fr, te :: l => runGo D (runStep acc fr te (lookA D fr)) te l
def runsM (n : Int) (D : List Sp) : List Rn := runGo D [] 0 (bndM n D)
theorem own_from {A : World} {m hi : Nat} {e : TypeId} {size : Nat} {v : Value} {n : Nat} {xs : List Value} (h : A.ownsRow hi e size v n xs) (hm : m ≤ hi) : A.ownsRow m e size v n xs := by
  refine ⟨h.1, ?_⟩
  rcases h.2 with hn | ⟨g, cap, cur, rfl, hb, rest⟩
  · exact .inl hn
  · exact .inr ⟨g, cap, cur, rfl, Nat.le_trans hm hb, rest⟩
theorem cell_sevenS (w : World) (a b c d e f h : Value) (t : TypeId) : ∀ j u, [a, b, c, d, e, f, h][j]? = some u → (w.alloc (.cells #[a, b, c, d, e, f, h] t)).cell? ((⟨w.heap.size, 0, none⟩ : Addr).add j) = some u := by
  intro j u hj
  have e0 : (w.alloc (.cells #[a, b, c, d, e, f, h] t)).heap[w.heap.size]? = _ := World.alloc_heap_new w _
  match j, hj with
  | 0, hj | 1, hj | 2, hj | 3, hj | 4, hj | 5, hj | 6, hj =>
    simp at hj
    subst hj
    unfold World.cell?
    rw [addrS_block, e0]
    rfl
  | n + 7, hj => simp at hj
end Go.Proofs.YtlkgnheccoodpaaGreatDoor

/- style.Runs at every text (chapter 7). -/
namespace Go.Proofs.YtlkgnheccoodpaaGreatDoor
open Go.RowKit Go.Shelf
attribute [local go_sem] Oper.semAt_some

theorem chkT_few {s : ByteArray} {D : List Sp} (h : chkT s D = 0) : s.size ≤ 4096 ∧ D.length ≤ 256 := by
  unfold chkT at h
  by_cases h1 : 4096 < s.size
  · rw [if_pos h1] at h; omega
  · rw [if_neg h1] at h
    by_cases h2 : 256 < D.length
    · rw [if_pos h2] at h; omega
    · omega
end Go.Proofs.YtlkgnheccoodpaaGreatDoor
