import Derived.Deep.RegionHeld3
import Derived.Deep.Cut
import Derived.Deep.CutRange
import Derived.Deep.DeepCutAuto
import Derived.Deep.CutBlock
import Derived.OwnWalk
import Derived.Laws.OwnMore
import Derived.Test.YtlkgnheccoodpaaGreatDoorGA
import Derived.Test.YtlkgnheccoodpaaGreatDoorGB
namespace Go.Proofs.YtlkgnheccoodpaaGreatDoor
open Go.RowKit Go.Shelf
attribute [local go_sem] Oper.semAt_some
def SRowO (l : List St) (G o : Nat) (V : World) : Prop := G < V.heap.size ∧ ∀ (i : Nat) (x : St), l[i]? = some x →
 V.cell? ⟨G, o + i * 7, none⟩ = some (.int .i64 x.kind) ∧ V.cell? ⟨G, o + i * 7 + 1, none⟩ = some (.int .i64 x.fin.loc) ∧ V.cell? ⟨G, o + i * 7 + 2, none⟩ = some (.int .i64 x.fin.sg) ∧ V.cell? ⟨G, o + i * 7 + 3, none⟩ = some (.int .i64 x.fin.ce) ∧ V.cell? ⟨G, o + i * 7 + 4, none⟩ = some (.int .i64 x.nxt.loc) ∧ V.cell? ⟨G, o + i * 7 + 5, none⟩ = some (.int .i64 x.nxt.sg) ∧ V.cell? ⟨G, o + i * 7 + 6, none⟩ = some (.int .i64 x.nxt.ce)
theorem SRowO.keep {l : List St} {G o : Nat} {V V2 : World} (h : SRowO l G o V) {m : Nat} (b : Below m V V2) (hm : G < m) : SRowO l G o V2 := by
 have k : ∀ n, V2.cell? ⟨G, n, none⟩ = V.cell? ⟨G, n, none⟩ := fun n => b.cell (p := ⟨G, n, none⟩) hm
 refine ⟨Nat.lt_of_lt_of_le h.1 b.size, fun i x hx => ?_⟩
 simp only [k]
 exact h.2 i x hx
structure Re where
 bad : Int
 cnt : Int
 fst : Int
def RRow (l : List Re) (G o : Nat) (V : World) : Prop := G < V.heap.size ∧ ∀ (i : Nat) (r : Re), l[i]? = some r →
 V.cell? ⟨G, o + i * 3, none⟩ = some (.int .i64 r.bad) ∧ V.cell? ⟨G, o + i * 3 + 1, none⟩ = some (.int .i64 r.cnt) ∧ V.cell? ⟨G, o + i * 3 + 2, none⟩ = some (.int .i64 r.fst)
theorem RRow.keep {l : List Re} {G o : Nat} {V V2 : World} (h : RRow l G o V) {m : Nat} (b : Below m V V2) (hm : G < m) : RRow l G o V2 := by
 have k : ∀ n, V2.cell? ⟨G, n, none⟩ = V.cell? ⟨G, n, none⟩ := fun n => b.cell (p := ⟨G, n, none⟩) hm
 refine ⟨Nat.lt_of_lt_of_le h.1 b.size, fun i x hx => ?_⟩
 simp only [k]
 exact h.2 i x hx
def betterB (a b : Re) : Bool := decide (a.bad < b.bad) || (a.bad == b.bad && decide (a.cnt < b.cnt))
def restGo (bg wd : Int) : Nat → List St → List Re → Re → Re
 | n, x :: l, r :: R, best => if (sbadI x.kind x.fin.ce bg wd).2 = true then
   restGo bg wd (n + 1) l R (if betterB ⟨(sbadI x.kind x.fin.ce bg wd).1 + r.bad, 1 + r.cnt, n⟩ best = true then ⟨(sbadI x.kind x.fin.ce bg wd).1 + r.bad, 1 + r.cnt, n⟩ else best) else best
 | _, _, _, best => best
def topR : Re := ⟨9223372036854775807, 0, 0⟩
def ReAt (w : World) (B : Nat) (r : Re) : Prop := w.heap[B]? = some (.cells #[.int .i64 r.bad, .int .i64 r.cnt, .int .i64 r.fst] 111)
theorem ReAt.cells {w : World} {B : Nat} {r : Re} (h : ReAt w B r) : w.cell? ⟨B, 0, none⟩ = some (.int .i64 r.bad) ∧ w.cell? ⟨B, 1, none⟩ = some (.int .i64 r.cnt) ∧ w.cell? ⟨B, 2, none⟩ = some (.int .i64 r.fst) ∧ w.frozen? ⟨B, 0, none⟩ = false ∧ w.frozen? ⟨B, 1, none⟩ = false ∧ w.frozen? ⟨B, 2, none⟩ = false := by
 simp [World.cell?, World.frozen?, show w.heap[B]? = _ from h]
def SpAt (w : World) (B : Nat) (a b c : Int) : Prop := w.heap[B]? = some (.cells #[.int .i64 a, .int .i64 b, .int .i64 c] 50)
theorem ReAt.keep {w w' : World} {B : Nat} {r : Re} (h : ReAt w B r) (b : Below w.heap.size w w') : ReAt w' B r := (b.block B (Array.getElem?_eq_some_iff.1 h).1).trans h
theorem set_at {w : World} {B : Nat} {cs : Array Value} {t : TypeId} {fr : Nat × Nat} (h : w.heap[B]? = some (.cells cs t fr)) (i : Nat) (v : Value) : (w.setCell ⟨B, i, none⟩ v).heap[B]? = some (.cells (cs.setIfInBounds i v) t fr) := by
 obtain ⟨hlt, hk⟩ := Array.getElem?_eq_some_iff.1 h
 show (w.heap.modify B _)[B]? = _
 rw [Array.getElem?_eq_getElem (by rw [Array.size_modify]; exact hlt), Array.getElem_modify_self, hk]
 rfl
theorem ReAt.set {w : World} {B : Nat} {r r2 : Re} (h : ReAt w B r) : ReAt (((w.setCell ⟨B, 0, none⟩ (.int .i64 r2.bad)).setCell ⟨B, 1, none⟩ (.int .i64 r2.cnt)).setCell ⟨B, 2, none⟩ (.int .i64 r2.fst)) B r2 := by
 exact set_at (set_at (set_at h 0 _) 1 _) 2 _
theorem ReAt.other {w : World} {B C : Nat} {r : Re} {a b c : Value} (h : ReAt w B r) (hn : B ≠ C) : ReAt (((w.setCell ⟨C, 0, none⟩ a).setCell ⟨C, 1, none⟩ b).setCell ⟨C, 2, none⟩ c) B r :=
 ((Below.heap_setCell _ _ _ _ hn).trans ((Below.heap_setCell _ _ _ _ hn).trans (Below.heap_setCell _ _ _ _ hn))).trans h
theorem SpAt.other {w : World} {B C : Nat} {x y z : Int} {a b c : Value} (h : SpAt w B x y z) (hn : B ≠ C) : SpAt (((w.setCell ⟨C, 0, none⟩ a).setCell ⟨C, 1, none⟩ b).setCell ⟨C, 2, none⟩ c) B x y z :=
 ((Below.heap_setCell _ _ _ _ hn).trans ((Below.heap_setCell _ _ _ _ hn).trans (Below.heap_setCell _ _ _ _ hn))).trans h
theorem SpAt.keep {w w' : World} {B : Nat} {x y z : Int} (h : SpAt w B x y z) (b : Below w.heap.size w w') : SpAt w' B x y z := (b.block B (Array.getElem?_eq_some_iff.1 h).1).trans h
theorem sbad_bd (k c bg wd : Int) (hc : 0 ≤ c ∧ c ≤ 100000) (hb : 0 ≤ bg ∧ bg ≤ 100000) (hw : 0 ≤ wd ∧ wd ≤ 1000) : 0 ≤ (sbadI k c bg wd).1 ∧ (sbadI k c bg wd).1 ≤ 100000000000 := by
 unfold sbadI
 split
 ·exact ⟨by simp, by simp⟩
 ·have h : 0 ≤ wd - (c - bg) ∧ wd - (c - bg) ≤ 101000 := by omega
  have h1 : 0 ≤ (wd - (c - bg)) * (wd - (c - bg)) := Int.mul_nonneg h.1 h.1
  have h2 : (wd - (c - bg)) * (wd - (c - bg)) ≤ 101000 * 101000 := Int.mul_le_mul h.2 h.2 h.1 (by omega)
  split
  ·exact ⟨by simp only; omega, by simp only; omega⟩
  ·exact ⟨by simp only; omega, by simp only; omega⟩
theorem SpAt.cells {w : World} {B : Nat} {a b c : Int} (h : SpAt w B a b c) : w.cell? ⟨B, 0, none⟩ = some (.int .i64 a) ∧ w.cell? ⟨B, 1, none⟩ = some (.int .i64 b) ∧ w.cell? ⟨B, 2, none⟩ = some (.int .i64 c) := by
 simp [World.cell?, show w.heap[B]? = _ from h]
theorem drop_get {α : Type} {l : List α} {k : Nat} {x : α} (h : l[k]? = some x) : l.drop k = x :: l.drop (k + 1) := by
 have hk := (List.getElem?_eq_some_iff.1 h).1
 rw [List.drop_eq_getElem_cons hk]
 rw [List.getElem?_eq_getElem hk] at h
 rw [Option.some.inj h]
def SmS (l : List St) : Prop := ∀ x ∈ l, 0 ≤ x.fin.ce ∧ x.fin.ce ≤ 100000
def SmR (l : List Re) : Prop := ∀ r ∈ l, 0 ≤ r.bad ∧ r.bad ≤ 1000000000000000 ∧ 0 ≤ r.cnt ∧ r.cnt ≤ 1000000
set_option maxRecDepth 100000 in
set_option maxHeartbeats 1000000 in
theorem rest_walk (bl bs bg wd : Int) (hb : 0 ≤ bg ∧ bg ≤ 100000) (hw : 0 ≤ wd ∧ wd ≤ 1000) (l : List St) (R : List Re) (hlR : l.length ≤ R.length) (hS : SmS l) (hR : SmR R) (G o cap G2 o2 cap2 : Nat) (_hc : l.length ≤ cap ∧ cap ≤ maxLen) (hc2 : R.length ≤ cap2 ∧ cap2 ≤ maxLen) (hl : l.length ≤ 1000000) (w : World) (hr : SRowO l G o w) (hr2 : RRow R G2 o2 w) :
  Calls Tryz.prog 62 #[.agg #[.int .i64 bl, .int .i64 bs, .int .i64 bg], .slice (some ⟨G, o, none⟩) l.length cap, .slice (some ⟨G2, o2, none⟩) R.length cap2, .int .i64 wd] w fun e w' =>
   e = .returned (.agg #[.int .i64 (restGo bg wd 0 l R topR).bad, .int .i64 (restGo bg wd 0 l R topR).cnt, .int .i64 (restGo bg wd 0 l R topR).fst]) ∧ Below w.heap.size w w' := by
 have hmx : maxLen ≤ 9223372036854775807 := by decide
 obtain ⟨F, hF⟩ : ∃ F, restGo bg wd 0 l R topR = F := ⟨_, rfl⟩
 rw [hF]
 have HF := hideW hF
 clear hF
 go_enter Tryz.func62, Tryz.ntmps62
 go_wp2_with fail
 have s0 : SpAt (((w.alloc (.cells #[.int .i64 bl, .int .i64 bs, .int .i64 bg] 50)).alloc (.cells #[.int .i64 0, .int .i64 0, .int .i64 0] 111)).alloc (.cells #[.int .i64 9223372036854775807, .int .i64 0, .int .i64 0] 111)) w.heap.size bl bs bg := by
  exact (Below.heap_alloc _ _ _ (by simp; omega)).trans ((Below.heap_alloc _ _ _ (by simp)).trans (World.alloc_heap_new w _))
 have s1 : ReAt (((w.alloc (.cells #[.int .i64 bl, .int .i64 bs, .int .i64 bg] 50)).alloc (.cells #[.int .i64 0, .int .i64 0, .int .i64 0] 111)).alloc (.cells #[.int .i64 9223372036854775807, .int .i64 0, .int .i64 0] 111)) (w.heap.size + 1) ⟨0, 0, 0⟩ := by
  have := World.alloc_heap_new (w.alloc (.cells #[.int .i64 bl, .int .i64 bs, .int .i64 bg] 50)) (.cells #[.int .i64 0, .int .i64 0, .int .i64 0] 111)
  rw [World.size_alloc] at this
  exact (Below.heap_alloc _ _ _ (by simp)).trans this
 have s2 : ReAt (((w.alloc (.cells #[.int .i64 bl, .int .i64 bs, .int .i64 bg] 50)).alloc (.cells #[.int .i64 0, .int .i64 0, .int .i64 0] 111)).alloc (.cells #[.int .i64 9223372036854775807, .int .i64 0, .int .i64 0] 111)) (w.heap.size + 1 + 1) topR := by
  have := World.alloc_heap_new ((w.alloc (.cells #[.int .i64 bl, .int .i64 bs, .int .i64 bg] 50)).alloc (.cells #[.int .i64 0, .int .i64 0, .int .i64 0] 111)) (.cells #[.int .i64 9223372036854775807, .int .i64 0, .int .i64 0] 111)
  rw [World.size_alloc, World.size_alloc] at this
  exact this
 have bb : Below w.heap.size w (((w.alloc (.cells #[.int .i64 bl, .int .i64 bs, .int .i64 bg] 50)).alloc (.cells #[.int .i64 0, .int .i64 0, .int .i64 0] 111)).alloc (.cells #[.int .i64 9223372036854775807, .int .i64 0, .int .i64 0] 111)) := (((bel1W w _).trans ((bel1W _ _).mono (by simp))).trans ((bel1W _ _).mono (by simp; omega)))
 generalize (((w.alloc (.cells #[.int .i64 bl, .int .i64 bs, .int .i64 bg] 50)).alloc (.cells #[.int .i64 0, .int .i64 0, .int .i64 0] 111)).alloc (.cells #[.int .i64 9223372036854775807, .int .i64 0, .int .i64 0] 111)) = V at *
 have hGz := hr.1
 have hGz2 := hr2.1
 have H0 := hideW (And.intro hr (And.intro hr2 (And.intro hS hR)))
 clear hr hr2 hS hR
 go_loopw [18] (fun iv wq => ∃ (k : Nat) (best : Re), iv = .int .i64 k ∧ k ≤ l.length ∧ SpAt wq w.heap.size bl bs bg ∧ ReAt wq (w.heap.size + 1) ⟨0, 0, 0⟩ ∧ ReAt wq (w.heap.size + 1 + 1) best ∧ Below w.heap.size w wq ∧ restGo bg wd k (l.drop k) (R.drop k) best = F) (fun iv _ => l.length - (intOf iv).toNat)
 case atStart => exact ⟨0, topR, rfl, by omega, s0, s1, s2, bb, HF.out⟩
 case round =>
  obtain ⟨k, best, rfl, hk, t0, t1, t2, tb, hgo⟩ := hrel
  clear s0 s1 s2 bb HF
  have hz := tb.size
  have hzw : w.heap.size < wr.heap.size := (Array.getElem?_eq_some_iff.1 t0).1
  have ⟨a0, a1, a2⟩ := t0.cells
  have ⟨r0, r1, r2, r3, r4, r5⟩ := t1.cells
  have ⟨q0, q1, q2, q3, q4, q5⟩ := t2.cells
  by_cases hk2 : k < l.length
  ·obtain ⟨x, hx⟩ : ∃ x, l[k]? = some x := ⟨_, List.getElem?_eq_getElem hk2⟩
   obtain ⟨y, hy⟩ : ∃ y, R[k]? = some y := ⟨_, List.getElem?_eq_getElem (by omega)⟩
   have hdl : l.drop k = x :: l.drop (k + 1) := drop_get hx
   have hdr : R.drop k = y :: R.drop (k + 1) := drop_get hy
   rw [hdl, hdr] at hgo
   obtain ⟨hr, hr2, hS, hR⟩ := H0.out
   obtain ⟨c0, c1, c2, c3, c4, c5, c6⟩ := (hr.keep tb hGz).2 _ _ hx
   have HY := hideW ((hr2.keep tb hGz2))
   have hxs := hS x (List.mem_of_getElem? hx)
   have hys := hR y (List.mem_of_getElem? hy)
   have HB := hideW (fun W => sbad_any x.kind x.fin x.nxt bl bs bg wd hxs hb hw W)
   unfold stopV at HB
   have HG := hideW hgo
   have HT := hideW (And.intro t0 (And.intro t1 (And.intro t2 tb)))
   clear hr hr2 hS hR hgo t0 t1 t2 tb hdl hdr
   have hdk : decide ((k : Int) < (l.length : Int)) = true := decide_eq_true (by omega)
   have b0 : (wr.alloc (.cells #[.int .i64 x.kind, .int .i64 x.fin.loc, .int .i64 x.fin.sg, .int .i64 x.fin.ce, .int .i64 x.nxt.loc, .int .i64 x.nxt.sg, .int .i64 x.nxt.ce] 52)).cell? ⟨w.heap.size, 0, none⟩ = some (.int .i64 bl) := (World.cell?_of_block (Below.heap_alloc _ _ _ hzw)).trans a0
   have b1 : (wr.alloc (.cells #[.int .i64 x.kind, .int .i64 x.fin.loc, .int .i64 x.fin.sg, .int .i64 x.fin.ce, .int .i64 x.nxt.loc, .int .i64 x.nxt.sg, .int .i64 x.nxt.ce] 52)).cell? ⟨w.heap.size, 1, none⟩ = some (.int .i64 bs) := (World.cell?_of_block (Below.heap_alloc _ _ _ hzw)).trans a1
   have b2 : (wr.alloc (.cells #[.int .i64 x.kind, .int .i64 x.fin.loc, .int .i64 x.fin.sg, .int .i64 x.fin.ce, .int .i64 x.nxt.loc, .int .i64 x.nxt.sg, .int .i64 x.nxt.ce] 52)).cell? ⟨w.heap.size, 2, none⟩ = some (.int .i64 bg) := (World.cell?_of_block (Below.heap_alloc _ _ _ hzw)).trans a2
   clear a0 a1 a2
   go_wp2_with fail
   refine (HB.out _).mono ?_
   rintro e w2 ⟨rfl, bq⟩
   obtain ⟨t0, t1, t2, tb⟩ := HT.out
   have bw : Below wr.heap.size wr w2 := bupW (bel1W wr _) bq
   have u0 := t0.keep bw
   have u1 := t1.keep bw
   have u2 := t2.keep bw
   have ub := bupW tb bw
   have uy := HY.out.keep bw (by omega)
   clear t0 t1 t2 tb bw bq HT HY HB b0 b1 b2 c0 c1 c2 c3 c4 c5 c6 r0 r1 r2 r3 r4 r5 q0 q1 q2 q3 q4 q5
   have hsb := sbad_bd x.kind x.fin.ce bg wd hxs hb hw
   unfold restGo at HG
   obtain ⟨Ln, hLn⟩ : ∃ Ln, (sbadI x.kind x.fin.ce bg wd).1 = Ln := ⟨_, rfl⟩
   obtain ⟨ft, hft⟩ : ∃ ft, (sbadI x.kind x.fin.ce bg wd).2 = ft := ⟨_, rfl⟩
   rw [hLn, hft] at HG ⊢
   rw [hLn] at hsb
   clear hLn hft
   have ⟨r0, r1, r2, r3, r4, r5⟩ := u1.cells
   have ⟨q0, q1, q2, q3, q4, q5⟩ := u2.cells
   have ⟨y0, y1, y2⟩ := uy.2 _ _ hy
   have HU := hideW (And.intro u0 (And.intro u1 (And.intro u2 (And.intro ub uy))))
   clear u0 u1 u2 ub uy
   cases ft with
   | false =>
    go_wp2_with fail
    obtain ⟨u0, u1, u2, ub, uy⟩ := HU.out
    have hFb : best = F := by simpa using HG.out
    subst hFb
    have ⟨v0, v1, v2, _⟩ := (u1.set (r2 := best)).cells
    exact bodyPost_ret (v := .agg #[.int .i64 best.bad, .int .i64 best.cnt, .int .i64 best.fst]) (by simp [results, Tryz.results62, go_sem, v0, v1, v2]) rfl ⟨rfl, ((ub.setCell (by simp) _).setCell (by simp) _).setCell (by simp) _⟩
   | true =>
    have e1 : IntKind.i64.wrap (Ln + y.bad) = Ln + y.bad := IntWalk.i64_in _ ⟨by omega, by omega⟩
    have e2 : IntKind.i64.wrap (1 + y.cnt) = 1 + y.cnt := IntWalk.i64_in _ ⟨by omega, by omega⟩
    have hdk2 : decide ((k : Int) < (R.length : Int)) = true := decide_eq_true (by omega)
    have hkR : k < R.length := by omega
    go_wp2_with fail
    go_cut [14] (fun p wx => ∃ r, p = .pointer (some ⟨r, 0, none⟩) ∧ ReAt wx r ⟨Ln + y.bad, 1 + y.cnt, k⟩ ∧ Below w2.heap.size w2 wx ∧ w2.heap.size ≤ r)
    case first =>
     go_region_held3 (fun w' => w'.cell? ⟨G2, o2 + k * 3, none⟩ = some (.int .i64 y.bad) ∧ w'.cell? ⟨G2, o2 + k * 3 + 1, none⟩ = some (.int .i64 y.cnt)) (first | go_keep | assumption) (fail)
     all_goals first | go_wp2_with fail | skip
     all_goals go_meet
     all_goals exact ⟨_, rfl, World.alloc_heap_new w2 _, (bel1W w2 _).drew, Nat.le_refl _⟩
    case rest =>
     obtain ⟨r, rfl, hr1, hr2, hr3⟩ := hcut
     generalize wc = w3 at *
     obtain ⟨u0, u1, u2, ub, uy⟩ := HU.out
     have g0 := u0.keep hr2
     have g1 := u1.keep hr2
     have g2 := u2.keep hr2
     have gb := bupW ub hr2
     have hz2 : w.heap.size + 1 + 1 < w2.heap.size := (Array.getElem?_eq_some_iff.1 u2).1
     clear u0 u1 u2 ub uy HU y0 y1 y2 r0 r1 r2 r3 r4 r5 q0 q1 q2 q3 q4 q5
     have ⟨m0, m1, m2, m3, m4, m5⟩ := hr1.cells
     have ⟨q0, q1, q2, q3, q4, q5⟩ := g2.cells
     have HQ := hideW (And.intro g0 (And.intro g1 (And.intro g2 (And.intro gb hr1))))
     clear g0 g1 g2 gb hr1 hr2
     go_wp2_with fail
     refine (better_any _ _ _ _ _ _ _).mono ?_
     rintro e w4 ⟨rfl, b4⟩
     obtain ⟨g0, g1, g2, gb, hr1⟩ := HQ.out
     have ⟨m0, m1, m2, m3, m4, m5⟩ := (hr1.keep b4).cells
     have ⟨q0, q1, q2, q3, q4, q5⟩ := (g2.keep b4).cells
     have HQ := hideW (And.intro (g0.keep b4) (And.intro (g1.keep b4) (And.intro (g2.keep b4) (bupW gb b4))))
     clear g0 g1 g2 gb hr1 b4
     have HG2 : Hid (restGo bg wd (k + 1) (l.drop (k + 1)) (R.drop (k + 1)) (if betterB ⟨Ln + y.bad, 1 + y.cnt, k⟩ best = true then ⟨Ln + y.bad, 1 + y.cnt, k⟩ else best) = F) := hideW (by simpa using HG.out)
     clear HG
     cases hbt : betterB ⟨Ln + y.bad, 1 + y.cnt, k⟩ best
     ·have hbt2 : (decide (Ln + y.bad < best.bad) || (Ln + y.bad == best.bad && decide (1 + y.cnt < best.cnt))) = false := hbt
      rw [hbt2]
      rw [hbt] at HG2
      clear hbt hbt2
      go_wp2_with fail
      go_roundw
      case rel =>
       obtain ⟨g0, g1, g2, gb⟩ := HQ.out
       have k4 := HG2.out
       rw [if_neg (by simp)] at k4
       exact ⟨k + 1, best, by go_num, by omega, g0, g1, g2, gb, k4⟩
      case measure => simp [intOf]; omega
     ·have hbt2 : (decide (Ln + y.bad < best.bad) || (Ln + y.bad == best.bad && decide (1 + y.cnt < best.cnt))) = true := hbt
      rw [hbt2]
      rw [hbt] at HG2
      clear hbt hbt2
      go_wp2_with fail
      go_roundw
      case rel =>
       obtain ⟨g0, g1, g2, gb⟩ := HQ.out
       have k0 := g0.other (C := w.heap.size + 1 + 1) (a := .int .i64 (Ln + y.bad)) (b := .int .i64 (1 + y.cnt)) (c := .int .i64 (k : Int)) (by omega)
       have k1 := g1.other (C := w.heap.size + 1 + 1) (a := .int .i64 (Ln + y.bad)) (b := .int .i64 (1 + y.cnt)) (c := .int .i64 (k : Int)) (by omega)
       have k2 := g2.set (r2 := ⟨Ln + y.bad, 1 + y.cnt, k⟩)
       have k3 : Below w.heap.size w (((w4.setCell ⟨w.heap.size + 1 + 1, 0, none⟩ (.int .i64 (Ln + y.bad))).setCell ⟨w.heap.size + 1 + 1, 1, none⟩ (.int .i64 (1 + y.cnt))).setCell ⟨w.heap.size + 1 + 1, 2, none⟩ (.int .i64 (k : Int))) := ((gb.setCell (by simp; omega) _).setCell (by simp; omega) _).setCell (by simp; omega) _
       have k4 := HG2.out
       first | rw [if_pos rfl] at k4 | rw [if_pos trivial] at k4
       exact ⟨k + 1, ⟨Ln + y.bad, 1 + y.cnt, k⟩, by go_num, by omega, k0, k1, k2, k3, k4⟩
      case measure => simp [intOf]; omega
  ·obtain rfl : k = l.length := by omega
   have hdk : decide ((l.length : Int) < (l.length : Int)) = false := by simp
   have hFb : best = F := by
    rw [List.drop_length] at hgo
    simpa [restGo] using hgo
   subst hFb
   have HT := hideW (And.intro t1 tb)
   clear t0 t1 t2 tb hgo H0
   go_wp2_with fail
   obtain ⟨t1, tb⟩ := HT.out
   have ⟨v0, v1, v2, _⟩ := (t1.set (r2 := best)).cells
   exact bodyPost_ret (v := .agg #[.int .i64 best.bad, .int .i64 best.cnt, .int .i64 best.fst]) (by simp [results, Tryz.results62, go_sem, v0, v1, v2]) rfl ⟨rfl, ((tb.setCell (by simp) _).setCell (by simp) _).setCell (by simp) _⟩
end Go.Proofs.YtlkgnheccoodpaaGreatDoor
namespace Go.Proofs.YtlkgnheccoodpaaGreatDoor
open Go.RowKit Go.Shelf
attribute [local go_sem] Oper.semAt_some
def zeroR : Re := ⟨0, 0, 0⟩
def tabT (wd : Int) : Int → List St → List Re
 | _, [] => [zeroR]
 | bg, x :: l => restGo bg wd 0 (x :: l) (tabT wd x.nxt.ce l) topR :: tabT wd x.nxt.ce l
theorem tabT_len (wd : Int) : ∀ (bg : Int) (l : List St), (tabT wd bg l).length = l.length + 1
 | _, [] => rfl
 | bg, x :: l => by
  show (tabT wd x.nxt.ce l).length + 1 = _
  rw [tabT_len wd x.nxt.ce l]
  rfl
def FitsT (wd : Int) : Int → List St → Prop
 | _, [] => True
 | bg, x :: l => (sbadI x.kind x.fin.ce bg wd).2 = true ∧ FitsT wd x.nxt.ce l
def SmN (l : List St) : Prop := ∀ x ∈ l, (0 ≤ x.fin.ce ∧ x.fin.ce ≤ 100000) ∧ 0 ≤ x.nxt.ce ∧ x.nxt.ce ≤ 100000
theorem SmN.sms {l : List St} (h : SmN l) : SmS l := fun x hx => (h x hx).1
theorem SmN.tail {x : St} {l : List St} (h : SmN (x :: l)) : SmN l := fun y hy => h y (List.mem_cons_of_mem _ hy)
theorem SmN.drop {l : List St} (h : SmN l) (n : Nat) : SmN (l.drop n) := fun y hy => h y (List.mem_of_mem_drop hy)
def OkR (M c m : Int) (r : Re) : Prop := 0 ≤ r.bad ∧ r.bad ≤ M ∧ 0 ≤ r.cnt ∧ r.cnt ≤ c + 1 ∧ 0 ≤ r.fst ∧ r.fst < m
theorem restGo_ok (bg wd : Int) (hb : 0 ≤ bg ∧ bg ≤ 100000) (hw : 0 ≤ wd ∧ wd ≤ 1000) (M c m : Int) : ∀ (l : List St) (R : List Re) (n : Nat) (best : Re), SmS l → (∀ r ∈ R, 0 ≤ r.bad ∧ 0 ≤ r.cnt ∧ r.cnt ≤ c) → (n : Int) + l.length ≤ m → OkR M c m best → OkR M c m (restGo bg wd n l R best)
 | [], _, _, _, _, _, _, h => by unfold restGo; exact h
 | _ :: _, [], _, _, _, _, _, h => by unfold restGo; exact h
 | x :: l, r :: R, n, best, hS, hR, hm, h => by
  unfold restGo
  have hx := hS x (List.mem_cons_self ..)
  have hr := hR r (List.mem_cons_self ..)
  have hsb := sbad_bd x.kind x.fin.ce bg wd hx hb hw
  simp only [List.length_cons] at hm
  split
  ·refine restGo_ok bg wd hb hw M c m l R (n + 1) _ (fun y hy => hS y (List.mem_cons_of_mem _ hy)) (fun y hy => hR y (List.mem_cons_of_mem _ hy)) (by omega) ?_
   split
   ·rename_i hbt
    unfold betterB at hbt
    unfold OkR at h ⊢
    simp at hbt
    refine ⟨by simp only; omega, by simp only; omega, by simp only; omega, by simp only; omega, by simp only; omega, by simp only; omega⟩
   ·exact h
  ·exact h
theorem tab_ok (wd : Int) (hw : 0 ≤ wd ∧ wd ≤ 1000) : ∀ (l : List St) (bg : Int), 0 ≤ bg ∧ bg ≤ 100000 → SmN l → FitsT wd bg l → l.length ≤ 5000 → ∀ (i : Nat) (r : Re), (tabT wd bg l)[i]? = some r → (0 ≤ r.bad ∧ r.bad ≤ 100000000000 * (l.length : Int)) ∧ (0 ≤ r.cnt ∧ r.cnt ≤ l.length) ∧ (i < l.length → 0 ≤ r.fst ∧ (i : Int) + r.fst < l.length)
 | [], _, _, _, _, _, i, r, hi => by
  cases i with
  | zero =>
   obtain rfl : zeroR = r := by simpa [tabT] using hi
   exact ⟨⟨by decide, by decide⟩, ⟨by decide, by decide⟩, fun h => by simp at h⟩
  | succ i => simp [tabT] at hi
 | x :: l, bg, hb, hS, hF, hl, i, r, hi => by
  have hx := hS x (List.mem_cons_self ..)
  have IH := tab_ok wd hw l x.nxt.ce hx.2 hS.tail hF.2 (by simp at hl; omega)
  have hsb := sbad_bd x.kind x.fin.ce bg wd hx.1 hb hw
  have hlen : ((x :: l).length : Int) = (l.length : Int) + 1 := by simp
  simp only [List.length_cons] at hl
  cases i with
  | succ i =>
   have := IH i r (by simpa [tabT] using hi)
   refine ⟨⟨this.1.1, by rw [hlen]; omega⟩, ⟨this.2.1.1, by rw [hlen]; omega⟩, fun h => ?_⟩
   have h2 := this.2.2 (by simpa using h)
   exact ⟨h2.1, by rw [hlen]; omega⟩
  | zero =>
   obtain rfl : restGo bg wd 0 (x :: l) (tabT wd x.nxt.ce l) topR = r := by simpa [tabT] using hi
   have hT : (tabT wd x.nxt.ce l).length = l.length + 1 := tabT_len _ _ _
   obtain ⟨t, ht⟩ : ∃ t, (tabT wd x.nxt.ce l)[0]? = some t := ⟨_, List.getElem?_eq_getElem (by omega)⟩
   have ht2 := IH 0 t ht
   have hd : tabT wd x.nxt.ce l = t :: (tabT wd x.nxt.ce l).drop 1 := by
    have := drop_get ht
    simpa using this
   have hR : ∀ r ∈ (tabT wd x.nxt.ce l).drop 1, 0 ≤ r.bad ∧ 0 ≤ r.cnt ∧ r.cnt ≤ (l.length : Int) := fun r hr => by
    obtain ⟨j, hj⟩ := List.getElem?_of_mem (List.mem_of_mem_drop hr)
    have := IH j r hj
    exact ⟨this.1.1, this.2.1.1, this.2.1.2⟩
   generalize (tabT wd x.nxt.ce l).drop 1 = T at *
   rw [hd]
   unfold restGo
   rw [if_pos hF.1, if_pos (by unfold betterB topR; simp; omega)]
   have := restGo_ok bg wd hb hw (100000000000 * ((l.length : Int) + 1)) l.length ((l.length : Int) + 1) l T (0 + 1) ⟨(sbadI x.kind x.fin.ce bg wd).1 + t.bad, 1 + t.cnt, (0 : Nat)⟩ hS.tail.sms hR (by omega) ⟨by simp only; omega, by simp only; omega, by simp only; omega, by simp only; omega, by simp, by simp only; omega⟩
   unfold OkR at this
   rw [hlen]
   exact ⟨⟨this.1, this.2.1⟩, ⟨this.2.2.1, this.2.2.2.1⟩, fun _ => ⟨this.2.2.2.2.1, by have := this.2.2.2.2.2; omega⟩⟩
theorem tab_sm (wd : Int) (hw : 0 ≤ wd ∧ wd ≤ 1000) (l : List St) (bg : Int) (hb : 0 ≤ bg ∧ bg ≤ 100000) (hS : SmN l) (hF : FitsT wd bg l) (hl : l.length ≤ 5000) : SmR (tabT wd bg l) := fun r hr => by
 obtain ⟨j, hj⟩ := List.getElem?_of_mem hr
 have := tab_ok wd hw l bg hb hS hF hl j r hj
 omega
def wayT : Nat → List St → List Re → List St
 | 0, _, _ => []
 | _ + 1, _, [] => []
 | f + 1, l, r :: R => match l.drop r.fst.toNat with
  | [] => []
  | x :: l' => x :: wayT f l' ((r :: R).drop (r.fst.toNat + 1))
def leastP (wd bg : Int) (l : List St) : List St := wayT l.length l (tabT wd bg l)
end Go.Proofs.YtlkgnheccoodpaaGreatDoor
namespace Go.Proofs.YtlkgnheccoodpaaGreatDoor
open Go.RowKit Go.Shelf
attribute [local go_sem] Oper.semAt_some
def RC (W : World) (G : Nat) (Q : List Re) : Prop := ∃ cur : Array Value, W.heap[G]? = some (.cells cur 111 (0, 0)) ∧ ∀ (i : Nat) (p : Re), Q[i]? = some p → cur[i * 3]? = some (.int .i64 p.bad) ∧ cur[i * 3 + 1]? = some (.int .i64 p.cnt) ∧ cur[i * 3 + 2]? = some (.int .i64 p.fst)
theorem RC.lt {W : World} {G : Nat} {Q : List Re} (h : RC W G Q) : G < W.heap.size := by
 obtain ⟨_, h1, _⟩ := h
 exact (Array.getElem?_eq_some_iff.1 h1).1
theorem RC.same {W U : World} {G : Nat} {Q : List Re} (h : RC W G Q) (e : U.heap[G]? = W.heap[G]?) : RC U G Q := by
 obtain ⟨cur, h1, h2⟩ := h
 exact ⟨cur, e.trans h1, h2⟩
theorem RC.keep {W U : World} {G : Nat} {Q : List Re} (h : RC W G Q) (b : Below W.heap.size W U) : RC U G Q := h.same (b.block G h.lt)
theorem RC.at {W : World} {G : Nat} {Q : List Re} (h : RC W G Q) {i : Nat} {p : Re} (hp : Q[i]? = some p) :
  (W.cell? ⟨G, i * 3, none⟩ = some (.int .i64 p.bad) ∧ W.cell? ⟨G, i * 3 + 1, none⟩ = some (.int .i64 p.cnt) ∧ W.cell? ⟨G, i * 3 + 2, none⟩ = some (.int .i64 p.fst)) ∧ W.frozen? ⟨G, i * 3, none⟩ = false ∧ W.frozen? ⟨G, i * 3 + 1, none⟩ = false ∧ W.frozen? ⟨G, i * 3 + 2, none⟩ = false := by
 obtain ⟨cur, h1, h2⟩ := h
 obtain ⟨c0, c1, c2⟩ := h2 i p hp
 simp [World.cell?, World.frozen?, h1, c0, c1, c2]
theorem RC.row {W : World} {G : Nat} {Q : List Re} (h : RC W G Q) (k : Nat) : RRow (Q.drop k) G (k * 3) W := by
 refine ⟨h.lt, fun i r hr => ?_⟩
 rw [List.getElem?_drop] at hr
 obtain ⟨⟨c0, c1, c2⟩, _⟩ := h.at hr
 have e : (k + i) * 3 = k * 3 + i * 3 := by omega
 rw [e] at c0 c1 c2
 exact ⟨c0, c1, c2⟩
theorem RC.set {W : World} {G : Nat} {Q : List Re} (h : RC W G Q) (n : Nat) (v : Re) : RC (((W.setCell ⟨G, n * 3, none⟩ (.int .i64 v.bad)).setCell ⟨G, n * 3 + 1, none⟩ (.int .i64 v.cnt)).setCell ⟨G, n * 3 + 2, none⟩ (.int .i64 v.fst)) G (Q.set n v) := by
 obtain ⟨cur, h1, h2⟩ := h
 refine ⟨((cur.setIfInBounds (n * 3) (.int .i64 v.bad)).setIfInBounds (n * 3 + 1) (.int .i64 v.cnt)).setIfInBounds (n * 3 + 2) (.int .i64 v.fst), set_at (set_at (set_at h1 _ _) _ _) _ _, fun i p hp => ?_⟩
 rw [List.getElem?_set] at hp
 by_cases c : n = i
 ·subst c
  rw [if_pos rfl] at hp
  split at hp
  ·rename_i hn
   obtain rfl : v = p := by simpa using hp
   obtain ⟨c0, c1, c2⟩ := h2 n Q[n] (List.getElem?_eq_getElem hn)
   have b0 := (Array.getElem?_eq_some_iff.1 c0).1
   have b1 := (Array.getElem?_eq_some_iff.1 c1).1
   have b2 := (Array.getElem?_eq_some_iff.1 c2).1
   refine ⟨?_, ?_, ?_⟩
   ·rw [Array.getElem?_setIfInBounds_ne (by omega), Array.getElem?_setIfInBounds_ne (by omega), Array.getElem?_setIfInBounds_self_of_lt b0]
   ·rw [Array.getElem?_setIfInBounds_ne (by omega), Array.getElem?_setIfInBounds_self_of_lt (by simpa using b1)]
   ·rw [Array.getElem?_setIfInBounds_self_of_lt (by simpa using b2)]
  ·cases hp
 ·rw [if_neg c] at hp
  obtain ⟨c0, c1, c2⟩ := h2 i p hp
  have ne : ∀ j, j < 3 → (((cur.setIfInBounds (n * 3) (.int .i64 v.bad)).setIfInBounds (n * 3 + 1) (.int .i64 v.cnt)).setIfInBounds (n * 3 + 2) (.int .i64 v.fst))[i * 3 + j]? = cur[i * 3 + j]? := fun j hj => by
   rw [Array.getElem?_setIfInBounds_ne (by omega), Array.getElem?_setIfInBounds_ne (by omega), Array.getElem?_setIfInBounds_ne (by omega)]
  exact ⟨(ne 0 (by omega)).trans c0, (ne 1 (by omega)).trans c1, (ne 2 (by omega)).trans c2⟩
theorem RC.made {W : World} {base G n : Nat} (h : W.ownsRow base 111 3 (.slice (some ⟨G, 0, none⟩) n n) n (madeCells (Value.agg #[.int .i64 0, .int .i64 0, .int .i64 0]).cells (n * 3)).toList) : RC W G (List.replicate n zeroR) := by
 rcases h.2 with ⟨e, _⟩ | ⟨g2, cap2, cur, e, hb, hg, hcn, hcm, hs, h4⟩
 ·simp at e
 ·obtain ⟨rfl, rfl⟩ : G = g2 ∧ n = cap2 := by simpa using e
  refine ⟨cur, hg, fun i p hp => ?_⟩
  rw [List.getElem?_replicate] at hp
  split at hp
  ·rename_i hi
   obtain rfl : zeroR = p := by simpa using hp
   have hk : ∀ j, j < n * 3 → cur[j]? = some (.int .i64 0) := fun j hj => by
    have : cur.toList[j]? = some (.int .i64 0) := by
     have h5 : (cur.toList.take (n * 3))[j]? = some (.int .i64 0) := by
      rw [h4]
      have h6 : (Value.agg #[.int .i64 0, .int .i64 0, .int .i64 0]).cells = #[.int .i64 0, .int .i64 0, .int .i64 0] := by kernel_rfl
      rw [h6]
      unfold madeCells
      simp [hj]
      have : j % 3 = 0 ∨ j % 3 = 1 ∨ j % 3 = 2 := by omega
      rcases this with e | e | e <;> rw [e] <;> rfl
     rw [List.getElem?_take] at h5
     simpa [hj] using h5
    simpa using this
   exact ⟨hk _ (by omega), hk _ (by omega), hk _ (by omega)⟩
  ·cases hp
theorem cell_three_set {W : World} {k o r i : Nat} {a b c v : Value} (h : k ≠ r) (hc : W.cell? ⟨k, o, none⟩ = some v) : (((W.setCell ⟨r, i, none⟩ a).setCell ⟨r, i + 1, none⟩ b).setCell ⟨r, i + 2, none⟩ c).cell? ⟨k, o, none⟩ = some v :=
 (World.cell?_of_block ((Below.heap_setCell _ _ _ _ h).trans ((Below.heap_setCell _ _ _ _ h).trans (Below.heap_setCell _ _ _ _ h)))).trans hc
theorem SRowO.drop {l : List St} {G o : Nat} {V : World} (h : SRowO l G o V) (n : Nat) : SRowO (l.drop n) G (o + n * 7) V := by
 refine ⟨h.1, fun i x hx => ?_⟩
 rw [List.getElem?_drop] at hx
 have := h.2 _ _ hx
 rw [show o + (n + i) * 7 = o + n * 7 + i * 7 by omega] at this
 exact this
theorem fits_drop {wd : Int} : ∀ {l : List St} {bg : Int} {n : Nat} {x : St}, FitsT wd bg l → l[n]? = some x → FitsT wd x.nxt.ce (l.drop (n + 1))
 | [], _, _, _, _, hx => by simp at hx
 | y :: l, bg, 0, x, h, hx => by
  obtain rfl : y = x := by simpa using hx
  exact h.2
 | y :: l, bg, n + 1, x, h, hx => fits_drop (l := l) (n := n) h.2 (by simpa using hx)
theorem drop_set {α : Type} {Q : List α} {n : Nat} {q v : α} (h : Q[n]? = some q) : (Q.set n v).drop n = v :: Q.drop (n + 1) := by
 have hn := (List.getElem?_eq_some_iff.1 h).1
 have h1 : (Q.set n v)[n]? = some v := by rw [List.getElem?_set, if_pos rfl, if_pos hn]
 rw [drop_get h1, List.drop_set_of_lt (by omega)]
theorem infoRe : (Tryz.prog.info? 111).map (fun i => (i.zero, i.size, i.bytes)) = some (some (.agg #[.int .i64 0, .int .i64 0, .int .i64 0]), 3, 24) := by kernel_rfl
set_option maxRecDepth 100000 in
set_option maxHeartbeats 1000000 in
theorem leastOf_walk (bl bs bg wd : Int) (hb : 0 ≤ bg ∧ bg ≤ 100000) (hw : 0 ≤ wd ∧ wd ≤ 1000) (l : List St) (hl0 : 1 ≤ l.length) (hl : l.length ≤ 5000) (hS : SmN l) (hF : FitsT wd bg l) (G o cap : Nat) (hc : l.length ≤ cap ∧ cap ≤ maxLen) (w : World) (hr : SRowO l G o w) :
  Calls Tryz.prog 34 #[.agg #[.int .i64 bl, .int .i64 bs, .int .i64 bg], .slice (some ⟨G, o, none⟩) l.length cap, .int .i64 wd] w fun e w' =>
   ∃ v, e = .returned v ∧ w'.ownsRow w.heap.size 52 7 v (leastP wd bg l).length (flatS (leastP wd bg l)) ∧ Below w.heap.size w w' := by
 have hmx : maxLen ≤ 9223372036854775807 := by decide
 obtain ⟨i0, hi, hz0, hz1, hz2⟩ := info_partsC infoRe
 obtain ⟨s0, hsi, hs0, hs1, hs2⟩ := info_partsC infoSt
 go_enter Tryz.func34, Tryz.ntmps34
 have HP := hideW (And.intro hr (And.intro hS hF))
 have hGz := hr.1
 clear hr hS hF
 go_wp2_with (at_make; refine wpList_make_full _ rfl _ _ 109 rfl w.heap.size 111 i0 (.agg #[.int .i64 0, .int .i64 0, .int .i64 0]) 3 Tryz.underlying109 hi hz0 hz1 .i64 .i64 _ _ (l.length + 1) rfl rfl (by omega) (by omega) (by rw [hz2]; omega) (by unfold maxLen; omega) (by simp) ?_; intro w2 own2 gr2)
 have B2 : Below w.heap.size w w2 := bupW (bel1W w _) (Below.grown (Below.refl _ _) gr2 (Nat.le_refl _) (fun k hk => by cases hk))
 have S2 : SpAt w2 w.heap.size bl bs bg := (gr2.block w.heap.size (by simp) (by simp)).trans (World.alloc_heap_new w _)
 have R2 : RC w2 (w.heap.size + 1) (List.replicate (l.length + 1) zeroR) := by
  rw [World.size_alloc] at own2
  exact RC.made own2
 clear own2 gr2
 obtain ⟨m0, hm0⟩ : ∃ m : Nat, m + 1 = l.length := ⟨l.length - 1, by omega⟩
 obtain ⟨x0, hx0⟩ : ∃ x, l[m0]? = some x := ⟨_, List.getElem?_eq_getElem (by omega)⟩
 have D2 : (List.replicate (l.length + 1) zeroR).drop (m0 + 1) = tabT wd x0.nxt.ce (l.drop (m0 + 1)) := by
  rw [hm0, List.drop_length, List.drop_replicate, show l.length + 1 - l.length = 1 by omega]
  rfl
 have H2 := hideW (And.intro B2 (And.intro S2 (And.intro R2 D2)))
 clear B2 S2 R2 D2
 have hm0' := hideW hm0
 go_loopw [8] (fun iv wq => ∃ (n : Nat) (Q : List Re) (x : St), iv = .int .i64 n ∧ n < l.length ∧ l[n]? = some x ∧ Q.length = l.length + 1 ∧ Below w.heap.size w wq ∧ SpAt wq w.heap.size bl bs bg ∧ RC wq (w.heap.size + 1) Q ∧ Q.drop (n + 1) = tabT wd x.nxt.ce (l.drop (n + 1))) (fun iv _ => (intOf iv).toNat)
 case atStart =>
  obtain ⟨B2, S2, R2, D2⟩ := H2.out
  exact ⟨m0, _, x0, by rw [← hm0]; simp, by omega, hx0, by simp, B2, S2, R2, D2⟩
 case round =>
  obtain ⟨n, Q, x, rfl, hn, hx, hQl, tb, t0, t1, hD⟩ := hrel
  clear H2 hm0 hm0' hx0 x0 m0
  by_cases h0 : 0 < n
  ·obtain ⟨m1, hm1⟩ : ∃ m : Nat, m + 1 = n := ⟨n - 1, by omega⟩
   obtain ⟨y, hy⟩ : ∃ y, l[m1]? = some y := ⟨_, List.getElem?_eq_getElem (by omega)⟩
   obtain ⟨q, hq⟩ : ∃ q, Q[n]? = some q := ⟨_, List.getElem?_eq_getElem (by omega)⟩
   obtain ⟨hr, hS, hF⟩ := HP.out
   obtain ⟨c0, c1, c2, c3, c4, c5, c6⟩ := (hr.keep tb hGz).2 _ _ hy
   have j0 : (n : Int) - 1 = (m1 : Int) := by omega
   have j1 : IntKind.i64.wrap (m1 : Int) = (m1 : Int) := IntWalk.i64_in _ ⟨by omega, by omega⟩
   have j2 : IntKind.i64.wrap ((n : Int) + 1) = ((n + 1 : Nat) : Int) := by rw [show (n : Int) + 1 = ((n + 1 : Nat) : Int) by omega]; exact IntWalk.i64_in _ ⟨by omega, by omega⟩
   have k0 : (0 : Int) ≤ (m1 : Int) := by omega
   have k1 : (m1 : Int) < (l.length : Int) := by omega
   have k2 : (0 : Int) ≤ (n : Int) := by omega
   have k3 : (n : Int) ≤ (l.length : Int) := by omega
   have k3' : (n : Int) < (l.length : Int) + 1 := by omega
   have k4 : (l.length : Int) ≤ (cap : Int) := by omega
   have k5 : (0 : Int) ≤ (n : Int) + 1 := by omega
   have k6 : (n : Int) + 1 ≤ (l.length : Int) + 1 := by omega
   have k7 : (n : Int) ≤ (cap : Int) := by omega
   have k8 : m1 < l.length := by omega
   have k9 : (m1 : Int) ≤ 9223372036854775807 := by omega
   have k10 : (n : Int) ≤ 9223372036854775807 := by omega
   have k11 : ¬ cap = n := by omega
   have k12 : ¬ l.length = n := by omega
   have hdn : decide ((0 : Int) < (n : Int)) = true := decide_eq_true (by omega)
   have hl1 : (l.drop n).length = l.length - n := List.length_drop
   have hl2 : (Q.drop (n + 1)).length = l.length - n := by rw [List.length_drop, hQl]; omega
   have hxm := hS x (List.mem_of_getElem? hx)
   have hym := hS y (List.mem_of_getElem? hy)
   obtain ⟨v, hv⟩ : ∃ v, restGo y.nxt.ce wd 0 (l.drop n) (Q.drop (n + 1)) topR = v := ⟨_, rfl⟩
   have hQ2 : (Q.set n v).drop (m1 + 1) = tabT wd y.nxt.ce (l.drop (m1 + 1)) := by
    rw [hm1, drop_set hq, hD, drop_get hx, tabT, ← drop_get hx, ← hD, hv]
   have HRest : Hid (∀ W, SRowO (l.drop n) G (o + n * 7) W → RRow (Q.drop (n + 1)) (w.heap.size + 1) ((n + 1) * 3) W → Calls Tryz.prog 62 #[.agg #[.int .i64 y.nxt.loc, .int .i64 y.nxt.sg, .int .i64 y.nxt.ce], .slice (some ⟨G, o + n * 7, none⟩) (l.length - n) (cap - n), .slice (some ⟨w.heap.size + 1, (n + 1) * 3, none⟩) (l.length - n) (l.length - n), .int .i64 wd] W fun e w' => e = .returned (.agg #[.int .i64 v.bad, .int .i64 v.cnt, .int .i64 v.fst]) ∧ Below W.heap.size W w') := hideW (fun W h1 h2 => by
    have := rest_walk y.nxt.loc y.nxt.sg y.nxt.ce wd hym.2 hw (l.drop n) (Q.drop (n + 1)) (by omega) (hS.drop n).sms (by rw [hD]; exact tab_sm wd hw _ _ hxm.2 (hS.drop _) (fits_drop hF hx) (by rw [List.length_drop]; omega)) G (o + n * 7) (cap - n) (w.heap.size + 1) ((n + 1) * 3) (l.length - n) ⟨by omega, by omega⟩ ⟨by omega, by omega⟩ (by omega) W h1 h2
    rw [hl1, hl2, hv] at this
    exact this)
   have HX := hideW (And.intro tb (And.intro t0 (And.intro t1 (And.intro hQ2 (And.intro hy (And.intro hq (And.intro hQl (And.intro (hr.drop n) (t1.row (n + 1))))))))))
   have hzz := tb.size
   have hwz := t1.lt
   have HE := hideW (fun (W' : World) (b : Below wr.heap.size wr W') => (t1.keep b).at hq)
   have A1 : Hid (SRowO (l.drop n) G (o + n * 7) wr.drew) := hideW (((hr.drop n).keep tb hGz).keep (Below.refl wr.heap.size wr).drew (by omega))
   have A2 : Hid (RRow (Q.drop (n + 1)) (w.heap.size + 1) ((n + 1) * 3) wr.drew) := hideW ((t1.row (n + 1)).keep (Below.refl wr.heap.size wr).drew hwz)
   clear tb t0 t1 hD hx hy hq hr hS hF hl1 hl2 hv hQ2 hxm hym hQl
   go_wp2_with fail
   go_region_held3 (fun w' => w'.cell? ⟨G, o + m1 * 7 + 4, none⟩ = some (.int .i64 y.nxt.loc) ∧ w'.cell? ⟨G, o + m1 * 7 + 5, none⟩ = some (.int .i64 y.nxt.sg) ∧ w'.cell? ⟨G, o + m1 * 7 + 6, none⟩ = some (.int .i64 y.nxt.ce)) (first | go_keep | assumption | exact ⟨cell_three_set (by omega) (by assumption), cell_three_set (by omega) (by assumption), cell_three_set (by omega) (by assumption)⟩)
    (first | (go_at_call 62; (with_reducible refine Calls.mono (HRest.out _ A1.out A2.out) ?_); rintro e w4 ⟨rfl, b4⟩; have b4 : Below wr.heap.size wr w4 := bupW (Below.refl wr.heap.size wr).drew b4; have z4 := b4.size; have g4 : w4.cell? ⟨G, o + m1 * 7 + 4, none⟩ = some (.int .i64 y.nxt.loc) := (b4.cell (p := ⟨G, o + m1 * 7 + 4, none⟩) (show G < wr.heap.size by omega)).trans c4; have g5 : w4.cell? ⟨G, o + m1 * 7 + 5, none⟩ = some (.int .i64 y.nxt.sg) := (b4.cell (p := ⟨G, o + m1 * 7 + 5, none⟩) (show G < wr.heap.size by omega)).trans c5; have g6 : w4.cell? ⟨G, o + m1 * 7 + 6, none⟩ = some (.int .i64 y.nxt.ce) := (b4.cell (p := ⟨G, o + m1 * 7 + 6, none⟩) (show G < wr.heap.size by omega)).trans c6; obtain ⟨⟨e0, e1, e2⟩, e3, e4, e5⟩ := HE.out w4 b4))
   clear g4 g5 g6 e0 e1 e2 e3 e4 e5 c0 c1 c2 c3 c4 c5 c6 HE A1 A2 HRest
   have HB := hideW b4
   clear b4
   go_wp2
   go_roundw
   case rel =>
    obtain ⟨tb, t0, t1, hQ2, hy, hq, hQl, _⟩ := HX.out
    refine ⟨m1, Q.set n v, y, by go_num, by omega, hy, by rw [List.length_set]; exact hQl, ?_, ?_, (t1.keep HB.out).set n v, hQ2⟩
    ·exact (((bupW tb HB.out).setCell (by simp) _).setCell (by simp) _).setCell (by simp) _
    ·exact ((Below.heap_setCell _ _ _ _ (by simp)).trans ((Below.heap_setCell _ _ _ _ (by simp)).trans (Below.heap_setCell _ _ _ _ (by simp)))).trans (t0.keep HB.out)
   case measure => simp [intOf]; omega
  ·obtain rfl : n = 0 := by omega
   have hdn : decide ((0 : Int) < (0 : Int)) = false := by decide
   obtain ⟨hr, hS, hF⟩ := HP.out
   obtain ⟨q, hq⟩ : ∃ q, Q[0]? = some q := ⟨_, List.getElem?_eq_getElem (by omega)⟩
   have hl2 : (Q.drop 1).length = l.length := by rw [List.length_drop, hQl]; omega
   have hxm := hS x (List.mem_of_getElem? hx)
   obtain ⟨v, hv⟩ : ∃ v, restGo bg wd 0 l (Q.drop 1) topR = v := ⟨_, rfl⟩
   have hQ2 : Q.set 0 v = tabT wd bg l := by
    have h1 := drop_set (v := v) hq
    have h2 := drop_get hx
    simp only [List.drop_zero, Nat.zero_add] at h1 h2
    rw [h1]
    rw [Nat.zero_add] at hD
    conv => rhs; rw [h2]
    rw [tabT, ← h2, ← hD, hv]
   have HRest : Hid (∀ W, SRowO l G o W → RRow (Q.drop 1) (w.heap.size + 1) (1 * 3) W → Calls Tryz.prog 62 #[.agg #[.int .i64 bl, .int .i64 bs, .int .i64 bg], .slice (some ⟨G, o, none⟩) l.length cap, .slice (some ⟨w.heap.size + 1, 3, none⟩) l.length l.length, .int .i64 wd] W fun e w' => e = .returned (.agg #[.int .i64 v.bad, .int .i64 v.cnt, .int .i64 v.fst]) ∧ Below W.heap.size W w') := hideW (fun W h1 h2 => by
    have := rest_walk bl bs bg wd hb hw l (Q.drop 1) (by omega) hS.sms (by rw [Nat.zero_add] at hD; rw [hD]; exact tab_sm wd hw _ _ hxm.2 (hS.drop _) (fits_drop hF hx) (by rw [List.length_drop]; omega)) G o cap (w.heap.size + 1) (1 * 3) l.length ⟨by omega, by omega⟩ ⟨by omega, by omega⟩ (by omega) W h1 h2
    rw [hl2, hv] at this
    exact this)
   have hzz := tb.size
   have hwz := t1.lt
   have HE := hideW (fun (W' : World) (b : Below wr.heap.size wr W') => (t1.keep b).at hq)
   have A1 : Hid (SRowO l G o wr.drew) := hideW ((hr.keep tb hGz).keep (Below.refl wr.heap.size wr).drew (by omega))
   have A2 : Hid (RRow (Q.drop 1) (w.heap.size + 1) (1 * 3) wr.drew) := hideW ((t1.row 1).keep (Below.refl wr.heap.size wr).drew hwz)
   have A3 : Hid (SRowO l G o wr) := hideW (hr.keep tb hGz)
   have A4 : Hid (RRow (Q.drop 1) (w.heap.size + 1) (1 * 3) wr) := hideW (t1.row 1)
   have ⟨a0, a1, a2⟩ := t0.cells
   have HX := hideW (And.intro tb (And.intro t1 hQ2))
   have k12 : ¬ l.length = 0 := by omega
   have k13 : (1 : Int) ≤ (l.length : Int) + 1 := by omega
   have k14 : (0 : Int) ≤ (l.length : Int) := by omega
   clear tb t0 t1 hD hx hq hr hS hF hl2 hv hQ2 hxm hQl h0
   go_wp2_with fail
   go_region_held3 (fun w' => w'.cell? ⟨w.heap.size, 0, none⟩ = some (.int .i64 bl) ∧ w'.cell? ⟨w.heap.size, 1, none⟩ = some (.int .i64 bs) ∧ w'.cell? ⟨w.heap.size, 2, none⟩ = some (.int .i64 bg)) (first | go_keep | assumption | exact ⟨cell_three_set (i := 0) (by omega) (by assumption), cell_three_set (i := 0) (by omega) (by assumption), cell_three_set (i := 0) (by omega) (by assumption)⟩)
    (first | (go_at_call 62; (with_reducible refine Calls.mono (HRest.out _ A1.out A2.out) ?_); rintro e w4 ⟨rfl, b4⟩; have b4 : Below wr.heap.size wr w4 := bupW (Below.refl wr.heap.size wr).drew b4; have z4 := b4.size; have g4 : w4.cell? ⟨w.heap.size, 0, none⟩ = some (.int .i64 bl) := (b4.cell (p := ⟨w.heap.size, 0, none⟩) (show w.heap.size < wr.heap.size by omega)).trans a0; have g5 : w4.cell? ⟨w.heap.size, 1, none⟩ = some (.int .i64 bs) := (b4.cell (p := ⟨w.heap.size, 1, none⟩) (show w.heap.size < wr.heap.size by omega)).trans a1; have g6 : w4.cell? ⟨w.heap.size, 2, none⟩ = some (.int .i64 bg) := (b4.cell (p := ⟨w.heap.size, 2, none⟩) (show w.heap.size < wr.heap.size by omega)).trans a2; obtain ⟨⟨e0, e1, e2⟩, e3, e4, e5⟩ := HE.out w4 b4))
   clear g4 g5 g6 e0 e1 e2 e3 e4 e5 a0 a1 a2 HE A1 A2 HRest
   have R5 : RC (((w4.setCell ⟨w.heap.size + 1, 0, none⟩ (.int .i64 v.bad)).setCell ⟨w.heap.size + 1, 1, none⟩ (.int .i64 v.cnt)).setCell ⟨w.heap.size + 1, 2, none⟩ (.int .i64 v.fst)) (w.heap.size + 1) (tabT wd bg l) := by
    rw [← HX.out.2.2]
    exact (HX.out.2.1.keep b4).set 0 v
   have B5 : Below w.heap.size w (((w4.setCell ⟨w.heap.size + 1, 0, none⟩ (.int .i64 v.bad)).setCell ⟨w.heap.size + 1, 1, none⟩ (.int .i64 v.cnt)).setCell ⟨w.heap.size + 1, 2, none⟩ (.int .i64 v.fst)) := (((bupW HX.out.1 b4).setCell (by simp) _).setCell (by simp) _).setCell (by simp) _
   have H5 := hideW (And.intro R5 B5)
   clear R5 B5 HX A3 A4 b4
   generalize (((w4.setCell ⟨w.heap.size + 1, 0, none⟩ (.int .i64 v.bad)).setCell ⟨w.heap.size + 1, 1, none⟩ (.int .i64 v.cnt)).setCell ⟨w.heap.size + 1, 2, none⟩ (.int .i64 v.fst)) = w5 at *
   go_wp2_with fail
   go_loopw [9, 10] (fun lv nv wq => ∃ (n f : Nat) (pre : List St), nv = .int .i64 n ∧ n ≤ l.length ∧ l.length ≤ n + f ∧ pre.length ≤ n ∧ wq.ownsRow w.heap.size 52 7 lv pre.length (flatS pre) ∧ RC wq (w.heap.size + 1) (tabT wd bg l) ∧ Below w.heap.size w wq ∧ pre ++ wayT f (l.drop n) ((tabT wd bg l).drop n) = leastP wd bg l) (fun _ nv _ => l.length - (intOf nv).toNat)
   case atStart => exact ⟨0, l.length, [], rfl, by omega, by omega, by simp, World.ownsRow_nil _ _ _ _, H5.out.1, H5.out.2, by simp [leastP]⟩
   case round =>
    obtain ⟨n, f, pre, rfl, hn, hf, hpl, hown, hR, hB, hway⟩ := hrel
    clear H5
    by_cases hnl : n < l.length
    ·obtain ⟨hr, hS, hF⟩ := HP.out
     obtain ⟨r, hrr⟩ : ∃ r, (tabT wd bg l)[n]? = some r := ⟨_, List.getElem?_eq_getElem (by rw [tabT_len]; omega)⟩
     obtain ⟨kk, hkk⟩ : ∃ kk : Nat, r.fst = (kk : Int) := ⟨r.fst.toNat, by have := (tab_ok wd hw l bg hb hS hF hl n r hrr).2.2 hnl; omega⟩
     have hnk : n + kk < l.length := by have := (tab_ok wd hw l bg hb hS hF hl n r hrr).2.2 hnl; omega
     obtain ⟨y, hy⟩ : ∃ y, l[n + kk]? = some y := ⟨_, List.getElem?_eq_getElem hnk⟩
     obtain ⟨c0, c1, c2, c3, c4, c5, c6⟩ := (hr.keep hB hGz).2 _ _ hy
     obtain ⟨⟨_, _, d2⟩, _⟩ := hR.at hrr
     rw [hkk] at d2
     have hz := hB.size
     have hway2 : (pre ++ [y]) ++ wayT (f - 1) (l.drop (n + kk + 1)) ((tabT wd bg l).drop (n + kk + 1)) = leastP wd bg l := by
      obtain ⟨g, rfl⟩ : ∃ g, f = g + 1 := ⟨f - 1, by omega⟩
      rw [drop_get hrr, wayT, hkk, Int.toNat_natCast, List.drop_drop, drop_get hy] at hway
      simp only [List.append_assoc, List.singleton_append]
      rw [← hway]
      congr 2
      rw [← drop_get hrr, List.drop_drop, Nat.add_sub_cancel, show n + (kk + 1) = n + kk + 1 by omega]
     have j1 : (n : Int) + (kk : Int) = ((n + kk : Nat) : Int) := by omega
     obtain ⟨m, hm⟩ : ∃ m, n + kk = m := ⟨_, rfl⟩
     rw [hm] at c0 c1 c2 c3 c4 c5 c6 hway2 hnk j1
     have j2 : IntKind.i64.wrap (m : Int) = (m : Int) := IntWalk.i64_in _ ⟨by omega, by omega⟩
     have k1 : (m : Int) < (l.length : Int) := by omega
     have k2 : (n : Int) < (l.length : Int) + 1 := by omega
     have k3 : (m : Int) ≤ 9223372036854775807 := by omega
     have k4 : (n : Int) ≤ 9223372036854775807 := by omega
     have k5 : n < l.length + 1 := by omega
     have hd1 : decide ((n : Int) < (l.length : Int)) = true := decide_eq_true (by omega)
     have hmn := hideW hm
     have HW := hideW (And.intro hway2 (And.intro hR hB))
     have HO := hideW hown
     clear hway hway2 hR hB hown hr hS hF hrr hy hkk hm
     go_wp2_with (at_builtin; refine wpList_append_own _ rfl _ _ 45 rfl w.heap.size 52 s0 (.agg #[.int .i64 0, .int .i64 0, .int .i64 0, .int .i64 0, .int .i64 0, .int .i64 0, .int .i64 0]) 7 56 Tryz.underlying45 hsi hs0 hs1 hs2 rfl (by decide) _ _ _ rfl (HO.out.alloc _) ⟨wr.heap.size, 0, none⟩ 1 1 [.int .i64 y.kind, .int .i64 y.fin.loc, .int .i64 y.fin.sg, .int .i64 y.fin.ce, .int .i64 y.nxt.loc, .int .i64 y.nxt.sg, .int .i64 y.nxt.ce] rfl rfl (cell_seven_new _ _ _ _ _ _ _ _ _) (fun u hu => by simp at hu; rcases hu with rfl | rfl | rfl | rfl | rfl | rfl | rfl <;> rfl) (by unfold maxLen; omega) (by omega) (by simp; omega) ?_; intro v' w6 hown6 hgrow6 _; have B6 := Below.grown (HW.out.2.2.alloc HW.out.2.2.size (.cells #[.int .i64 y.kind, .int .i64 y.fin.loc, .int .i64 y.fin.sg, .int .i64 y.fin.ce, .int .i64 y.nxt.loc, .int .i64 y.nxt.sg, .int .i64 y.nxt.ce] 52)) hgrow6 (by simp; omega) (fun k e => by have := (HO.out.lt k e).1; omega))
     go_roundw
     case rel =>
      obtain ⟨hway2, hR, hB⟩ := HW.out
      have hme := hmn.out
      refine ⟨m + 1, f - 1, pre ++ [y], by go_num, by omega, by omega, by simp; omega, ?_, ?_, B6, hway2⟩
      ·rw [flatS_snoc, List.length_append]
       exact hown6
      ·obtain ⟨cur, h1, h2⟩ := hR
       have hne := row_apart HO.out h1 (by decide)
       have hlt := (Array.getElem?_eq_some_iff.1 h1).1
       exact ⟨cur, (hgrow6.block _ (by simp; omega) hne).trans ((Below.heap_alloc _ _ _ hlt).trans h1), h2⟩
     case measure => simp [intOf]; have := hmn.out; omega
    ·obtain rfl : n = l.length := by omega
     have hd1 : decide ((l.length : Int) < (l.length : Int)) = false := by simp
     have hpre : pre = leastP wd bg l := by
      rw [List.drop_length] at hway
      have : wayT f [] ((tabT wd bg l).drop l.length) = [] := by
       cases f with
       | zero => rfl
       | succ f => cases (tabT wd bg l).drop l.length <;> simp [wayT]
      rw [this, List.append_nil] at hway
      exact hway
     have HW := hideW (And.intro hown hB)
     clear hway hR hB hown
     go_wp2
     go_ret
     rw [← hpre]
     exact ⟨_, rfl, HW.out.1, HW.out.2⟩
end Go.Proofs.YtlkgnheccoodpaaGreatDoor
