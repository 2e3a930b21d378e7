/- Package wrap: restFrom: the best way from a spot on. -/
import Derived.Test.YteignefcijmmeaaDoorWrU
import Derived.Test.YteignefcijmmeaaDoorWrB
import Derived.Deep.RegionHeld3
import Derived.Deep.Cut
import Derived.Deep.CutRange
import Derived.Deep.DeepCutAuto
import Derived.Deep.CutBlock
namespace Go.Proofs.YteignefcijmmeaaDoor
open Go.RowKit Go.Shelf
attribute [local go_sem] Oper.semAt_some

/-- Stops in memory, from an offset on. -/
def SRowO (l : List St) (G o : Nat) (V : World) : Prop := G < V.heap.size ∧ ∀ (i : Nat) (x : St), l[i]? = some x →
  V.cell? ⟨G, o + i * 7, none⟩ = some (.int .i64 x.kind) ∧ V.cell? ⟨G, o + i * 7 + 1, none⟩ = some (.int .i64 x.fin.loc) ∧ V.cell? ⟨G, o + i * 7 + 2, none⟩ = some (.int .i64 x.fin.sg) ∧ V.cell? ⟨G, o + i * 7 + 3, none⟩ = some (.int .i64 x.fin.ce) ∧ V.cell? ⟨G, o + i * 7 + 4, none⟩ = some (.int .i64 x.nxt.loc) ∧ V.cell? ⟨G, o + i * 7 + 5, none⟩ = some (.int .i64 x.nxt.sg) ∧ V.cell? ⟨G, o + i * 7 + 6, none⟩ = some (.int .i64 x.nxt.ce)
theorem SRowO.keep {l : List St} {G o : Nat} {V V2 : World} (h : SRowO l G o V) {m : Nat} (b : Below m V V2) (hm : G < m) : SRowO l G o V2 := by
  have k : ∀ n, V2.cell? ⟨G, n, none⟩ = V.cell? ⟨G, n, none⟩ := fun n => b.cell (p := ⟨G, n, none⟩) hm
  refine ⟨Nat.lt_of_lt_of_le h.1 b.size, fun i x hx => ?_⟩
  simp only [k]
  exact h.2 i x hx
/-- The best way from a place on: its badness, how many stops, which is its first. -/
structure Re where
  bad : Int
  cnt : Int
  fst : Int
/-- Such ways in memory. -/
def RRow (l : List Re) (G o : Nat) (V : World) : Prop := G < V.heap.size ∧ ∀ (i : Nat) (r : Re), l[i]? = some r →
  V.cell? ⟨G, o + i * 3, none⟩ = some (.int .i64 r.bad) ∧ V.cell? ⟨G, o + i * 3 + 1, none⟩ = some (.int .i64 r.cnt) ∧ V.cell? ⟨G, o + i * 3 + 2, none⟩ = some (.int .i64 r.fst)
theorem RRow.keep {l : List Re} {G o : Nat} {V V2 : World} (h : RRow l G o V) {m : Nat} (b : Below m V V2) (hm : G < m) : RRow l G o V2 := by
  have k : ∀ n, V2.cell? ⟨G, n, none⟩ = V.cell? ⟨G, n, none⟩ := fun n => b.cell (p := ⟨G, n, none⟩) hm
  refine ⟨Nat.lt_of_lt_of_le h.1 b.size, fun i x hx => ?_⟩
  simp only [k]
  exact h.2 i x hx
def betterB (a b : Re) : Bool := decide (a.bad < b.bad) || (a.bad == b.bad && decide (a.cnt < b.cnt))
/-- What restFrom goes through: from the stop number n on, with the best so far. -/
def restGo (bg wd : Int) : Nat → List St → List Re → Re → Re
  | n, x :: l, r :: R, best => if (sbadI x.kind x.fin.ce bg wd).2 = true then
      restGo bg wd (n + 1) l R (if betterB ⟨(sbadI x.kind x.fin.ce bg wd).1 + r.bad, 1 + r.cnt, n⟩ best = true then ⟨(sbadI x.kind x.fin.ce bg wd).1 + r.bad, 1 + r.cnt, n⟩ else best) else best
  | _, _, _, best => best
def topR : Re := ⟨9223372036854775807, 0, 0⟩
def ReAt (w : World) (B : Nat) (r : Re) : Prop := w.heap[B]? = some (.cells #[.int .i64 r.bad, .int .i64 r.cnt, .int .i64 r.fst] 156)
theorem ReAt.cells {w : World} {B : Nat} {r : Re} (h : ReAt w B r) : w.cell? ⟨B, 0, none⟩ = some (.int .i64 r.bad) ∧ w.cell? ⟨B, 1, none⟩ = some (.int .i64 r.cnt) ∧ w.cell? ⟨B, 2, none⟩ = some (.int .i64 r.fst) ∧ w.frozen? ⟨B, 0, none⟩ = false ∧ w.frozen? ⟨B, 1, none⟩ = false ∧ w.frozen? ⟨B, 2, none⟩ = false := by
  simp [World.cell?, World.frozen?, show w.heap[B]? = _ from h]
def SpAt (w : World) (B : Nat) (a b c : Int) : Prop := w.heap[B]? = some (.cells #[.int .i64 a, .int .i64 b, .int .i64 c] 79)
theorem ReAt.keep {w w' : World} {B : Nat} {r : Re} (h : ReAt w B r) (b : Below w.heap.size w w') : ReAt w' B r := (b.block B (Array.getElem?_eq_some_iff.1 h).1).trans h
theorem set_at {w : World} {B : Nat} {cs : Array Value} {t : TypeId} {fr : Nat × Nat} (h : w.heap[B]? = some (.cells cs t fr)) (i : Nat) (v : Value) : (w.setCell ⟨B, i, none⟩ v).heap[B]? = some (.cells (cs.setIfInBounds i v) t fr) := by
  obtain ⟨hlt, hk⟩ := Array.getElem?_eq_some_iff.1 h
  show (w.heap.modify B _)[B]? = _
  rw [Array.getElem?_eq_getElem (by rw [Array.size_modify]; exact hlt), Array.getElem_modify_self, hk]
  rfl
theorem ReAt.set {w : World} {B : Nat} {r r2 : Re} (h : ReAt w B r) : ReAt (((w.setCell ⟨B, 0, none⟩ (.int .i64 r2.bad)).setCell ⟨B, 1, none⟩ (.int .i64 r2.cnt)).setCell ⟨B, 2, none⟩ (.int .i64 r2.fst)) B r2 := by
  exact set_at (set_at (set_at h 0 _) 1 _) 2 _
theorem ReAt.other {w : World} {B C : Nat} {r : Re} {a b c : Value} (h : ReAt w B r) (hn : B ≠ C) : ReAt (((w.setCell ⟨C, 0, none⟩ a).setCell ⟨C, 1, none⟩ b).setCell ⟨C, 2, none⟩ c) B r :=
  ((Below.heap_setCell _ _ _ _ hn).trans ((Below.heap_setCell _ _ _ _ hn).trans (Below.heap_setCell _ _ _ _ hn))).trans h
theorem SpAt.other {w : World} {B C : Nat} {x y z : Int} {a b c : Value} (h : SpAt w B x y z) (hn : B ≠ C) : SpAt (((w.setCell ⟨C, 0, none⟩ a).setCell ⟨C, 1, none⟩ b).setCell ⟨C, 2, none⟩ c) B x y z :=
  ((Below.heap_setCell _ _ _ _ hn).trans ((Below.heap_setCell _ _ _ _ hn).trans (Below.heap_setCell _ _ _ _ hn))).trans h
theorem SpAt.keep {w w' : World} {B : Nat} {x y z : Int} (h : SpAt w B x y z) (b : Below w.heap.size w w') : SpAt w' B x y z := (b.block B (Array.getElem?_eq_some_iff.1 h).1).trans h
theorem sbad_bd (k c bg wd : Int) (hc : 0 ≤ c ∧ c ≤ 100000) (hb : 0 ≤ bg ∧ bg ≤ 100000) (hw : 0 ≤ wd ∧ wd ≤ 1000) : 0 ≤ (sbadI k c bg wd).1 ∧ (sbadI k c bg wd).1 ≤ 100000000000 := by
  unfold sbadI
  split
  · exact ⟨by simp, by simp⟩
  · have h : 0 ≤ wd - (c - bg) ∧ wd - (c - bg) ≤ 101000 := by omega
    have h1 : 0 ≤ (wd - (c - bg)) * (wd - (c - bg)) := Int.mul_nonneg h.1 h.1
    have h2 : (wd - (c - bg)) * (wd - (c - bg)) ≤ 101000 * 101000 := Int.mul_le_mul h.2 h.2 h.1 (by omega)
    split
    · exact ⟨by simp only; omega, by simp only; omega⟩
    · exact ⟨by simp only; omega, by simp only; omega⟩
theorem SpAt.cells {w : World} {B : Nat} {a b c : Int} (h : SpAt w B a b c) : w.cell? ⟨B, 0, none⟩ = some (.int .i64 a) ∧ w.cell? ⟨B, 1, none⟩ = some (.int .i64 b) ∧ w.cell? ⟨B, 2, none⟩ = some (.int .i64 c) := by
  simp [World.cell?, show w.heap[B]? = _ from h]
theorem drop_get {α : Type} {l : List α} {k : Nat} {x : α} (h : l[k]? = some x) : l.drop k = x :: l.drop (k + 1) := by
  have hk := (List.getElem?_eq_some_iff.1 h).1
  rw [List.drop_eq_getElem_cons hk]
  rw [List.getElem?_eq_getElem hk] at h
  rw [Option.some.inj h]
/-- Stops and ways whose numbers are small. -/
def SmS (l : List St) : Prop := ∀ x ∈ l, 0 ≤ x.fin.ce ∧ x.fin.ce ≤ 100000
def SmR (l : List Re) : Prop := ∀ r ∈ l, 0 ≤ r.bad ∧ r.bad ≤ 1000000000000000 ∧ 0 ≤ r.cnt ∧ r.cnt ≤ 1000000

set_option maxRecDepth 100000 in
set_option maxHeartbeats 1000000 in
theorem rest_walk (bl bs bg wd : Int) (hb : 0 ≤ bg ∧ bg ≤ 100000) (hw : 0 ≤ wd ∧ wd ≤ 1000) (l : List St) (R : List Re) (hlR : l.length ≤ R.length) (hS : SmS l) (hR : SmR R) (G o cap G2 o2 cap2 : Nat) (_hc : l.length ≤ cap ∧ cap ≤ maxLen) (hc2 : R.length ≤ cap2 ∧ cap2 ≤ maxLen) (hl : l.length ≤ 1000000) (w : World) (hr : SRowO l G o w) (hr2 : RRow R G2 o2 w) :
    Calls Tryd.prog 89 #[.agg #[.int .i64 bl, .int .i64 bs, .int .i64 bg], .slice (some ⟨G, o, none⟩) l.length cap, .slice (some ⟨G2, o2, none⟩) R.length cap2, .int .i64 wd] w fun e w' =>
      e = .returned (.agg #[.int .i64 (restGo bg wd 0 l R topR).bad, .int .i64 (restGo bg wd 0 l R topR).cnt, .int .i64 (restGo bg wd 0 l R topR).fst]) ∧ Below w.heap.size w w' := by
  have hmx : maxLen ≤ 9223372036854775807 := by decide
  obtain ⟨F, hF⟩ : ∃ F, restGo bg wd 0 l R topR = F := ⟨_, rfl⟩
  rw [hF]
  have HF := hideW hF
  clear hF
  go_enter Tryd.func89, Tryd.ntmps89
  go_wp2_with fail
  have s0 : SpAt (((w.alloc (.cells #[.int .i64 bl, .int .i64 bs, .int .i64 bg] 79)).alloc (.cells #[.int .i64 0, .int .i64 0, .int .i64 0] 156)).alloc (.cells #[.int .i64 9223372036854775807, .int .i64 0, .int .i64 0] 156)) w.heap.size bl bs bg := by
    exact (Below.heap_alloc _ _ _ (by simp; omega)).trans ((Below.heap_alloc _ _ _ (by simp)).trans (World.alloc_heap_new w _))
  have s1 : ReAt (((w.alloc (.cells #[.int .i64 bl, .int .i64 bs, .int .i64 bg] 79)).alloc (.cells #[.int .i64 0, .int .i64 0, .int .i64 0] 156)).alloc (.cells #[.int .i64 9223372036854775807, .int .i64 0, .int .i64 0] 156)) (w.heap.size + 1) ⟨0, 0, 0⟩ := by
    have := World.alloc_heap_new (w.alloc (.cells #[.int .i64 bl, .int .i64 bs, .int .i64 bg] 79)) (.cells #[.int .i64 0, .int .i64 0, .int .i64 0] 156)
    rw [World.size_alloc] at this
    exact (Below.heap_alloc _ _ _ (by simp)).trans this
  have s2 : ReAt (((w.alloc (.cells #[.int .i64 bl, .int .i64 bs, .int .i64 bg] 79)).alloc (.cells #[.int .i64 0, .int .i64 0, .int .i64 0] 156)).alloc (.cells #[.int .i64 9223372036854775807, .int .i64 0, .int .i64 0] 156)) (w.heap.size + 1 + 1) topR := by
    have := World.alloc_heap_new ((w.alloc (.cells #[.int .i64 bl, .int .i64 bs, .int .i64 bg] 79)).alloc (.cells #[.int .i64 0, .int .i64 0, .int .i64 0] 156)) (.cells #[.int .i64 9223372036854775807, .int .i64 0, .int .i64 0] 156)
    rw [World.size_alloc, World.size_alloc] at this
    exact this
  have bb : Below w.heap.size w (((w.alloc (.cells #[.int .i64 bl, .int .i64 bs, .int .i64 bg] 79)).alloc (.cells #[.int .i64 0, .int .i64 0, .int .i64 0] 156)).alloc (.cells #[.int .i64 9223372036854775807, .int .i64 0, .int .i64 0] 156)) := (((bel1W w _).trans ((bel1W _ _).mono (by simp))).trans ((bel1W _ _).mono (by simp; omega)))
  generalize (((w.alloc (.cells #[.int .i64 bl, .int .i64 bs, .int .i64 bg] 79)).alloc (.cells #[.int .i64 0, .int .i64 0, .int .i64 0] 156)).alloc (.cells #[.int .i64 9223372036854775807, .int .i64 0, .int .i64 0] 156)) = V at *
  have hGz := hr.1
  have hGz2 := hr2.1
  have H0 := hideW (And.intro hr (And.intro hr2 (And.intro hS hR)))
  clear hr hr2 hS hR
  go_loopw [18] (fun iv wq => ∃ (k : Nat) (best : Re), iv = .int .i64 k ∧ k ≤ l.length ∧ SpAt wq w.heap.size bl bs bg ∧ ReAt wq (w.heap.size + 1) ⟨0, 0, 0⟩ ∧ ReAt wq (w.heap.size + 1 + 1) best ∧ Below w.heap.size w wq ∧ restGo bg wd k (l.drop k) (R.drop k) best = F) (fun iv _ => l.length - (intOf iv).toNat)
  case atStart => exact ⟨0, topR, rfl, by omega, s0, s1, s2, bb, HF.out⟩
  case round =>
    obtain ⟨k, best, rfl, hk, t0, t1, t2, tb, hgo⟩ := hrel
    clear s0 s1 s2 bb HF
    have hz := tb.size
    have hzw : w.heap.size < wr.heap.size := (Array.getElem?_eq_some_iff.1 t0).1
    have ⟨a0, a1, a2⟩ := t0.cells
    have ⟨r0, r1, r2, r3, r4, r5⟩ := t1.cells
    have ⟨q0, q1, q2, q3, q4, q5⟩ := t2.cells
    by_cases hk2 : k < l.length
    · obtain ⟨x, hx⟩ : ∃ x, l[k]? = some x := ⟨_, List.getElem?_eq_getElem hk2⟩
      obtain ⟨y, hy⟩ : ∃ y, R[k]? = some y := ⟨_, List.getElem?_eq_getElem (by omega)⟩
      have hdl : l.drop k = x :: l.drop (k + 1) := drop_get hx
      have hdr : R.drop k = y :: R.drop (k + 1) := drop_get hy
      rw [hdl, hdr] at hgo
      obtain ⟨hr, hr2, hS, hR⟩ := H0.out
      obtain ⟨c0, c1, c2, c3, c4, c5, c6⟩ := (hr.keep tb hGz).2 _ _ hx
      have HY := hideW ((hr2.keep tb hGz2))
      have hxs := hS x (List.mem_of_getElem? hx)
      have hys := hR y (List.mem_of_getElem? hy)
      have HB := hideW (fun W => sbad_any x.kind x.fin x.nxt bl bs bg wd hxs hb hw W)
      unfold stopV at HB
      have HG := hideW hgo
      have HT := hideW (And.intro t0 (And.intro t1 (And.intro t2 tb)))
      clear hr hr2 hS hR hgo t0 t1 t2 tb hdl hdr
      have hdk : decide ((k : Int) < (l.length : Int)) = true := decide_eq_true (by omega)
      have b0 : (wr.alloc (.cells #[.int .i64 x.kind, .int .i64 x.fin.loc, .int .i64 x.fin.sg, .int .i64 x.fin.ce, .int .i64 x.nxt.loc, .int .i64 x.nxt.sg, .int .i64 x.nxt.ce] 81)).cell? ⟨w.heap.size, 0, none⟩ = some (.int .i64 bl) := (World.cell?_of_block (Below.heap_alloc _ _ _ hzw)).trans a0
      have b1 : (wr.alloc (.cells #[.int .i64 x.kind, .int .i64 x.fin.loc, .int .i64 x.fin.sg, .int .i64 x.fin.ce, .int .i64 x.nxt.loc, .int .i64 x.nxt.sg, .int .i64 x.nxt.ce] 81)).cell? ⟨w.heap.size, 1, none⟩ = some (.int .i64 bs) := (World.cell?_of_block (Below.heap_alloc _ _ _ hzw)).trans a1
      have b2 : (wr.alloc (.cells #[.int .i64 x.kind, .int .i64 x.fin.loc, .int .i64 x.fin.sg, .int .i64 x.fin.ce, .int .i64 x.nxt.loc, .int .i64 x.nxt.sg, .int .i64 x.nxt.ce] 81)).cell? ⟨w.heap.size, 2, none⟩ = some (.int .i64 bg) := (World.cell?_of_block (Below.heap_alloc _ _ _ hzw)).trans a2
      clear a0 a1 a2
      go_wp2_with fail
      refine (HB.out _).mono ?_
      rintro e w2 ⟨rfl, bq⟩
      obtain ⟨t0, t1, t2, tb⟩ := HT.out
      have bw : Below wr.heap.size wr w2 := bupW (bel1W wr _) bq
      have u0 := t0.keep bw
      have u1 := t1.keep bw
      have u2 := t2.keep bw
      have ub := bupW tb bw
      have uy := HY.out.keep bw (by omega)
      clear t0 t1 t2 tb bw bq HT HY HB b0 b1 b2 c0 c1 c2 c3 c4 c5 c6 r0 r1 r2 r3 r4 r5 q0 q1 q2 q3 q4 q5
      have hsb := sbad_bd x.kind x.fin.ce bg wd hxs hb hw
      unfold restGo at HG
      obtain ⟨Ln, hLn⟩ : ∃ Ln, (sbadI x.kind x.fin.ce bg wd).1 = Ln := ⟨_, rfl⟩
      obtain ⟨ft, hft⟩ : ∃ ft, (sbadI x.kind x.fin.ce bg wd).2 = ft := ⟨_, rfl⟩
      rw [hLn, hft] at HG ⊢
      rw [hLn] at hsb
      clear hLn hft
      have ⟨r0, r1, r2, r3, r4, r5⟩ := u1.cells
      have ⟨q0, q1, q2, q3, q4, q5⟩ := u2.cells
      have ⟨y0, y1, y2⟩ := uy.2 _ _ hy
      have HU := hideW (And.intro u0 (And.intro u1 (And.intro u2 (And.intro ub uy))))
      clear u0 u1 u2 ub uy
      cases ft with
      | false =>
        go_wp2_with fail
        obtain ⟨u0, u1, u2, ub, uy⟩ := HU.out
        have hFb : best = F := by simpa using HG.out
        subst hFb
        have ⟨v0, v1, v2, _⟩ := (u1.set (r2 := best)).cells
        exact bodyPost_ret (v := .agg #[.int .i64 best.bad, .int .i64 best.cnt, .int .i64 best.fst]) (by simp [results, Tryd.results89, go_sem, v0, v1, v2]) rfl ⟨rfl, ((ub.setCell (by simp) _).setCell (by simp) _).setCell (by simp) _⟩
      | true =>
        have e1 : IntKind.i64.wrap (Ln + y.bad) = Ln + y.bad := IntWalk.i64_in _ ⟨by omega, by omega⟩
        have e2 : IntKind.i64.wrap (1 + y.cnt) = 1 + y.cnt := IntWalk.i64_in _ ⟨by omega, by omega⟩
        have hdk2 : decide ((k : Int) < (R.length : Int)) = true := decide_eq_true (by omega)
        have hkR : k < R.length := by omega
        go_wp2_with fail
        go_cut [14] (fun p wx => ∃ r, p = .pointer (some ⟨r, 0, none⟩) ∧ ReAt wx r ⟨Ln + y.bad, 1 + y.cnt, k⟩ ∧ Below w2.heap.size w2 wx ∧ w2.heap.size ≤ r)
        case first =>
          go_region_held3 (fun w' => w'.cell? ⟨G2, o2 + k * 3, none⟩ = some (.int .i64 y.bad) ∧ w'.cell? ⟨G2, o2 + k * 3 + 1, none⟩ = some (.int .i64 y.cnt)) (first | go_keep | assumption) (fail)
          all_goals first | go_wp2_with fail | skip
          all_goals go_meet
          all_goals exact ⟨_, rfl, World.alloc_heap_new w2 _, (bel1W w2 _).drew, Nat.le_refl _⟩
        case rest =>
          obtain ⟨r, rfl, hr1, hr2, hr3⟩ := hcut
          generalize wc = w3 at *
          obtain ⟨u0, u1, u2, ub, uy⟩ := HU.out
          have g0 := u0.keep hr2
          have g1 := u1.keep hr2
          have g2 := u2.keep hr2
          have gb := bupW ub hr2
          have hz2 : w.heap.size + 1 + 1 < w2.heap.size := (Array.getElem?_eq_some_iff.1 u2).1
          clear u0 u1 u2 ub uy HU y0 y1 y2 r0 r1 r2 r3 r4 r5 q0 q1 q2 q3 q4 q5
          have ⟨m0, m1, m2, m3, m4, m5⟩ := hr1.cells
          have ⟨q0, q1, q2, q3, q4, q5⟩ := g2.cells
          have HQ := hideW (And.intro g0 (And.intro g1 (And.intro g2 (And.intro gb hr1))))
          clear g0 g1 g2 gb hr1 hr2
          go_wp2_with fail
          refine (better_any _ _ _ _ _ _ _).mono ?_
          rintro e w4 ⟨rfl, b4⟩
          obtain ⟨g0, g1, g2, gb, hr1⟩ := HQ.out
          have ⟨m0, m1, m2, m3, m4, m5⟩ := (hr1.keep b4).cells
          have ⟨q0, q1, q2, q3, q4, q5⟩ := (g2.keep b4).cells
          have HQ := hideW (And.intro (g0.keep b4) (And.intro (g1.keep b4) (And.intro (g2.keep b4) (bupW gb b4))))
          clear g0 g1 g2 gb hr1 b4
          have HG2 : Hid (restGo bg wd (k + 1) (l.drop (k + 1)) (R.drop (k + 1)) (if betterB ⟨Ln + y.bad, 1 + y.cnt, k⟩ best = true then ⟨Ln + y.bad, 1 + y.cnt, k⟩ else best) = F) := hideW (by simpa using HG.out)
          clear HG
          cases hbt : betterB ⟨Ln + y.bad, 1 + y.cnt, k⟩ best
          · have hbt2 : (decide (Ln + y.bad < best.bad) || (Ln + y.bad == best.bad && decide (1 + y.cnt < best.cnt))) = false := hbt
            rw [hbt2]
            rw [hbt] at HG2
            clear hbt hbt2
            go_wp2_with fail
            go_roundw
            case rel =>
              obtain ⟨g0, g1, g2, gb⟩ := HQ.out
              have k4 := HG2.out
              rw [if_neg (by simp)] at k4
              exact ⟨k + 1, best, by go_num, by omega, g0, g1, g2, gb, k4⟩
            case measure => simp [intOf]; omega
          · have hbt2 : (decide (Ln + y.bad < best.bad) || (Ln + y.bad == best.bad && decide (1 + y.cnt < best.cnt))) = true := hbt
            rw [hbt2]
            rw [hbt] at HG2
            clear hbt hbt2
            go_wp2_with fail
            go_roundw
            case rel =>
              obtain ⟨g0, g1, g2, gb⟩ := HQ.out
              have k0 := g0.other (C := w.heap.size + 1 + 1) (a := .int .i64 (Ln + y.bad)) (b := .int .i64 (1 + y.cnt)) (c := .int .i64 (k : Int)) (by omega)
              have k1 := g1.other (C := w.heap.size + 1 + 1) (a := .int .i64 (Ln + y.bad)) (b := .int .i64 (1 + y.cnt)) (c := .int .i64 (k : Int)) (by omega)
              have k2 := g2.set (r2 := ⟨Ln + y.bad, 1 + y.cnt, k⟩)
              have k3 : Below w.heap.size w (((w4.setCell ⟨w.heap.size + 1 + 1, 0, none⟩ (.int .i64 (Ln + y.bad))).setCell ⟨w.heap.size + 1 + 1, 1, none⟩ (.int .i64 (1 + y.cnt))).setCell ⟨w.heap.size + 1 + 1, 2, none⟩ (.int .i64 (k : Int))) := ((gb.setCell (by simp; omega) _).setCell (by simp; omega) _).setCell (by simp; omega) _
              have k4 := HG2.out
              first | rw [if_pos rfl] at k4 | rw [if_pos trivial] at k4
              exact ⟨k + 1, ⟨Ln + y.bad, 1 + y.cnt, k⟩, by go_num, by omega, k0, k1, k2, k3, k4⟩
            case measure => simp [intOf]; omega
    · obtain rfl : k = l.length := by omega
      have hdk : decide ((l.length : Int) < (l.length : Int)) = false := by simp
      have hFb : best = F := by
        rw [List.drop_length] at hgo
        simpa [restGo] using hgo
      subst hFb
      have HT := hideW (And.intro t1 tb)
      clear t0 t1 t2 tb hgo H0
      go_wp2_with fail
      obtain ⟨t1, tb⟩ := HT.out
      have ⟨v0, v1, v2, _⟩ := (t1.set (r2 := best)).cells
      exact bodyPost_ret (v := .agg #[.int .i64 best.bad, .int .i64 best.cnt, .int .i64 best.fst]) (by simp [results, Tryd.results89, go_sem, v0, v1, v2]) rfl ⟨rfl, ((tb.setCell (by simp) _).setCell (by simp) _).setCell (by simp) _⟩


end Go.Proofs.YteignefcijmmeaaDoor
