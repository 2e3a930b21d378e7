import Derived.Shelf.Abstract
import Derived.Shelf.RegionOpen
import Derived.OwnWalkIn
import Derived.TacticsInMore
import Derived.LoopNIn
import Derived.LoopIn
import Derived.Test.YtlkgnheccoodpaaGreatDoorGE
import Derived.Test.YtlkgnheccoodpaaGreatDoorLawL
namespace Go.Proofs.YtlkgnheccoodpaaGreatDoor
open Go.RowKit
def SeqP {α : Type} (n d : Nat) (P : Program) (g : Nat) (lb : Array Value) (encs : α → Array Value) (L : List α) (Free : Nat → Prop) (w : World) : Prop :=
  ∀ (M : Nat → Prop) (l : Nat) (J Jx : List α → World → Prop) (W : World), (∀ k, M k → k < w.heap.size ∧ Free k) → Below w.heap.size w W → w.heap.size < l → l < W.heap.size → CalmL W.heap.size (W.heap.size + d) J →
    (∀ pre x W0 W1, J pre W0 → W.heap.size + d ≤ W0.heap.size → Below W0.heap.size W0 W1 → pre ++ [x] <+: L → YieldAt Fence.wide (n - 1) P l (encs x) W1 fun e W' =>
      (e = .returned (.bool true) ∧ J (pre ++ [x]) W' ∧ But (fun k => M k ∨ k = l ∨ (W.heap.size + d ≤ k ∧ k < W0.heap.size)) W1 W') ∨ (e = .returned (.bool false) ∧ Jx (pre ++ [x]) W')) →
    J [] W →
    CallsIn Fence.wide n P g (#[.func (.yield l) #[] #[]] ++ lb) W fun e W' => (∃ v, e = .returned v) ∧ (J L W' ∨ ∃ pre, pre <+: L ∧ Jx pre W')
def privPost {α : Type} (hi z1 z2 : Nat) (M : Nat → Prop) (I : List α → World → Prop) (Ix : Code → List α → World → Prop) (xs : List α) (W : World) : Exit → Act → World → Prop
  | .normal, _, W' => But (fun k => M k ∨ (hi ≤ k ∧ (k < z1 ∨ z2 ≤ k))) W W' ∧ I xs W'
  | .ret, _, W' => But (fun k => M k ∨ (hi ≤ k ∧ (k < z1 ∨ z2 ≤ k))) W W' ∧ Ix .ret xs W'
  | .exit id, _, W' => But (fun k => M k ∨ (hi ≤ k ∧ (k < z1 ∨ z2 ≤ k))) W W' ∧ Ix (.exit id) xs W'
  | _, _, _ => False

theorem rangeFunc_priv {P : Program} {α : Type} {g : Operand} {ps : Array Tmp} {assign body : Code} {Q : Exit → Act → World → Prop} {a : Act} {w : World} {n : Nat} (h1 : 1 ≤ n)
    {gf : Nat} {lb : Array Value} (hg : a.eval g = .func (.func gf) #[] lb) (eg : ∀ args w, (callFunc gf args).run P w = .ok (.enter gf args) w)
    {encs : α → Array Value} {L : List α} {Free : Nat → Prop} {d : Nat} (hseq : SeqP (n - 1) d P gf lb encs L Free w) (hps : ∀ x, (encs x).size = ps.size)
    (M : Nat → Prop) (hM : ∀ k, M k → k < w.heap.size ∧ Free k)
    (I : List α → World → Prop) (Ix : Code → List α → World → Prop) (hI : CalmL w.heap.size (w.heap.size + 2 + d) I) (hIx : ∀ c, CalmL w.heap.size (w.heap.size + 2 + d) (Ix c)) (h0 : I [] w)
    (hround : ∀ (l : Nat) (pre : List α) (x : α) (W0 W : World) (K : Act → World → Prop), w.heap.size < l → l < W0.heap.size → w.heap.size + 2 + d ≤ W0.heap.size → l < w.heap.size + 2 + d → Below W0.heap.size W0 W → But M w W0 → I pre W0 → pre ++ [x] <+: L →
      (∀ a' Wa, Below W.heap.size W Wa → (∀ W2, But (fun k => k = l) Wa W2 → W2.heap.size = Wa.heap.size → But M w W2 → I pre W2 → body.wpIn (Fence.wide.inRound l) (n - 1 - 1) P (privPost (w.heap.size + 2 + d) W0.heap.size W.heap.size M I Ix (pre ++ [x]) W2) a' W2) → K a' Wa) →
      assign.wpIn (Fence.wide.inRound l) (n - 1 - 1) P (Exit.then K (fun _ _ _ => False)) { tmps := (ps.zip (encs x)).foldl (fun t (p, v) => t.setIfInBounds p v) a.tmps, defers := [] } W)
    (hdone : ∀ (D : Nat) (W : World), w.heap.size ≤ D → I L W → But M w W → W.heap[D]? = some (.deferred (some [])) → Q .normal { a with defers := { target := .collected D, args := #[] } :: a.defers } W)
    (hstop : ∀ (D : Nat) (c : Code) (pre : List α) (W : World), w.heap.size ≤ D → pre <+: L → Ix c pre W → But M w W → W.heap[D]? = some (.deferred (some [])) → c.wpIn Fence.wide n P Q { a with defers := { target := .collected D, args := #[] } :: a.defers } W) :
    (Code.rangeFunc g ps assign body).wpIn Fence.wide n P Q a w := by
  refine wpIn_rangeFunc ?_
  intro fn hfn
  obtain ⟨rec, hrec⟩ : ∃ rec : LoopState → Option Code → Loop, rec = fun st pe => { state := st, pending := pe, fn, tmps := a.tmps, params := ps, assign, body, defers := w.heap.size } := ⟨_, rfl⟩
  generalize hV : (w.alloc (.deferred (some []))).alloc (.loop (rec .ready none)) = V
  have hVz : V.heap.size = w.heap.size + 2 := by rw [← hV]; simp
  have hVb : Below w.heap.size w V := by rw [← hV]; exact ((Below.refl _ w).alloc (Nat.le_refl _) _).alloc (by simp) _
  have hVl : V.heap[w.heap.size + 1]? = some (.loop (rec .ready none)) := by
    rw [← hV]; have := World.alloc_heap_new (w.alloc (.deferred (some []))) (.loop (rec .ready none)); rwa [World.size_alloc] at this
  have hVd : V.heap[w.heap.size]? = some (.deferred (some [])) := by
    rw [← hV]; exact (Below.heap_alloc _ _ _ (by simp)).trans (World.alloc_heap_new w _)
  have hML : ∀ k, M k → k < w.heap.size := fun k h => (hM k h).1
  refine ⟨w.heap.size + 1, [{ target := .collected w.heap.size, args := #[] }], V, { target := .fn (.func gf) lb, args := #[.func (.yield (w.heap.size + 1)) #[] #[]] }, V, gf,
    #[.func (.yield (w.heap.size + 1)) #[] #[]] ++ lb, V, ?_, ?_, fun _ _ => trivial, ?_, fun _ => h1, ?_⟩
  · rw [← hV, hrec]; exact run_enterLoop_outer _ _ _ _ _
  · simp only [resolve, hg]
    simp [go_sem]
  · simp [invoke, go_sem, eg]
  have bK : ∀ {A B : World}, But M w A → Keeps V.heap.size (V.heap.size + d) A B → But M w B := fun h k =>
    ⟨k.os.trans h.os, k.tape.trans h.tape, k.output.trans h.output, Nat.le_trans h.size k.size, fun i hi hm => (k.same i (Nat.lt_of_lt_of_le hi h.size) (by omega)).trans (h.same i hi hm)⟩
  have bP : ∀ {A : World} (o : Obj), But M w A → But M w (A.putObj (w.heap.size + 1) o) := fun o h3 =>
    ⟨h3.os, h3.tape, h3.output, by have := h3.size; simp; omega, fun k hk hm => (World.putObj_heap_other (by omega)).trans (h3.same k hk hm)⟩
  have iP : ∀ {pre : List α} {A : World} (o : Obj), I pre A → I pre (A.putObj (w.heap.size + 1) o) := fun o h => hI _ _ _ h (Keeps.put _ _ _ (by omega) (by omega))
  have xP : ∀ {c : Code} {pre : List α} {A : World} (o : Obj), Ix c pre A → Ix c pre (A.putObj (w.heap.size + 1) o) := fun o h => hIx _ _ _ _ h (Keeps.put _ _ _ (by omega) (by omega))
  refine (hseq M (w.heap.size + 1)
    (fun pre W => (But M w W ∧ I pre W) ∧ W.heap[w.heap.size + 1]? = some (.loop (rec .ready none)) ∧ W.heap[w.heap.size]? = some (.deferred (some [])))
    (fun pre W => ∃ c, (But M w W ∧ Ix c pre W) ∧ W.heap[w.heap.size + 1]? = some (.loop (rec .done (some c))) ∧ W.heap[w.heap.size]? = some (.deferred (some [])))
    V hM hVb (by omega) (by omega)
    (fun pre A B hs hb => ⟨⟨bK hs.1.1 hb, hI _ _ _ hs.1.2 (hb.mono (by omega) (by omega))⟩, (hb.same _ (Array.getElem?_eq_some_iff.1 hs.2.1).1 (by omega)).trans hs.2.1, (hb.same _ (Array.getElem?_eq_some_iff.1 hs.2.2).1 (by omega)).trans hs.2.2⟩)
    ?_ ⟨⟨But.grown hVb, hI _ _ _ h0 (Keeps.of_below hVb)⟩, hVl, hVd⟩).mono ?_
  · rintro pre x W0 W ⟨⟨hB0, hip0⟩, hl0, hd0⟩ hWd hW0 hpx
    have hlt0 : w.heap.size + 1 < W0.heap.size := (Array.getElem?_eq_some_iff.1 hl0).1
    have hB := hB0.trans (But.grown hW0)
    have hip := hI _ _ _ hip0 (Keeps.of_below hW0)
    have hl := (hW0.block _ hlt0).trans hl0
    have hd := (hW0.block w.heap.size (by omega)).trans hd0
    have hlt : w.heap.size + 1 < W.heap.size := (Array.getElem?_eq_some_iff.1 hl).1
    have hy := run_yield (P := P) (args := encs x) hl (by rw [hrec]; exact hps x)
    rw [hrec] at hy
    refine ⟨fn, _, assign, body, hy, roundIn_of_wpIn hfn (hround _ pre x W0 W _ (by omega) hlt0 (by omega) (by omega) hW0 hB0 hip0 hpx ?_)⟩
    clear hy
    intro a' Wa hWa hbody
    have hla := (hWa.block _ hlt).trans hl
    have hda := (hWa.block w.heap.size (by omega)).trans hd
    have hlta : w.heap.size + 1 < Wa.heap.size := (Array.getElem?_eq_some_iff.1 hla).1
    refine ⟨_, run_beginRound hla (by rw [hrec]), ?_⟩
    generalize hU : Wa.putObj (w.heap.size + 1) (.loop { rec .ready none with state := .busy }) = U
    have hUl : U.heap[w.heap.size + 1]? = some (.loop { rec .ready none with state := .busy }) := by rw [← hU]; exact World.putObj_heap_same hlta
    have hUo : ∀ k, k ≠ w.heap.size + 1 → U.heap[k]? = Wa.heap[k]? := fun k hk => by rw [← hU]; exact World.putObj_heap_other hk
    have hUz : U.heap.size = Wa.heap.size := by rw [← hU]; simp
    have hUf : U.os = Wa.os ∧ U.tape = Wa.tape ∧ U.output = Wa.output := by rw [← hU]; exact ⟨rfl, rfl, rfl⟩
    have hBU : But M w U := by rw [← hU]; exact bP _ (hB.trans (But.grown hWa))
    have hIU : I pre U := by rw [← hU]; exact iP _ (hI _ _ _ hip (Keeps.of_below hWa))
    have hWz := hWa.size
    refine wpIn_mono (hbody U (by rw [← hU]; exact But.put _ _ _ rfl) hUz hBU hIU) ?_
    rintro e a3 X hp
    have shut : ∀ jump : Option Code, But (fun k => M k ∨ (w.heap.size + 2 + d ≤ k ∧ (k < W0.heap.size ∨ W.heap.size ≤ k))) U X →
        (Instr.endRound (w.heap.size + 1) jump).run P X = .ok (.bool jump.isNone) (X.putObj (w.heap.size + 1) (.loop (rec (if jump.isNone then .ready else .done) jump))) ∧
        (X.putObj (w.heap.size + 1) (.loop (rec (if jump.isNone then .ready else .done) jump))).heap[w.heap.size + 1]? = some (.loop (rec (if jump.isNone then .ready else .done) jump)) ∧
        (X.putObj (w.heap.size + 1) (.loop (rec (if jump.isNone then .ready else .done) jump))).heap[w.heap.size]? = some (.deferred (some [])) := fun jump hf => by
      have hXl := (hf.same (w.heap.size + 1) (by omega) (by rintro (e | e); · have := hML _ e; omega
                                                            · omega)).trans hUl
      have hXd : X.heap[w.heap.size]? = some (.deferred (some [])) := (hf.same w.heap.size (by omega) (by rintro (e | e); · have := hML _ e; omega
                                                                                                          · omega)).trans ((hUo _ (by omega)).trans hda)
      have := run_endRound (P := P) jump hXl
      rw [hrec] at this ⊢
      exact ⟨this, World.putObj_heap_same (Array.getElem?_eq_some_iff.1 hXl).1, (World.putObj_heap_other (by omega)).trans hXd⟩
    have end1 : ∀ o, But (fun k => M k ∨ (w.heap.size + 2 + d ≤ k ∧ (k < W0.heap.size ∨ W.heap.size ≤ k))) U X → But (fun k => M k ∨ k = w.heap.size + 1 ∨ (V.heap.size + d ≤ k ∧ k < W0.heap.size)) W (X.putObj (w.heap.size + 1) o) := fun o hf => by
      refine ⟨hf.os.trans (hUf.1.trans hWa.os), hf.tape.trans (hUf.2.1.trans hWa.tape), hf.output.trans (hUf.2.2.trans hWa.output), ?_, fun k hk hm => ?_⟩
      · have := hf.size
        simp; omega
      · exact (World.putObj_heap_other (fun e => hm (.inr (.inl e)))).trans ((hf.same k (by omega) (by rintro (e | e); · exact hm (.inl e)
                                                                                                       · exact hm (.inr (.inr ⟨by omega, by omega⟩)))).trans ((hUo k (fun e => hm (.inr (.inl e)))).trans (hWa.block k hk)))
    have end2 : ∀ o, But (fun k => M k ∨ (w.heap.size + 2 + d ≤ k ∧ (k < W0.heap.size ∨ W.heap.size ≤ k))) U X → But M w (X.putObj (w.heap.size + 1) o) := fun o hf => by
      refine bP _ ⟨hf.os.trans hBU.os, hf.tape.trans hBU.tape, hf.output.trans hBU.output, Nat.le_trans hBU.size hf.size, fun k hk hm => ?_⟩
      exact (hf.same k (Nat.lt_of_lt_of_le hk hBU.size) (by rintro (e | e); · exact hm e
                                                            · omega)).trans (hBU.same k hk hm)
    cases e with
    | normal =>
      obtain ⟨hbx, hipx⟩ := hp
      obtain ⟨hr, hl4, hd4⟩ := shut none hbx
      exact ⟨_, _, hr, .inl ⟨rfl, ⟨⟨end2 _ hbx, iP _ hipx⟩, hl4, hd4⟩, end1 _ hbx⟩⟩
    | ret =>
      obtain ⟨hbx, hix⟩ := hp
      obtain ⟨hr, hl4, hd4⟩ := shut (some .ret) hbx
      exact ⟨_, _, hr, .inr ⟨rfl, ⟨_, ⟨end2 _ hbx, xP _ hix⟩, hl4, hd4⟩⟩⟩
    | exit id =>
      obtain ⟨hbx, hix⟩ := hp
      obtain ⟨hr, hl4, hd4⟩ := shut (some (.exit id)) hbx
      exact ⟨_, _, hr, .inr ⟨rfl, ⟨_, ⟨end2 _ hbx, xP _ hix⟩, hl4, hd4⟩⟩⟩
    | goto t => exact hp.elim
    | panic ch => exact hp.elim
    | outgrown => exact hp.elim
  · rintro e X ⟨⟨v, rfl⟩, (⟨⟨hB, hip⟩, hl, hd⟩ | ⟨pre, hSp, c, ⟨hB, hi⟩, hl, hd⟩)⟩
    · exact ⟨none, _, by have := run_endLoop (P := P) hl (by rw [hrec]; simp); rw [hrec] at this; exact this,
        hdone _ _ (Nat.le_refl _) (iP _ hip) (bP _ hB) ((World.putObj_heap_other (by omega)).trans hd)⟩
    · exact ⟨some c, _, by have := run_endLoop (P := P) hl (by rw [hrec]; simp); rw [hrec] at this; exact this,
        hstop _ c pre _ (Nat.le_refl _) hSp (xP _ hi) (bP _ hB) ((World.putObj_heap_other (by omega)).trans hd)⟩

end Go.Proofs.YtlkgnheccoodpaaGreatDoor
namespace Go.Proofs.YtlkgnheccoodpaaGreatDoor
open Go.RowKit Go.Shelf
attribute [local go_sem] Oper.semAt_some

set_option maxHeartbeats 400000 in
theorem lines_mk (a : Option Addr) (n cap : Nat) (w : World) : Calls Tryz.prog 56 #[.slice a n cap] w fun e w' => e = .returned (.func (.func 85) #[] #[.pointer (some ⟨w.heap.size, 0, none⟩)]) ∧ w' = w.alloc (.cells #[.slice a n cap] 45) := by
  go_enter Tryz.func56, Tryz.ntmps56
  go_wp2
  go_ret
  exact ⟨rfl, rfl⟩
structure Ln where
  l : Int
  s : Int
  c : Int
  x : St
def Ln.enc (p : Ln) : Array Value := #[.agg #[.int .i64 p.l, .int .i64 p.s, .int .i64 p.c], p.x.val]
def linesG : Int → Int → Int → List St → List Ln
  | _, _, _, [] => []
  | a, b, c, x :: l => ⟨a, b, c, x⟩ :: linesG x.nxt.loc x.nxt.sg x.nxt.ce l

def StAt (w : World) (B : Nat) (x : St) : Prop := w.heap[B]? = some (.cells #[.int .i64 x.kind, .int .i64 x.fin.loc, .int .i64 x.fin.sg, .int .i64 x.fin.ce, .int .i64 x.nxt.loc, .int .i64 x.nxt.sg, .int .i64 x.nxt.ce] 52)
theorem StAt.cells {w : World} {B : Nat} {x : St} (h : StAt w B x) : w.cell? ⟨B, 0, none⟩ = some (.int .i64 x.kind) ∧ w.cell? ⟨B, 1, none⟩ = some (.int .i64 x.fin.loc) ∧ w.cell? ⟨B, 2, none⟩ = some (.int .i64 x.fin.sg) ∧ w.cell? ⟨B, 3, none⟩ = some (.int .i64 x.fin.ce) ∧ w.cell? ⟨B, 4, none⟩ = some (.int .i64 x.nxt.loc) ∧ w.cell? ⟨B, 5, none⟩ = some (.int .i64 x.nxt.sg) ∧ w.cell? ⟨B, 6, none⟩ = some (.int .i64 x.nxt.ce) := by
  simp [World.cell?, show w.heap[B]? = _ from h]

theorem but_three (W : World) (B : Nat) (a b c : Value) : But (fun k => k = B) W (((W.setCell ⟨B, 0, none⟩ a).setCell ⟨B, 1, none⟩ b).setCell ⟨B, 2, none⟩ c) :=
  (((But.refl (fun k => k = B) W).setCell (p := ⟨B, 0, none⟩) rfl a).setCell (p := ⟨B, 1, none⟩) rfl b).setCell (p := ⟨B, 2, none⟩) rfl c
theorem SpAt.frozens {w : World} {B : Nat} {a b c : Int} (h : SpAt w B a b c) : w.frozen? ⟨B, 0, none⟩ = false ∧ w.frozen? ⟨B, 1, none⟩ = false ∧ w.frozen? ⟨B, 2, none⟩ = false := by
  simp [World.frozen?, show w.heap[B]? = _ from h]

set_option maxRecDepth 100000 in
set_option maxHeartbeats 1000000 in
theorem lines_seq (n bx G cap : Nat) (hn : 1 ≤ n) (L : List St) (hc : L.length ≤ cap ∧ cap ≤ maxLen) (w : World) (hbx : Boxed w bx 45 (.slice (some ⟨G, 0, none⟩) L.length cap)) (hG : SRowO L G 0 w) :
    SeqP n 1 Tryz.prog 85 #[.pointer (some ⟨bx, 0, none⟩)] Ln.enc (linesG 0 0 0 L) (fun k => k ≠ bx ∧ k ≠ G) w := by
  intro M l J Jx W hM hWb hl hlW hJ hY h0
  have hmx : maxLen ≤ 9223372036854775807 := by decide
  have hWz := hWb.size
  have hbW : Boxed W bx 45 (.slice (some ⟨G, 0, none⟩) L.length cap) := (hWb.block bx hbx.lt).trans hbx
  have hGW := hG.keep hWb hG.1
  have hbl := hbx.lt
  have hGl := hG.1
  have HB : Hid (∀ (z : Nat) (A B : World), W.heap.size + 1 ≤ z → z < A.heap.size → But (fun k => M k ∨ k = l ∨ (W.heap.size + 1 ≤ k ∧ k < z)) A B → B.heap[bx]? = A.heap[bx]? ∧ B.heap[G]? = A.heap[G]? ∧ B.heap[W.heap.size]? = A.heap[W.heap.size]? ∧ B.heap[z]? = A.heap[z]?) := fun z A B hz hA hb => by
    refine ⟨hb.same bx (by omega) ?_, hb.same G (by omega) ?_, hb.same W.heap.size (by omega) ?_, hb.same z hA ?_⟩
    · rintro (e | e | e)
      · exact (hM _ e).2.1 rfl
      · omega
      · omega
    · rintro (e | e | e)
      · exact (hM _ e).2.2 rfl
      · omega
      · omega
    · rintro (e | e | e)
      · have := (hM _ e).1; omega
      · omega
      · omega
    · rintro (e | e | e)
      · have := (hM _ e).1; omega
      · omega
      · omega
  clear hM hbx hG
  have c0 : (W.alloc (.cells #[.int .i64 0, .int .i64 0, .int .i64 0] 50)).cell? ⟨bx, 0, none⟩ = some (.slice (some ⟨G, 0, none⟩) L.length cap) := (hbW.alloc _).cell
  have s0 : SpAt (W.alloc (.cells #[.int .i64 0, .int .i64 0, .int .i64 0] 50)) W.heap.size 0 0 0 := World.alloc_heap_new W _
  have g0 := hGW.keep (bel1W W (.cells #[.int .i64 0, .int .i64 0, .int .i64 0] 50)) (show G < W.heap.size by omega)
  have j0 := hJ _ _ _ h0 (Keeps.of_below (bel1W W (.cells #[.int .i64 0, .int .i64 0, .int .i64 0] 50)))
  have H0 := hideW (And.intro s0 (And.intro g0 j0))
  clear s0 g0 j0 hGW
  have HY := hideW hY
  have HJ := hideW hJ
  clear hY hJ h0
  refine callsIn_of_wp Tryz.func85 rfl trivial ?_ rfl
  simp only [Tryz.ntmps85, List.size_toArray, List.length_cons, List.length_nil, Nat.reduceAdd, Nat.reduceSub, Array.replicate_succ, Array.replicate_zero, List.push_toArray, List.append_toArray, List.nil_append, List.cons_append]
  gi_wp2
  gi_loopw [8] (fun iv wr => ∃ (pre : List Ln) (k : Nat) (a b c : Int), iv = .int .i64 k ∧ k ≤ L.length ∧ SpAt wr W.heap.size a b c ∧ SRowO L G 0 wr ∧ J pre wr ∧ pre ++ linesG a b c (L.drop k) = linesG 0 0 0 L) (fun iv _ => L.length - (intOf iv).toNat)
  case atStart => exact ⟨[], 0, 0, 0, 0, rfl, by omega, H0.out.1, H0.out.2.1, H0.out.2.2, rfl⟩
  case round =>
    obtain ⟨pre, k, a, b, c, rfl, hk, t0, hr, hJs, hpre⟩ := hrel
    have hkz : W.heap.size < wr.heap.size := (Array.getElem?_eq_some_iff.1 t0).1
    clear H0 c0
    by_cases hk2 : k < L.length
    · obtain ⟨x, hx⟩ : ∃ x, L[k]? = some x := ⟨_, List.getElem?_eq_getElem hk2⟩
      obtain ⟨c0, c1, c2, c3, c4, c5, c6⟩ := hr.2 _ _ hx
      rw [Nat.zero_add] at c0 c1 c2 c3 c4 c5 c6
      have hdk : decide ((k : Int) < (L.length : Int)) = true := decide_eq_true (by omega)
      rw [drop_get hx, linesG] at hpre
      obtain ⟨X, hX⟩ : ∃ X, wr.alloc (.cells #[.int .i64 x.kind, .int .i64 x.fin.loc, .int .i64 x.fin.sg, .int .i64 x.fin.ce, .int .i64 x.nxt.loc, .int .i64 x.nxt.sg, .int .i64 x.nxt.ce] 52) = X := ⟨_, rfl⟩
      have bX : Below wr.heap.size wr X := by rw [← hX]; exact bel1W wr _
      have tX := t0.keep bX
      have ⟨d0, d1, d2⟩ := tX.cells
      have xX : StAt X wr.heap.size x := by rw [← hX]; exact World.alloc_heap_new wr _
      have ⟨x0, x1, x2, x3, x4, x5, x6⟩ := xX.cells
      have zX : W.heap.size + 1 ≤ X.heap.size := by have := bX.size; omega
      have rX := hr.keep bX (show G < wr.heap.size by omega)
      have hpx : pre ++ [⟨a, b, c, x⟩] <+: linesG 0 0 0 L := by rw [← hpre]; exact ⟨linesG x.nxt.loc x.nxt.sg x.nxt.ce (L.drop (k + 1)), by simp⟩
      have HP := hideW (And.intro hpre (And.intro tX (And.intro xX (And.intro rX (And.intro hJs (And.intro hpx (And.intro zX bX)))))))
      clear hpre tX xX rX hpx zX hJs hr t0 bX
      gi_wp2
      obtain ⟨hpre, tX, xX, rX, hJs, hpx, zX, bX⟩ := HP.out
      obtain ⟨fn, tmps, assign, body, hy, hR⟩ := HY.out pre ⟨a, b, c, x⟩ wr X hJs (by omega) bX hpx
      have hy' := hy
      simp only [Ln.enc, St.val] at hy'
      rw [hy', Oper.uponIn_round]
      refine ⟨fun _ => hn, ?_⟩
      clear hy hy'
      refine hR.mono ?_
      clear hR
      rintro e W3 (⟨rfl, hJ4, hk4⟩ | ⟨rfl, hJx4⟩)
      · have hxz : wr.heap.size < X.heap.size := (Array.getElem?_eq_some_iff.1 xX).1
        obtain ⟨q1, q2, q3, q5⟩ := HB.out wr.heap.size _ _ (by omega) hxz hk4
        have q4 := hk4.size
        have r4 : SRowO L G 0 W3 := ⟨by omega, fun i y hy => by
          have := rX.2 i y hy
          have e : ∀ o, W3.cell? ⟨G, o, none⟩ = X.cell? ⟨G, o, none⟩ := fun o => World.cell?_of_block q2
          simp only [e]
          exact this⟩
        have t4 : SpAt W3 W.heap.size a b c := q3.trans tX
        have x4 : StAt W3 wr.heap.size x := q5.trans xX
        have ⟨_, _, _, _, n4, n5, n6⟩ := x4.cells
        have ⟨p0, p1, p2⟩ := t4.frozens
        have ⟨o0, o1, o2⟩ := t4.cells
        have t5 : SpAt (((W3.setCell ⟨W.heap.size, 0, none⟩ (.int .i64 x.nxt.loc)).setCell ⟨W.heap.size, 1, none⟩ (.int .i64 x.nxt.sg)).setCell ⟨W.heap.size, 2, none⟩ (.int .i64 x.nxt.ce)) W.heap.size x.nxt.loc x.nxt.sg x.nxt.ce := set_at (set_at (set_at t4 0 _) 1 _) 2 _
        have b5 : But (fun k => k = W.heap.size) W3 (((W3.setCell ⟨W.heap.size, 0, none⟩ (.int .i64 x.nxt.loc)).setCell ⟨W.heap.size, 1, none⟩ (.int .i64 x.nxt.sg)).setCell ⟨W.heap.size, 2, none⟩ (.int .i64 x.nxt.ce)) := but_three _ _ _ _ _
        have j5 := HJ.out _ _ _ hJ4 (Keeps.of_but b5 (fun k e => by omega))
        have r5 : SRowO L G 0 (((W3.setCell ⟨W.heap.size, 0, none⟩ (.int .i64 x.nxt.loc)).setCell ⟨W.heap.size, 1, none⟩ (.int .i64 x.nxt.sg)).setCell ⟨W.heap.size, 2, none⟩ (.int .i64 x.nxt.ce)) := r4.keep (b5.below (m := W.heap.size) (by omega) (fun k e => by omega)) (by omega)
        have H5 := hideW (And.intro t5 (And.intro r5 (And.intro j5 hpre)))
        clear t5 b5 j5 r5 r4 t4 x4 hk4 hJ4 q1 q2 q3 q5 hpre tX xX rX hJs hpx bX HP x0 x1 x2 x3 x5 x6 d0 d1 d2 c0 c1 c2 c3 c4 c5 c6 hX
        gi_wp2
        go_roundw
        case rel =>
          obtain ⟨t5, r5, j5, hpre⟩ := H5.out
          exact ⟨pre ++ [⟨a, b, c, x⟩], k + 1, x.nxt.loc, x.nxt.sg, x.nxt.ce, by go_num, by omega, t5, r5, j5, by simpa using hpre⟩
        case measure => simp [intOf]; omega
      · gi_wp2
        refine bodyPost_ret (results_none rfl _ _ _) rfl ?_
        exact ⟨⟨_, rfl⟩, .inr ⟨_, hpx, hJx4⟩⟩
    · obtain rfl : k = L.length := by omega
      have hdk : decide ((L.length : Int) < (L.length : Int)) = false := by simp
      rw [List.drop_length, linesG, List.append_nil] at hpre
      have HP := hideW (And.intro hpre hJs)
      clear hpre hJs hr t0
      gi_wp2
      go_end0
      refine ⟨⟨_, rfl⟩, .inl ?_⟩
      rw [← HP.out.1]
      exact HP.out.2

end Go.Proofs.YtlkgnheccoodpaaGreatDoor
namespace Go.Proofs.YtlkgnheccoodpaaGreatDoor
open Go.RowKit Go.Shelf
attribute [local go_sem] Oper.semAt_some

set_option maxHeartbeats 400000 in
theorem paras_mk (a : Option Addr) (n cap : Nat) (w : World) : Calls Tryz.prog 33 #[.slice a n cap] w fun e w' => e = .returned (.func (.func 61) #[] #[.pointer (some ⟨w.heap.size, 0, none⟩)]) ∧ w' = w.alloc (.cells #[.slice a n cap] 45) := by
  go_enter Tryz.func33, Tryz.ntmps33
  go_wp2
  go_ret
  exact ⟨rfl, rfl⟩
structure Pg where
  off : Nat
  l : List St
def Pg.enc (G : Nat) (p : Pg) : Array Value := #[.slice (some ⟨G, p.off * 7, none⟩) p.l.length p.l.length]
def parasG (fr n : Nat) (acc : List St) : List St → List Pg
  | [] => []
  | x :: l => if x.kind = 1 ∨ x.kind = 0 then ⟨fr, acc ++ [x]⟩ :: parasG (n + 1) (n + 1) [] l else parasG fr (n + 1) (acc ++ [x]) l

theorem kd_no {kd : Int} (h : (kd != 1) = true ∧ (kd != 0) = true) : ¬ (kd = 1 ∨ kd = 0) := by
  obtain ⟨h1, h2⟩ := h
  simp at h1 h2
  omega
theorem kd_of {kd : Int} (h : (kd != 1) = false ∨ (kd != 0) = false) : kd = 1 ∨ kd = 0 := by
  rcases h with h | h
  · exact .inl (by simpa using h)
  · exact .inr (by simpa using h)

set_option maxRecDepth 100000 in
set_option maxHeartbeats 2000000 in
theorem paras_seq (n bx G cap : Nat) (hn : 1 ≤ n) (L : List St) (hc : L.length ≤ cap ∧ cap ≤ maxLen) (w : World) (hbx : Boxed w bx 45 (.slice (some ⟨G, 0, none⟩) L.length cap)) (hG : SRowO L G 0 w) :
    SeqP n 0 Tryz.prog 61 #[.pointer (some ⟨bx, 0, none⟩)] (Pg.enc G) (parasG 0 0 [] L) (fun k => k ≠ bx ∧ k ≠ G) w := by
  intro M l J Jx W hM hWb hl hlW hJ hY h0
  have hmx : maxLen ≤ 9223372036854775807 := by decide
  have hWz := hWb.size
  have hbW : Boxed W bx 45 (.slice (some ⟨G, 0, none⟩) L.length cap) := (hWb.block bx hbx.lt).trans hbx
  have hGW := hG.keep hWb hG.1
  have hbl := hbx.lt
  have hGl := hG.1
  have HB : Hid (∀ (z : Nat) (A B : World), W.heap.size ≤ z → z < A.heap.size → But (fun k => M k ∨ k = l ∨ (W.heap.size + 0 ≤ k ∧ k < z)) A B → B.heap[bx]? = A.heap[bx]? ∧ B.heap[G]? = A.heap[G]?) := fun z A B hz hA hb => by
    refine ⟨hb.same bx (by omega) ?_, hb.same G (by omega) ?_⟩
    · rintro (e | e | e)
      · exact (hM _ e).2.1 rfl
      · omega
      · omega
    · rintro (e | e | e)
      · exact (hM _ e).2.2 rfl
      · omega
      · omega
  clear hM hbx hG
  have c0 := hbW.cell
  have H0 := hideW (And.intro hbW (And.intro hGW h0))
  have HY := hideW hY
  have HJ := hideW hJ
  clear hY hJ h0 hGW hbW
  refine callsIn_of_wp Tryz.func61 rfl trivial ?_ rfl
  simp only [Tryz.ntmps61, List.size_toArray, List.length_cons, List.length_nil, Nat.reduceAdd, Nat.reduceSub, Array.replicate_succ, Array.replicate_zero, List.push_toArray, List.append_toArray, List.nil_append, List.cons_append]
  gi_wp2
  gi_loopw [3, 9] (fun fv iv wr => ∃ (pre : List Pg) (fr k : Nat) (acc : List St), fv = .int .i64 fr ∧ iv = .int .i64 k ∧ k ≤ L.length ∧ fr + acc.length = k ∧ W.heap.size ≤ wr.heap.size ∧ Boxed wr bx 45 (.slice (some ⟨G, 0, none⟩) L.length cap) ∧ SRowO L G 0 wr ∧ J pre wr ∧ pre ++ parasG fr k acc (L.drop k) = parasG 0 0 [] L) (fun _ iv _ => L.length - (intOf iv).toNat)
  case atStart => exact ⟨[], 0, 0, [], rfl, rfl, by omega, rfl, Nat.le_refl _, H0.out.1, H0.out.2.1, H0.out.2.2, rfl⟩
  case round =>
    obtain ⟨pre, fr, k, acc, rfl, rfl, hk, hfk, hwz, hbr, hr, hJs, hpre⟩ := hrel
    clear H0 c0
    by_cases hk2 : k < L.length
    · obtain ⟨x, hx⟩ : ∃ x, L[k]? = some x := ⟨_, List.getElem?_eq_getElem hk2⟩
      obtain ⟨c0, c1, c2, c3, c4, c5, c6⟩ := hr.2 _ _ hx
      rw [Nat.zero_add] at c0 c1 c2 c3 c4 c5 c6
      have hdk : decide ((k : Int) < (L.length : Int)) = true := decide_eq_true (by omega)
      rw [drop_get hx, parasG] at hpre
      obtain ⟨X, hX⟩ : ∃ X, wr.alloc (.cells #[.int .i64 x.kind, .int .i64 x.fin.loc, .int .i64 x.fin.sg, .int .i64 x.fin.ce, .int .i64 x.nxt.loc, .int .i64 x.nxt.sg, .int .i64 x.nxt.ce] 52) = X := ⟨_, rfl⟩
      have bX : Below wr.heap.size wr X := by rw [← hX]; exact bel1W wr _
      have xX : StAt X wr.heap.size x := by rw [← hX]; exact World.alloc_heap_new wr _
      have ⟨x0, x1, x2, x3, x4, x5, x6⟩ := xX.cells
      have zX : wr.heap.size < X.heap.size := (Array.getElem?_eq_some_iff.1 xX).1
      have bbX : Boxed X bx 45 (.slice (some ⟨G, 0, none⟩) L.length cap) := (bX.block _ hbr.lt).trans hbr
      have d0 := bbX.cell
      have rX := hr.keep bX (show G < wr.heap.size by omega)
      have j1 : IntKind.i64.wrap ((k : Int) + 1) = (k : Int) + 1 := IntWalk.i64_in _ ⟨by omega, by omega⟩
      have k1 : (fr : Int) ≤ (k : Int) + 1 := by omega
      have k2 : (0 : Int) ≤ (fr : Int) := by omega
      have k3 : (k : Int) + 1 ≤ (cap : Int) := by omega
      have k4 : (0 : Int) ≤ (k : Int) + 1 := by omega
      have k5 : ¬ k + 1 = fr := by omega
      have HP := hideW (And.intro hpre (And.intro bbX (And.intro rX (And.intro hJs bX))))
      have HF := hideW hfk
      clear hpre bbX rX hJs bX hr hbr hfk
      generalize x.kind = kd at *
      gi_wp2
      case roundEnd =>
        obtain ⟨hpre, bbX, rX, hJs, bX⟩ := HP.out
        have hkd : ¬ (kd = 1 ∨ kd = 0) := by exact kd_no ‹(kd != 1) = true ∧ (kd != 0) = true›
        rw [if_neg hkd] at hpre
        refine ⟨⟨pre, fr, k + 1, acc ++ [x], rfl, by go_num, by omega, by have := HF.out; simp; omega, by omega, bbX, rX, HJ.out _ _ _ hJs (Keeps.of_below bX), hpre⟩, ?_⟩
        simp [intOf]
        omega
      all_goals
        have hkd : kd = 1 ∨ kd = 0 := by
          first | exact .inl ‹kd = 1› | exact kd_of ‹(kd != 1) = false ∨ (kd != 0) = false›
        obtain ⟨hpre, bbX, rX, hJs, bX⟩ := HP.out
        rw [if_pos hkd] at hpre
        have hpx : pre ++ [⟨fr, acc ++ [x]⟩] <+: parasG 0 0 [] L := by rw [← hpre]; exact ⟨parasG (k + 1) (k + 1) [] (L.drop (k + 1)), by simp⟩
        obtain ⟨fn, tmps, assign, body, hy, hR⟩ := HY.out pre ⟨fr, acc ++ [x]⟩ wr X hJs (by omega) bX hpx
        have hlen : (acc ++ [x]).length = k + 1 - fr := by have := HF.out; simp; omega
        simp only [Pg.enc, hlen] at hy
        rw [hy, Oper.uponIn_round]
        refine ⟨fun _ => hn, ?_⟩
        clear hy
        refine hR.mono ?_
        clear hR
        rintro e W3 (⟨rfl, hJ4, hk4⟩ | ⟨rfl, hJx4⟩)
        · obtain ⟨q1, q2⟩ := HB.out wr.heap.size _ _ (by omega) zX hk4
          have q4 := hk4.size
          have r4 : SRowO L G 0 W3 := ⟨by omega, fun i y hy => by
            have := rX.2 i y hy
            have e : ∀ o, W3.cell? ⟨G, o, none⟩ = X.cell? ⟨G, o, none⟩ := fun o => World.cell?_of_block q2
            simp only [e]
            exact this⟩
          have b4 : Boxed W3 bx 45 (.slice (some ⟨G, 0, none⟩) L.length cap) := q1.trans bbX
          have H5 := hideW (And.intro r4 (And.intro b4 (And.intro hJ4 hpre)))
          clear r4 b4 hJ4 hpre hk4 q1 q2 bbX rX hJs bX HP x0 x1 x2 x3 x4 x5 x6 d0 c0 c1 c2 c3 c4 c5 c6 hX hpx hlen
          gi_wp2
          go_roundw
          case rel =>
            obtain ⟨r4, b4, hJ4, hpre⟩ := H5.out
            exact ⟨pre ++ [⟨fr, acc ++ [x]⟩], k + 1, k + 1, [], by go_num, by go_num, by omega, rfl, by omega, b4, r4, hJ4, by simpa using hpre⟩
          case measure => simp [intOf]; omega
        · gi_wp2
          refine bodyPost_ret (results_none rfl _ _ _) rfl ?_
          exact ⟨⟨_, rfl⟩, .inr ⟨_, hpx, hJx4⟩⟩
    · obtain rfl : k = L.length := by omega
      have hdk : decide ((L.length : Int) < (L.length : Int)) = false := by simp
      rw [List.drop_length, parasG, List.append_nil] at hpre
      have HP := hideW (And.intro hpre hJs)
      clear hpre hJs hr hbr
      gi_wp2
      go_end0
      refine ⟨⟨_, rfl⟩, .inl ?_⟩
      rw [← HP.out.1]
      exact HP.out.2

end Go.Proofs.YtlkgnheccoodpaaGreatDoor
namespace Go.Proofs.YtlkgnheccoodpaaGreatDoor
open Go.RowKit Go.Shelf
attribute [local go_sem] Oper.semAt_some
def lnB (wd : Int) (p : Ln) : Int × Bool := sbadI p.x.kind p.x.fin.ce p.c wd
def sumB (wd : Int) (l : List Ln) : Int := (l.map fun p => (lnB wd p).1).sum
def allBw (wd : Int) (l : List Ln) : Bool := l.all fun p => (lnB wd p).2
theorem sumB_snoc (wd : Int) (l : List Ln) (p : Ln) : sumB wd (l ++ [p]) = sumB wd l + (lnB wd p).1 := by simp [sumB]
theorem allB_snoc (wd : Int) (l : List Ln) (p : Ln) : allBw wd (l ++ [p]) = (allBw wd l && (lnB wd p).2) := by simp [allBw]
def SmL (l : List Ln) : Prop := ∀ p ∈ l, (0 ≤ p.x.fin.ce ∧ p.x.fin.ce ≤ 100000) ∧ 0 ≤ p.c ∧ p.c ≤ 100000
theorem linesG_sm : ∀ (L : List St) (a b c : Int), SmN L → (0 ≤ c ∧ c ≤ 100000) → SmL (linesG a b c L)
  | [], _, _, _, _, _ => fun p hp => by simp [linesG] at hp
  | x :: L, a, b, c, h, hc => fun p hp => by
    rw [linesG, List.mem_cons] at hp
    rcases hp with rfl | hp
    · exact ⟨(h x (List.mem_cons_self ..)).1, hc⟩
    · exact linesG_sm L _ _ _ h.tail (h x (List.mem_cons_self ..)).2 p hp
theorem linesG_len : ∀ (L : List St) (a b c : Int), (linesG a b c L).length = L.length
  | [], _, _, _ => rfl
  | x :: L, _, _, _ => by rw [linesG, List.length_cons, linesG_len L, List.length_cons]
theorem sumB_bd (wd : Int) (hw : 0 ≤ wd ∧ wd ≤ 1000) : ∀ (l : List Ln), SmL l → 0 ≤ sumB wd l ∧ sumB wd l ≤ 100000000000 * (l.length : Int)
  | [], _ => by simp [sumB]
  | p :: l, h => by
    have h1 := sumB_bd wd hw l (fun q hq => h q (List.mem_cons_of_mem _ hq))
    have h2 := h p (List.mem_cons_self ..)
    have h3 := sbad_bd p.x.kind p.x.fin.ce p.c wd h2.1 h2.2 hw
    have e : sumB wd (p :: l) = (lnB wd p).1 + sumB wd l := by simp [sumB]
    rw [e, List.length_cons]
    unfold lnB
    omega
def wayB (wd : Int) (L : List St) : Int × Bool := if allBw wd (linesG 0 0 0 L) = true then (sumB wd (linesG 0 0 0 L), true) else (0, false)

theorem boxO {W : World} {B C : Nat} {t : TypeId} {v u : Value} (h : Boxed W B t v) (hn : B ≠ C) : Boxed (W.setCell ⟨C, 0, none⟩ u) B t v := (Below.heap_setCell _ _ _ _ hn).trans h

set_option maxRecDepth 100000 in
set_option maxHeartbeats 1000000 in
theorem wbad_walk (L : List St) (G cap : Nat) (wd : Int) (hw : 0 ≤ wd ∧ wd ≤ 1000) (hl : L.length ≤ 5000) (hS : SmN L) (hc : L.length ≤ cap ∧ cap ≤ maxLen) (w : World) (hG : SRowO L G 0 w) :
    Calls Tryz.prog 28 #[.slice (some ⟨G, 0, none⟩) L.length cap, .int .i64 wd] w fun e w' => e = .returned (.tuple #[.int .i64 (wayB wd L).1, .bool (wayB wd L).2]) ∧ Below w.heap.size w w' := by
  refine (callsIn_wide (n := 9)).1 ?_
  refine callsIn_of_wp_marks Tryz.func28 rfl trivial ?_ rfl
  simp only [Tryz.ntmps28, List.size_toArray, List.length_cons, List.length_nil, Nat.reduceAdd, Nat.reduceSub, Array.replicate_succ, Array.replicate_zero, List.push_toArray, List.append_toArray, List.nil_append, List.cons_append]
  gi_wp2_with (refine ⟨trivial, ?_⟩; gi_at_call 56; refine (callsIn_wide.2 (lines_mk _ _ _ _)).mono ?_; rintro e w' ⟨rfl, rfl⟩)
  obtain ⟨V, hV⟩ : ∃ V, ((((w.alloc (.cells #[.int .i64 wd] 3)).alloc (.cells #[.int .i64 0] 2)).alloc (.cells #[.bool false] 4)).alloc (.cells #[.int .i64 0] 2)).alloc (.cells #[.slice (some ⟨G, 0, none⟩) L.length cap] 45) = V := ⟨_, rfl⟩
  have b0 : Boxed V w.heap.size 3 (.int .i64 wd) := by rw [← hV]; exact ((((Boxed.new w _ _).alloc _).alloc _).alloc _).alloc _
  have b1 : Boxed V (w.heap.size + 1) 2 (.int .i64 0) := by
    rw [← hV]
    have := Boxed.new (w.alloc (.cells #[.int .i64 wd] 3)) 2 (.int .i64 0)
    rw [World.size_alloc] at this
    exact ((this.alloc _).alloc _).alloc _
  have b2 : Boxed V (w.heap.size + 1 + 1) 4 (.bool false) := by
    rw [← hV]
    have := Boxed.new ((w.alloc (.cells #[.int .i64 wd] 3)).alloc (.cells #[.int .i64 0] 2)) 4 (.bool false)
    rw [World.size_alloc, World.size_alloc] at this
    exact (this.alloc _).alloc _
  have b3 : Boxed V (w.heap.size + 1 + 1 + 1) 2 (.int .i64 0) := by
    rw [← hV]
    have := Boxed.new (((w.alloc (.cells #[.int .i64 wd] 3)).alloc (.cells #[.int .i64 0] 2)).alloc (.cells #[.bool false] 4)) 2 (.int .i64 0)
    rw [World.size_alloc, World.size_alloc, World.size_alloc] at this
    exact this.alloc _
  have b4 : Boxed V (w.heap.size + 1 + 1 + 1 + 1) 45 (.slice (some ⟨G, 0, none⟩) L.length cap) := by
    rw [← hV]
    have := Boxed.new ((((w.alloc (.cells #[.int .i64 wd] 3)).alloc (.cells #[.int .i64 0] 2)).alloc (.cells #[.bool false] 4)).alloc (.cells #[.int .i64 0] 2)) 45 (.slice (some ⟨G, 0, none⟩) L.length cap)
    rw [World.size_alloc, World.size_alloc, World.size_alloc, World.size_alloc] at this
    exact this
  have hB : Below w.heap.size w V := by
    rw [← hV]
    exact bupW (bupW (bupW (bupW (bel1W w _) (bel1W _ _)) (bel1W _ _)) (bel1W _ _)) (bel1W _ _)
  have hz1 : w.heap.size + 5 ≤ V.heap.size := by rw [← hV]; simp
  have hz2 : V.heap.size ≤ w.heap.size + 5 := by rw [← hV]; simp
  have hVG := hG.keep hB hG.1
  have hGl := hG.1
  rw [hV]
  clear hV hG
  have hsm := linesG_sm L 0 0 0 hS ⟨by simp, by simp⟩
  have hln := linesG_len L 0 0 0
  refine rangeFunc_priv (α := Ln) (by omega) (gf := 85) (lb := #[.pointer (some ⟨w.heap.size + 1 + 1 + 1 + 1, 0, none⟩)]) rfl (enters_of Tryz.func85 (by kernel_rfl) rfl)
    (lines_seq (9 - 1) (w.heap.size + 1 + 1 + 1 + 1) G cap (by omega) L hc V b4 hVG) (fun _ => rfl)
    (fun k => k = w.heap.size + 1 ∨ k = w.heap.size + 1 + 1 ∨ k = w.heap.size + 1 + 1 + 1) (fun k e => by rcases e with e | e | e <;> subst e <;> exact ⟨by omega, by omega, by omega⟩)
    (fun pre W => Boxed W w.heap.size 3 (.int .i64 wd) ∧ Boxed W (w.heap.size + 1) 2 (.int .i64 0) ∧ Boxed W (w.heap.size + 1 + 1) 4 (.bool false) ∧ Boxed W (w.heap.size + 1 + 1 + 1) 2 (.int .i64 (sumB wd pre)) ∧ allBw wd pre = true)
    (fun c pre W => c = .ret ∧ Boxed W (w.heap.size + 1) 2 (.int .i64 0) ∧ Boxed W (w.heap.size + 1 + 1) 4 (.bool false) ∧ allBw wd pre = false)
    (fun pre A B h hk => by obtain ⟨h1, h2, h3, h4, h5⟩ := h; exact ⟨(hk.same _ h1.lt (.inl (by omega))).trans h1, (hk.same _ h2.lt (.inl (by omega))).trans h2, (hk.same _ h3.lt (.inl (by omega))).trans h3, (hk.same _ h4.lt (.inl (by omega))).trans h4, h5⟩)
    (fun c pre A B h hk => by obtain ⟨h1, h2, h3, h4⟩ := h; exact ⟨h1, (hk.same _ h2.lt (.inl (by omega))).trans h2, (hk.same _ h3.lt (.inl (by omega))).trans h3, h4⟩)
    ⟨b0, b1, b2, b3, rfl⟩ ?round ?done ?stop
  case round =>
    rintro l pre p W0 W K hl0 hlW hhi hlh hW0 hBW hip hpx hK
    have hWz := hBW.size
    have hW0z := hW0.size
    have hpl : pre.length + 1 ≤ L.length := by have := hpx.length_le; rw [hln] at this; simpa using this
    have hpm : p ∈ linesG 0 0 0 L := hpx.subset (by simp)
    have hps := hsm p hpm
    have hsb := sumB_bd wd hw pre (fun q hq => hsm q (hpx.subset (by simp [hq])))
    obtain ⟨pa, pb, pc, x⟩ := p
    simp only [Ln.enc, St.val]
    gi_wp2
    refine hK _ _ (bupW (bel1W W _) (bel1W _ _)) (fun W2 hbo hzz hB2 hi2 => ?_)
    have hWW : W.heap.size + 2 ≤ W2.heap.size := by rw [hzz]; simp
    have t0 : SpAt W2 W.heap.size pa pb pc := (hbo.same W.heap.size (by simp; omega) (by omega)).trans ((Below.heap_alloc _ _ _ (by simp)).trans (World.alloc_heap_new W _))
    have x0 : StAt W2 (W.heap.size + 1) x := by
      refine (hbo.same (W.heap.size + 1) (by simp) (by omega)).trans ?_
      have := World.alloc_heap_new (W.alloc (.cells #[.int .i64 pa, .int .i64 pb, .int .i64 pc] 50)) (.cells #[.int .i64 x.kind, .int .i64 x.fin.loc, .int .i64 x.fin.sg, .int .i64 x.fin.ce, .int .i64 x.nxt.loc, .int .i64 x.nxt.sg, .int .i64 x.nxt.ce] 52)
      rw [World.size_alloc] at this
      exact this
    obtain ⟨i0, i1, i2, i3, i4⟩ := hi2
    have ⟨a0, a1, a2⟩ := t0.cells
    have ⟨c0, c1, c2, c3, c4, c5, c6⟩ := x0.cells
    have k0 := i0.cell
    have hn1 := sumB_snoc wd pre ⟨pa, pb, pc, x⟩
    have hn2 := allB_snoc wd pre ⟨pa, pb, pc, x⟩
    rw [i4, Bool.true_and] at hn2
    have HBd := hideW (fun U => sbad_any x.kind x.fin x.nxt pa pb pc wd hps.1 hps.2 hw U)
    unfold stopV at HBd
    have hbb := sbad_bd x.kind x.fin.ce pc wd hps.1 hps.2 hw
    have e1 : (lnB wd ⟨pa, pb, pc, x⟩) = sbadI x.kind x.fin.ce pc wd := rfl
    rw [e1] at hn1 hn2
    obtain ⟨Ln1, hLn⟩ : ∃ Ln1, (sbadI x.kind x.fin.ce pc wd).1 = Ln1 := ⟨_, rfl⟩
    obtain ⟨ft, hft⟩ : ∃ ft, (sbadI x.kind x.fin.ce pc wd).2 = ft := ⟨_, rfl⟩
    rw [hLn, hft] at HBd
    rw [hLn] at hn1 hbb
    rw [hft] at hn2
    have HN := hideW (And.intro hn1 (And.intro hn2 i4))
    have HI := hideW (And.intro i0 (And.intro i1 (And.intro i2 (And.intro i3 hB2))))
    clear hn1 hn2 i0 i1 i2 i3 i4 hB2 hLn hft e1 hip hpx hpm hsm hbo hK t0 x0
    gi_wp2_with fail
    refine ⟨trivial, ?_⟩
    gi_at_call 57
    refine (callsIn_wide.2 (HBd.out _)).mono ?_
    rintro e w5 ⟨rfl, b5⟩
    obtain ⟨i0, i1, i2, i3, hB2⟩ := HI.out
    have g0 : Boxed w5 w.heap.size 3 (.int .i64 wd) := (b5.block _ i0.lt).trans i0
    have g1 : Boxed w5 (w.heap.size + 1) 2 (.int .i64 0) := (b5.block _ i1.lt).trans i1
    have g2 : Boxed w5 (w.heap.size + 1 + 1) 4 (.bool false) := (b5.block _ i2.lt).trans i2
    have g3 : Boxed w5 (w.heap.size + 1 + 1 + 1) 2 (.int .i64 (sumB wd pre)) := (b5.block _ i3.lt).trans i3
    have f1 := g1.cell
    have f2 := g2.cell
    have f3 := g3.cell
    have z1 := g1.frozen
    have z2 := g2.frozen
    have z3 := g3.frozen
    have HG := hideW (And.intro g0 (And.intro g1 (And.intro g2 (And.intro g3 b5))))
    clear i0 i1 i2 i3 hB2 g0 g1 g2 g3 b5 HI a0 a1 a2 c0 c1 c2 c3 c4 c5 c6 k0 HBd
    generalize sumB wd pre = sm at *
    have e2 : IntKind.i64.wrap (sm + Ln1) = sm + Ln1 := IntWalk.i64_in _ ⟨by omega, by omega⟩
    cases ft with
    | false =>
      gi_wp2
      obtain ⟨g0, g1, g2, g3, b5⟩ := HG.out
      obtain ⟨hn1, hn2, i4⟩ := HN.out
      refine ⟨?_, rfl, boxO (g1.set (.int .i64 0)) (by omega), (boxO g2 (by omega)).set (.bool false), hn2⟩
      exact ((But.grown b5).setCell (p := ⟨w.heap.size + 1, 0, none⟩) (.inl (.inl rfl)) _).setCell (p := ⟨w.heap.size + 1 + 1, 0, none⟩) (.inl (.inr (.inl rfl))) _
    | true =>
      gi_wp2
      obtain ⟨g0, g1, g2, g3, b5⟩ := HG.out
      obtain ⟨hn1, hn2, i4⟩ := HN.out
      refine ⟨?_, boxO g0 (by omega), boxO g1 (by omega), boxO g2 (by omega), ?_, hn2⟩
      · exact (But.grown b5).setCell (p := ⟨w.heap.size + 1 + 1 + 1, 0, none⟩) (.inl (.inr (.inr rfl))) _
      · rw [hn1]
        exact g3.set _
  case done =>
    rintro D W hD ⟨h0, h1, h2, h3, h4⟩ hBW hK
    have hWz := hBW.size
    have hwb : wayB wd L = (sumB wd (linesG 0 0 0 L), true) := by unfold wayB; rw [if_pos h4]
    have hBw : Below w.heap.size w W := hB.trans (hBW.below (by omega) (fun k e => by omega))
    have k1 := h1.cell
    have k2 := h2.cell
    have k3 := h3.cell
    have z1 := h1.frozen
    have z2 := h2.frozen
    have hDW : D < W.heap.size := (Array.getElem?_eq_some_iff.1 hK).1
    generalize sumB wd (linesG 0 0 0 L) = sm at *
    have e1 : Boxed (((W.setCell ⟨w.heap.size + 1, 0, none⟩ (.int .i64 sm)).setCell ⟨w.heap.size + 1 + 1, 0, none⟩ (.bool true))) (w.heap.size + 1) 2 (.int .i64 sm) := boxO (h1.set (.int .i64 sm)) (by omega)
    have e2 : Boxed (((W.setCell ⟨w.heap.size + 1, 0, none⟩ (.int .i64 sm)).setCell ⟨w.heap.size + 1 + 1, 0, none⟩ (.bool true))) (w.heap.size + 1 + 1) 4 (.bool true) := (boxO h2 (by omega)).set (.bool true)
    have e3 : ((W.setCell ⟨w.heap.size + 1, 0, none⟩ (.int .i64 sm)).setCell ⟨w.heap.size + 1 + 1, 0, none⟩ (.bool true)).heap[D]? = some (.deferred (some [])) := heap_set_other (by show w.heap.size + 1 + 1 ≠ D; omega) (heap_set_other (by show w.heap.size + 1 ≠ D; omega) hK)
    have e4 : Below w.heap.size w ((W.setCell ⟨w.heap.size + 1, 0, none⟩ (.int .i64 sm)).setCell ⟨w.heap.size + 1 + 1, 0, none⟩ (.bool true)) := (hBw.setCell (by simp) _).setCell (by simp; omega) _
    have HE := hideW (And.intro e1 (And.intro e2 (And.intro e3 (And.intro e4 hwb))))
    clear e1 e2 e3 e4 hwb hBw hK h0 h1 h2 h3 h4 hBW
    gi_wp2
    obtain ⟨e1, e2, e3, e4, hwb⟩ := HE.out
    generalize ((W.setCell ⟨w.heap.size + 1, 0, none⟩ (.int .i64 sm)).setCell ⟨w.heap.size + 1 + 1, 0, none⟩ (.bool true)) = X at *
    refine ⟨by simp, .inl ⟨_, _, rfl, run_takeDeferred e3, ?_⟩⟩
    have y1 := (World.cell?_of_block (World.putObj_heap_other (o := .deferred none) (show w.heap.size + 1 ≠ D by omega))).trans e1.cell
    have y2 := (World.cell?_of_block (World.putObj_heap_other (o := .deferred none) (show w.heap.size + 1 + 1 ≠ D by omega))).trans e2.cell
    rw [hwb]
    refine ⟨.tuple #[.int .i64 sm, .bool true], by simp [results, Tryz.f28, go_sem, y1, y2], rfl, e4.trans ((putObj_belowL _ _ _).mono (by omega))⟩
  case stop =>
    rintro D c pre W hD hpre ⟨rfl, h1, h2, h3⟩ hBW hK
    have hwb : wayB wd L = (0, false) := by
      unfold wayB
      rw [if_neg]
      intro h
      obtain ⟨r, hr⟩ := hpre
      rw [← hr] at h
      unfold allBw at h h3
      rw [List.all_append, h3] at h
      simp at h
    have hBw : Below w.heap.size w W := hB.trans (hBW.below (by omega) (fun k e => by omega))
    gi_wp2
    refine ⟨by simp, .inl ⟨_, _, rfl, run_takeDeferred hK, ?_⟩⟩
    have y1 := (World.cell?_of_block (World.putObj_heap_other (o := .deferred none) (show w.heap.size + 1 ≠ D by omega))).trans h1.cell
    have y2 := (World.cell?_of_block (World.putObj_heap_other (o := .deferred none) (show w.heap.size + 1 + 1 ≠ D by omega))).trans h2.cell
    rw [hwb]
    refine ⟨.tuple #[.int .i64 0, .bool false], by simp [results, Tryz.f28, go_sem, y1, y2], rfl, hBw.trans ((putObj_belowL _ _ _).mono (by omega))⟩

end Go.Proofs.YtlkgnheccoodpaaGreatDoor
