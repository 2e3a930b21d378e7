/- A law of range-over-func loops whose sequence keeps state of its own in new memory: the loop is told by what lay ahead of it, which nobody turns, and by what a round that returns has written. -/
import Derived.RangeFuncNested
import Derived.RangeFuncBound
import Derived.RangeFuncCalls
import Derived.RangeFuncLeaves
namespace Go.Proofs.YtbiodfeanngkdaaDoor
open Go.RowKit

/-- Everything but block l stands. -/
structure ButOne (l : Nat) (A B : World) : Prop where
  size : A.heap.size ≤ B.heap.size
  same : ∀ k, k < A.heap.size → k ≠ l → B.heap[k]? = A.heap[k]?
/-- Everything from block m on stands. -/
structure FromOn (m : Nat) (A B : World) : Prop where
  size : A.heap.size ≤ B.heap.size
  same : ∀ k, k < A.heap.size → m ≤ k → B.heap[k]? = A.heap[k]?
def Calm (m : Nat) {α : Type} (J : List α → World → Prop) : Prop := ∀ pre A B, J pre A → Below m A B → J pre B

/-- A sequence that may keep state of its own in the memory that it makes. -/
def SeqCalm {α : Type} (n : Nat) (P : Program) (g : Nat) (lb : Array Value) (encs : α → Array Value) (S Sp : List α → Prop) (N : Nat) (w : World) : Prop :=
  ∀ (l : Nat) (J Jx : List α → World → Prop) (W : World), Below w.heap.size w W → w.heap.size < l → l < W.heap.size → Calm W.heap.size J → Calm W.heap.size Jx →
    (∀ pre x W1, J pre W1 → pre.length < N → YieldAt Fence.wide (n - 1) P l (encs x) W1 fun e W' =>
      (e = .returned (.bool true) ∧ J (pre ++ [x]) W' ∧ ButOne l W1 W') ∨ (e = .returned (.bool false) ∧ Jx (pre ++ [x]) W' ∧ FromOn (l + 1) W1 W')) →
    J [] W →
    CallsIn Fence.wide n P g (#[.func (.yield l) #[] #[]] ++ lb) W fun e W' => (∃ v, e = .returned v) ∧ ((∃ xs, S xs ∧ J xs W') ∨ (∃ pre, Sp pre ∧ Jx pre W'))

/-- How a round may end: it goes on, having only made memory; or it returns, having written only what lay ahead of the loop. -/
def calmPost {α : Type} (B : Nat) (Ip : List α → Prop) (Ix : List α → World → Prop) (xs : List α) (W : World) : Exit → Act → World → Prop
  | .normal, _, W' => Below W.heap.size W W' ∧ Ip xs
  | .ret, _, W' => FromOn B W W' ∧ Ix xs W'
  | _, _, _ => False

theorem putObj_below (W : World) (l : Nat) (o : Obj) : Below l W (W.putObj l o) := ⟨rfl, rfl, rfl, by simp, fun _ hk => World.putObj_heap_other (by omega)⟩

theorem rangeFunc_calm {P : Program} {α : Type} {g : Operand} {ps : Array Tmp} {assign body : Code} {Q : Exit → Act → World → Prop} {a : Act} {w : World} {n : Nat} (h1 : 1 ≤ n)
    {gf : Nat} {lb : Array Value} (hg : a.eval g = .func (.func gf) #[] lb) (eg : ∀ args w, (callFunc gf args).run P w = .ok (.enter gf args) w)
    {encs : α → Array Value} {S Sp : List α → Prop} {N : Nat} (hseq : SeqCalm (n - 1) P gf lb encs S Sp N w) (hps : ∀ x, (encs x).size = ps.size)
    (Ip : List α → Prop) (Ix : List α → World → Prop) (hIx : Calm w.heap.size Ix) (h0 : Ip [])
    (hround : ∀ (l : Nat) (pre : List α) (x : α) (W : World) (K : Act → World → Prop), w.heap.size < l → l < W.heap.size → Below w.heap.size w W → Ip pre → pre.length < N →
      (∀ a' Wa, Below W.heap.size W Wa → (∀ W2, ButOne l Wa W2 → W2.heap.size = Wa.heap.size → Below w.heap.size w W2 → body.wpIn (Fence.wide.inRound l) (n - 1 - 1) P (calmPost w.heap.size Ip Ix (pre ++ [x]) W2) a' W2) → K a' Wa) →
      assign.wpIn (Fence.wide.inRound l) (n - 1 - 1) P (Exit.then K (fun _ _ _ => False)) { tmps := (ps.zip (encs x)).foldl (fun t (p, v) => t.setIfInBounds p v) a.tmps, defers := [] } W)
    (hdone : ∀ (D : Nat) (xs : List α) (W : World), w.heap.size ≤ D → S xs → Ip xs → Below w.heap.size w W → W.heap[D]? = some (.deferred (some [])) → Q .normal { a with defers := { target := .collected D, args := #[] } :: a.defers } W)
    (hstop : ∀ (D : Nat) (pre : List α) (W : World), w.heap.size ≤ D → Sp pre → Ix pre W → W.heap[D]? = some (.deferred (some [])) → Code.ret.wpIn Fence.wide n P Q { a with defers := { target := .collected D, args := #[] } :: a.defers } W) :
    (Code.rangeFunc g ps assign body).wpIn Fence.wide n P Q a w := by
  refine wpIn_rangeFunc ?_
  intro fn hfn
  obtain ⟨rec, hrec⟩ : ∃ rec : LoopState → Option Code → Loop, rec = fun st pe => { state := st, pending := pe, fn, tmps := a.tmps, params := ps, assign, body, defers := w.heap.size } := ⟨_, rfl⟩
  generalize hV : (w.alloc (.deferred (some []))).alloc (.loop (rec .ready none)) = V
  have hVz : V.heap.size = w.heap.size + 2 := by rw [← hV]; simp
  have hVb : Below w.heap.size w V := by rw [← hV]; exact ((Below.refl _ w).alloc (Nat.le_refl _) _).alloc (by simp) _
  have hVl : V.heap[w.heap.size + 1]? = some (.loop (rec .ready none)) := by
    rw [← hV]; have := World.alloc_heap_new (w.alloc (.deferred (some []))) (.loop (rec .ready none)); rwa [World.size_alloc] at this
  have hVd : V.heap[w.heap.size]? = some (.deferred (some [])) := by
    rw [← hV]; exact (Below.heap_alloc _ _ _ (by simp)).trans (World.alloc_heap_new w _)
  refine ⟨w.heap.size + 1, [{ target := .collected w.heap.size, args := #[] }], V, { target := .fn (.func gf) lb, args := #[.func (.yield (w.heap.size + 1)) #[] #[]] }, V, gf,
    #[.func (.yield (w.heap.size + 1)) #[] #[]] ++ lb, V, ?_, ?_, fun _ _ => trivial, ?_, fun _ => h1, ?_⟩
  · rw [← hV, hrec]; exact run_enterLoop_outer _ _ _ _ _
  · simp only [resolve, hg]
    simp [go_sem]
  · simp [invoke, go_sem, eg]
  refine (hseq (w.heap.size + 1)
    (fun pre W => (Below w.heap.size w W ∧ Ip pre) ∧ W.heap[w.heap.size + 1]? = some (.loop (rec .ready none)) ∧ W.heap[w.heap.size]? = some (.deferred (some [])))
    (fun pre W => Ix pre W ∧ W.heap[w.heap.size + 1]? = some (.loop (rec .done (some .ret))) ∧ W.heap[w.heap.size]? = some (.deferred (some [])))
    V hVb (by omega) (by omega)
    (fun pre A B hs hb => ⟨⟨hs.1.1.trans (hb.mono (by omega)), hs.1.2⟩, (hb.block _ (by omega)).trans hs.2.1, (hb.block _ (by omega)).trans hs.2.2⟩)
    (fun pre A B hs hb => ⟨hIx _ _ _ hs.1 (hb.mono (by omega)), (hb.block _ (by omega)).trans hs.2.1, (hb.block _ (by omega)).trans hs.2.2⟩)
    ?_ ⟨⟨hVb, h0⟩, hVl, hVd⟩).mono ?_
  · rintro pre x W ⟨⟨hB, hip⟩, hl, hd⟩ hlen
    have hlt : w.heap.size + 1 < W.heap.size := (Array.getElem?_eq_some_iff.1 hl).1
    have hy := run_yield (P := P) (args := encs x) hl (by rw [hrec]; exact hps x)
    rw [hrec] at hy
    refine ⟨fn, _, assign, body, hy, roundIn_of_wpIn hfn (hround _ pre x W _ (by omega) hlt hB hip hlen ?_)⟩
    clear hy
    intro a' Wa hWa hbody
    have hla := (hWa.block _ hlt).trans hl
    have hda := (hWa.block w.heap.size (by omega)).trans hd
    have hlta : w.heap.size + 1 < Wa.heap.size := (Array.getElem?_eq_some_iff.1 hla).1
    refine ⟨_, run_beginRound hla (by rw [hrec]), ?_⟩
    generalize hU : Wa.putObj (w.heap.size + 1) (.loop { rec .ready none with state := .busy }) = U
    have hUl : U.heap[w.heap.size + 1]? = some (.loop { rec .ready none with state := .busy }) := by rw [← hU]; exact World.putObj_heap_same hlta
    have hUo : ∀ k, k ≠ w.heap.size + 1 → U.heap[k]? = Wa.heap[k]? := fun k hk => by rw [← hU]; exact World.putObj_heap_other hk
    have hUz : U.heap.size = Wa.heap.size := by rw [← hU]; simp
    have hUb : Below (w.heap.size + 1) Wa U := by rw [← hU]; exact putObj_below _ _ _
    have hBU : Below w.heap.size w U := (hB.trans (hWa.mono (by omega))).trans (hUb.mono (by omega))
    have hWz := hWa.size
    refine wpIn_mono (hbody U ⟨by omega, fun k _ hk => hUo k hk⟩ hUz hBU) ?_
    rintro e a3 X hp
    have shut : ∀ jump : Option Code, FromOn w.heap.size U X →
        (Instr.endRound (w.heap.size + 1) jump).run P X = .ok (.bool jump.isNone) (X.putObj (w.heap.size + 1) (.loop (rec (if jump.isNone then .ready else .done) jump))) ∧
        (X.putObj (w.heap.size + 1) (.loop (rec (if jump.isNone then .ready else .done) jump))).heap[w.heap.size + 1]? = some (.loop (rec (if jump.isNone then .ready else .done) jump)) ∧
        (X.putObj (w.heap.size + 1) (.loop (rec (if jump.isNone then .ready else .done) jump))).heap[w.heap.size]? = some (.deferred (some [])) := fun jump hf => by
      have hXl := (hf.same (w.heap.size + 1) (by omega) (by omega)).trans hUl
      have hXd : X.heap[w.heap.size]? = some (.deferred (some [])) := (hf.same w.heap.size (by omega) (by omega)).trans ((hUo _ (by omega)).trans hda)
      have := run_endRound (P := P) jump hXl
      rw [hrec] at this ⊢
      exact ⟨this, World.putObj_heap_same (Array.getElem?_eq_some_iff.1 hXl).1, (World.putObj_heap_other (by omega)).trans hXd⟩
    cases e with
    | normal =>
      obtain ⟨hbx, hipx⟩ := hp
      have hXz := hbx.size
      obtain ⟨hr, hl4, hd4⟩ := shut none ⟨hbx.size, fun k hk _ => hbx.block k hk⟩
      refine ⟨_, _, hr, .inl ⟨rfl, ⟨⟨(hBU.trans (hbx.mono (by omega))).trans ((putObj_below X _ _).mono (by omega)), hipx⟩, hl4, hd4⟩, ?_⟩⟩
      refine ⟨by simp; omega, fun k hk hne => ?_⟩
      exact (World.putObj_heap_other hne).trans ((hbx.block k (by omega)).trans ((hUo k hne).trans (hWa.block k hk)))
    | ret =>
      obtain ⟨hfx, hix⟩ := hp
      have hXz := hfx.size
      obtain ⟨hr, hl4, hd4⟩ := shut (some .ret) hfx
      refine ⟨_, _, hr, .inr ⟨rfl, ⟨hIx _ _ _ hix ((putObj_below X _ _).mono (by omega)), hl4, hd4⟩, ?_⟩⟩
      refine ⟨by simp; omega, fun k hk hne => ?_⟩
      exact (World.putObj_heap_other (by omega)).trans ((hfx.same k (by omega) (by omega)).trans ((hUo k (by omega)).trans (hWa.block k hk)))
    | exit id => exact hp.elim
    | goto t => exact hp.elim
    | panic ch => exact hp.elim
    | outgrown => exact hp.elim
  · rintro e X ⟨⟨v, rfl⟩, (⟨xs, hS, ⟨hB, hip⟩, hl, hd⟩ | ⟨pre, hSp, hi, hl, hd⟩)⟩
    · exact ⟨none, _, by have := run_endLoop (P := P) hl (by rw [hrec]; simp); rw [hrec] at this; exact this,
        hdone _ xs _ (Nat.le_refl _) hS hip (hB.trans ((putObj_below X _ _).mono (by omega))) ((World.putObj_heap_other (by omega)).trans hd)⟩
    · exact ⟨some .ret, _, by have := run_endLoop (P := P) hl (by rw [hrec]; simp); rw [hrec] at this; exact this,
        hstop _ pre _ (Nat.le_refl _) hSp (hIx _ _ _ hi ((putObj_below X _ _).mono (by omega))) ((World.putObj_heap_other (by omega)).trans hd)⟩

end Go.Proofs.YtbiodfeanngkdaaDoor
