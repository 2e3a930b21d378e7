/- Several texts, one behind the other. -/
import Derived.RangeFuncNested
import Derived.RangeFuncBound
import Derived.RangeFuncCalls
import Derived.RangeFuncLeaves
import Derived.Sort.QuietIn
import Derived.Test.YtbiodfeanngkdaaDoorLawL
import Derived.Test.YtbiodfeanngkdaaDoorW2
/- A range over a sequence that itself goes over a sequence: what holds at its end is kept while it ends (P0710). -/
namespace Go.Proofs.YtbiodfeanngkdaaDoor
open Go.RowKit

/-- As SeqL; a round that says stop has turned no more than another one, and what holds then is kept while the sequence ends. -/
def SeqC {α : Type} (n d : Nat) (P : Program) (g : Nat) (lb : Array Value) (encs : α → Array Value) (L : List α) (Free : Nat → Prop) (w : World) : Prop :=
  ∀ (M : Nat → Prop) (l : Nat) (J Jx : List α → World → Prop) (W : World), (∀ k, M k → k < w.heap.size ∧ Free k) → Below w.heap.size w W → w.heap.size < l → l < W.heap.size → CalmL W.heap.size (W.heap.size + d) J → CalmL W.heap.size (W.heap.size + d) Jx →
    (∀ pre x W1, J pre W1 → W.heap.size + d ≤ W1.heap.size → pre ++ [x] <+: L → YieldAt Fence.wide (n - 1) P l (encs x) W1 fun e W' =>
      (e = .returned (.bool true) ∧ J (pre ++ [x]) W' ∧ But (fun k => M k ∨ k = l ∨ W.heap.size + d ≤ k) W1 W') ∨ (e = .returned (.bool false) ∧ Jx (pre ++ [x]) W' ∧ But (fun k => M k ∨ k = l ∨ W.heap.size + d ≤ k) W1 W')) →
    J [] W →
    CallsIn Fence.wide n P g (#[.func (.yield l) #[] #[]] ++ lb) W fun e W' => (∃ v, e = .returned v) ∧ (J L W' ∨ ∃ pre, pre <+: L ∧ Jx pre W')

theorem rangeFunc_boxC {P : Program} {α : Type} {g : Operand} {ps : Array Tmp} {assign body : Code} {Q : Exit → Act → World → Prop} {a : Act} {w : World} {n : Nat} (h1 : 1 ≤ n)
    {gf : Nat} {lb : Array Value} (hg : a.eval g = .func (.func gf) #[] lb) (eg : ∀ args w, (callFunc gf args).run P w = .ok (.enter gf args) w)
    {encs : α → Array Value} {L : List α} {Free : Nat → Prop} {d : Nat} (hseq : SeqC (n - 1) d P gf lb encs L Free w) (hps : ∀ x, (encs x).size = ps.size)
    (M : Nat → Prop) (hM : ∀ k, M k → k < w.heap.size ∧ Free k)
    (I : List α → World → Prop) (Ix : Code → List α → World → Prop) (hI : CalmL w.heap.size (w.heap.size + 2 + d) I) (hIx : ∀ c, CalmL w.heap.size (w.heap.size + 2 + d) (Ix c)) (h0 : I [] w)
    (hround : ∀ (l : Nat) (pre : List α) (x : α) (W : World) (K : Act → World → Prop), w.heap.size < l → l < W.heap.size → w.heap.size + 2 + d ≤ W.heap.size → l < w.heap.size + 2 + d → But M w W → I pre W → pre ++ [x] <+: L →
      (∀ a' Wa, Below W.heap.size W Wa → (∀ W2, But (fun k => k = l) Wa W2 → W2.heap.size = Wa.heap.size → But M w W2 → I pre W2 → body.wpIn (Fence.wide.inRound l) (n - 1 - 1) P (boxPost (w.heap.size + 2 + d) M I Ix (pre ++ [x]) W2) a' W2) → K a' Wa) →
      assign.wpIn (Fence.wide.inRound l) (n - 1 - 1) P (Exit.then K (fun _ _ _ => False)) { tmps := (ps.zip (encs x)).foldl (fun t (p, v) => t.setIfInBounds p v) a.tmps, defers := [] } W)
    (hdone : ∀ (D : Nat) (W : World), w.heap.size ≤ D → I L W → But M w W → W.heap[D]? = some (.deferred (some [])) → Q .normal { a with defers := { target := .collected D, args := #[] } :: a.defers } W)
    (hstop : ∀ (D : Nat) (c : Code) (pre : List α) (W : World), w.heap.size ≤ D → pre <+: L → Ix c pre W → But M w W → W.heap[D]? = some (.deferred (some [])) → c.wpIn Fence.wide n P Q { a with defers := { target := .collected D, args := #[] } :: a.defers } W) :
    (Code.rangeFunc g ps assign body).wpIn Fence.wide n P Q a w := by
  refine wpIn_rangeFunc ?_
  intro fn hfn
  obtain ⟨rec, hrec⟩ : ∃ rec : LoopState → Option Code → Loop, rec = fun st pe => { state := st, pending := pe, fn, tmps := a.tmps, params := ps, assign, body, defers := w.heap.size } := ⟨_, rfl⟩
  generalize hV : (w.alloc (.deferred (some []))).alloc (.loop (rec .ready none)) = V
  have hVz : V.heap.size = w.heap.size + 2 := by rw [← hV]; simp
  have hVb : Below w.heap.size w V := by rw [← hV]; exact ((Below.refl _ w).alloc (Nat.le_refl _) _).alloc (by simp) _
  have hVl : V.heap[w.heap.size + 1]? = some (.loop (rec .ready none)) := by
    rw [← hV]; have := World.alloc_heap_new (w.alloc (.deferred (some []))) (.loop (rec .ready none)); rwa [World.size_alloc] at this
  have hVd : V.heap[w.heap.size]? = some (.deferred (some [])) := by
    rw [← hV]; exact (Below.heap_alloc _ _ _ (by simp)).trans (World.alloc_heap_new w _)
  have hML : ∀ k, M k → k < w.heap.size := fun k h => (hM k h).1
  refine ⟨w.heap.size + 1, [{ target := .collected w.heap.size, args := #[] }], V, { target := .fn (.func gf) lb, args := #[.func (.yield (w.heap.size + 1)) #[] #[]] }, V, gf,
    #[.func (.yield (w.heap.size + 1)) #[] #[]] ++ lb, V, ?_, ?_, fun _ _ => trivial, ?_, fun _ => h1, ?_⟩
  · rw [← hV, hrec]; exact run_enterLoop_outer _ _ _ _ _
  · simp only [resolve, hg]
    simp [go_sem]
  · simp [invoke, go_sem, eg]
  have bK : ∀ {A B : World}, But M w A → Keeps V.heap.size (V.heap.size + d) A B → But M w B := fun h k =>
    ⟨k.os.trans h.os, k.tape.trans h.tape, k.output.trans h.output, Nat.le_trans h.size k.size, fun i hi hm => (k.same i (Nat.lt_of_lt_of_le hi h.size) (by omega)).trans (h.same i hi hm)⟩
  have bP : ∀ {A : World} (o : Obj), But M w A → But M w (A.putObj (w.heap.size + 1) o) := fun o h3 =>
    ⟨h3.os, h3.tape, h3.output, by have := h3.size; simp; omega, fun k hk hm => (World.putObj_heap_other (by omega)).trans (h3.same k hk hm)⟩
  have iP : ∀ {pre : List α} {A : World} (o : Obj), I pre A → I pre (A.putObj (w.heap.size + 1) o) := fun o h => hI _ _ _ h (Keeps.put _ _ _ (by omega) (by omega))
  have xP : ∀ {c : Code} {pre : List α} {A : World} (o : Obj), Ix c pre A → Ix c pre (A.putObj (w.heap.size + 1) o) := fun o h => hIx _ _ _ _ h (Keeps.put _ _ _ (by omega) (by omega))
  refine (hseq M (w.heap.size + 1)
    (fun pre W => (But M w W ∧ I pre W) ∧ W.heap[w.heap.size + 1]? = some (.loop (rec .ready none)) ∧ W.heap[w.heap.size]? = some (.deferred (some [])))
    (fun pre W => ∃ c, (But M w W ∧ Ix c pre W) ∧ W.heap[w.heap.size + 1]? = some (.loop (rec .done (some c))) ∧ W.heap[w.heap.size]? = some (.deferred (some [])))
    V hM hVb (by omega) (by omega)
    (fun pre A B hs hb => ⟨⟨bK hs.1.1 hb, hI _ _ _ hs.1.2 (hb.mono (by omega) (by omega))⟩, (hb.same _ (Array.getElem?_eq_some_iff.1 hs.2.1).1 (by omega)).trans hs.2.1, (hb.same _ (Array.getElem?_eq_some_iff.1 hs.2.2).1 (by omega)).trans hs.2.2⟩)
    (fun pre A B hs hb => by
      obtain ⟨c, ⟨h1, h2⟩, h3, h4⟩ := hs
      exact ⟨c, ⟨bK h1 hb, hIx _ _ _ _ h2 (hb.mono (by omega) (by omega))⟩, (hb.same _ (Array.getElem?_eq_some_iff.1 h3).1 (by omega)).trans h3, (hb.same _ (Array.getElem?_eq_some_iff.1 h4).1 (by omega)).trans h4⟩)
    ?_ ⟨⟨But.grown hVb, hI _ _ _ h0 (Keeps.of_below hVb)⟩, hVl, hVd⟩).mono ?_
  · rintro pre x W ⟨⟨hB, hip⟩, hl, hd⟩ hWd hpx
    have hlt : w.heap.size + 1 < W.heap.size := (Array.getElem?_eq_some_iff.1 hl).1
    have hy := run_yield (P := P) (args := encs x) hl (by rw [hrec]; exact hps x)
    rw [hrec] at hy
    refine ⟨fn, _, assign, body, hy, roundIn_of_wpIn hfn (hround _ pre x W _ (by omega) hlt (by omega) (by omega) hB hip hpx ?_)⟩
    clear hy
    intro a' Wa hWa hbody
    have hla := (hWa.block _ hlt).trans hl
    have hda := (hWa.block w.heap.size (by omega)).trans hd
    have hlta : w.heap.size + 1 < Wa.heap.size := (Array.getElem?_eq_some_iff.1 hla).1
    refine ⟨_, run_beginRound hla (by rw [hrec]), ?_⟩
    generalize hU : Wa.putObj (w.heap.size + 1) (.loop { rec .ready none with state := .busy }) = U
    have hUl : U.heap[w.heap.size + 1]? = some (.loop { rec .ready none with state := .busy }) := by rw [← hU]; exact World.putObj_heap_same hlta
    have hUo : ∀ k, k ≠ w.heap.size + 1 → U.heap[k]? = Wa.heap[k]? := fun k hk => by rw [← hU]; exact World.putObj_heap_other hk
    have hUz : U.heap.size = Wa.heap.size := by rw [← hU]; simp
    have hUf : U.os = Wa.os ∧ U.tape = Wa.tape ∧ U.output = Wa.output := by rw [← hU]; exact ⟨rfl, rfl, rfl⟩
    have hBU : But M w U := by rw [← hU]; exact bP _ (hB.trans (But.grown hWa))
    have hIU : I pre U := by rw [← hU]; exact iP _ (hI _ _ _ hip (Keeps.of_below hWa))
    have hWz := hWa.size
    refine wpIn_mono (hbody U (by rw [← hU]; exact But.put _ _ _ rfl) hUz hBU hIU) ?_
    rintro e a3 X hp
    have shut : ∀ jump : Option Code, But (fun k => M k ∨ w.heap.size + 2 + d ≤ k) U X →
        (Instr.endRound (w.heap.size + 1) jump).run P X = .ok (.bool jump.isNone) (X.putObj (w.heap.size + 1) (.loop (rec (if jump.isNone then .ready else .done) jump))) ∧
        (X.putObj (w.heap.size + 1) (.loop (rec (if jump.isNone then .ready else .done) jump))).heap[w.heap.size + 1]? = some (.loop (rec (if jump.isNone then .ready else .done) jump)) ∧
        (X.putObj (w.heap.size + 1) (.loop (rec (if jump.isNone then .ready else .done) jump))).heap[w.heap.size]? = some (.deferred (some [])) := fun jump hf => by
      have hXl := (hf.same (w.heap.size + 1) (by omega) (by rintro (e | e); · have := hML _ e; omega
                                                            · omega)).trans hUl
      have hXd : X.heap[w.heap.size]? = some (.deferred (some [])) := (hf.same w.heap.size (by omega) (by rintro (e | e); · have := hML _ e; omega
                                                                                                          · omega)).trans ((hUo _ (by omega)).trans hda)
      have := run_endRound (P := P) jump hXl
      rw [hrec] at this ⊢
      exact ⟨this, World.putObj_heap_same (Array.getElem?_eq_some_iff.1 hXl).1, (World.putObj_heap_other (by omega)).trans hXd⟩
    have end1 : ∀ o, But (fun k => M k ∨ w.heap.size + 2 + d ≤ k) U X → But (fun k => M k ∨ k = w.heap.size + 1 ∨ V.heap.size + d ≤ k) W (X.putObj (w.heap.size + 1) o) := fun o hf => by
      refine ⟨hf.os.trans (hUf.1.trans hWa.os), hf.tape.trans (hUf.2.1.trans hWa.tape), hf.output.trans (hUf.2.2.trans hWa.output), ?_, fun k hk hm => ?_⟩
      · have := hf.size
        simp; omega
      · exact (World.putObj_heap_other (fun e => hm (.inr (.inl e)))).trans ((hf.same k (by omega) (by rintro (e | e); · exact hm (.inl e)
                                                                                                       · exact hm (.inr (.inr (by omega))))).trans ((hUo k (fun e => hm (.inr (.inl e)))).trans (hWa.block k hk)))
    have end2 : ∀ o, But (fun k => M k ∨ w.heap.size + 2 + d ≤ k) U X → But M w (X.putObj (w.heap.size + 1) o) := fun o hf => by
      refine bP _ ⟨hf.os.trans hBU.os, hf.tape.trans hBU.tape, hf.output.trans hBU.output, Nat.le_trans hBU.size hf.size, fun k hk hm => ?_⟩
      exact (hf.same k (Nat.lt_of_lt_of_le hk hBU.size) (by rintro (e | e); · exact hm e
                                                            · omega)).trans (hBU.same k hk hm)
    cases e with
    | normal =>
      obtain ⟨hbx, hipx⟩ := hp
      obtain ⟨hr, hl4, hd4⟩ := shut none hbx
      exact ⟨_, _, hr, .inl ⟨rfl, ⟨⟨end2 _ hbx, iP _ hipx⟩, hl4, hd4⟩, end1 _ hbx⟩⟩
    | ret =>
      obtain ⟨hbx, hix⟩ := hp
      obtain ⟨hr, hl4, hd4⟩ := shut (some .ret) hbx
      exact ⟨_, _, hr, .inr ⟨rfl, ⟨_, ⟨end2 _ hbx, xP _ hix⟩, hl4, hd4⟩, end1 _ hbx⟩⟩
    | exit id =>
      obtain ⟨hbx, hix⟩ := hp
      obtain ⟨hr, hl4, hd4⟩ := shut (some (.exit id)) hbx
      exact ⟨_, _, hr, .inr ⟨rfl, ⟨_, ⟨end2 _ hbx, xP _ hix⟩, hl4, hd4⟩, end1 _ hbx⟩⟩
    | goto t => exact hp.elim
    | panic ch => exact hp.elim
    | outgrown => exact hp.elim
  · rintro e X ⟨⟨v, rfl⟩, (⟨⟨hB, hip⟩, hl, hd⟩ | ⟨pre, hSp, c, ⟨hB, hi⟩, hl, hd⟩)⟩
    · exact ⟨none, _, by have := run_endLoop (P := P) hl (by rw [hrec]; simp); rw [hrec] at this; exact this,
        hdone _ _ (Nat.le_refl _) (iP _ hip) (bP _ hB) ((World.putObj_heap_other (by omega)).trans hd)⟩
    · exact ⟨some c, _, by have := run_endLoop (P := P) hl (by rw [hrec]; simp); rw [hrec] at this; exact this,
        hstop _ c pre _ (Nat.le_refl _) hSp (xP _ hi) (bP _ hB) ((World.putObj_heap_other (by omega)).trans hd)⟩

/-- As rangeFunc_box; where the deferred calls are collected is told. -/
theorem rangeFunc_boxD {P : Program} {α : Type} {g : Operand} {ps : Array Tmp} {assign body : Code} {Q : Exit → Act → World → Prop} {a : Act} {w : World} {n : Nat} (h1 : 1 ≤ n)
    {gf : Nat} {lb : Array Value} (hg : a.eval g = .func (.func gf) #[] lb) (eg : ∀ args w, (callFunc gf args).run P w = .ok (.enter gf args) w)
    {encs : α → Array Value} {L : List α} {Free : Nat → Prop} {d : Nat} (hseq : SeqL (n - 1) d P gf lb encs L Free w) (hps : ∀ x, (encs x).size = ps.size)
    (M : Nat → Prop) (hM : ∀ k, M k → k < w.heap.size ∧ Free k)
    (I : List α → World → Prop) (Ix : Code → List α → World → Prop) (hI : CalmL w.heap.size (w.heap.size + 2 + d) I) (hIx : ∀ c, CalmL w.heap.size (w.heap.size + 2 + d) (Ix c)) (h0 : I [] w)
    (hround : ∀ (l : Nat) (pre : List α) (x : α) (W : World) (K : Act → World → Prop), w.heap.size < l → l < W.heap.size → w.heap.size + 2 + d ≤ W.heap.size → l < w.heap.size + 2 + d → But M w W → I pre W → pre ++ [x] <+: L →
      (∀ a' Wa, Below W.heap.size W Wa → (∀ W2, But (fun k => k = l) Wa W2 → W2.heap.size = Wa.heap.size → But M w W2 → I pre W2 → body.wpIn (Fence.wide.inRound l) (n - 1 - 1) P (boxPost (w.heap.size + 2 + d) M I Ix (pre ++ [x]) W2) a' W2) → K a' Wa) →
      assign.wpIn (Fence.wide.inRound l) (n - 1 - 1) P (Exit.then K (fun _ _ _ => False)) { tmps := (ps.zip (encs x)).foldl (fun t (p, v) => t.setIfInBounds p v) a.tmps, defers := [] } W)
    (hdone : ∀ (D : Nat) (W : World), D = w.heap.size → I L W → But M w W → W.heap[D]? = some (.deferred (some [])) → Q .normal { a with defers := { target := .collected D, args := #[] } :: a.defers } W)
    (hstop : ∀ (D : Nat) (c : Code) (pre : List α) (W : World), D = w.heap.size → pre <+: L → Ix c pre W → But M w W → W.heap[D]? = some (.deferred (some [])) → c.wpIn Fence.wide n P Q { a with defers := { target := .collected D, args := #[] } :: a.defers } W) :
    (Code.rangeFunc g ps assign body).wpIn Fence.wide n P Q a w := by
  refine wpIn_rangeFunc ?_
  intro fn hfn
  obtain ⟨rec, hrec⟩ : ∃ rec : LoopState → Option Code → Loop, rec = fun st pe => { state := st, pending := pe, fn, tmps := a.tmps, params := ps, assign, body, defers := w.heap.size } := ⟨_, rfl⟩
  generalize hV : (w.alloc (.deferred (some []))).alloc (.loop (rec .ready none)) = V
  have hVz : V.heap.size = w.heap.size + 2 := by rw [← hV]; simp
  have hVb : Below w.heap.size w V := by rw [← hV]; exact ((Below.refl _ w).alloc (Nat.le_refl _) _).alloc (by simp) _
  have hVl : V.heap[w.heap.size + 1]? = some (.loop (rec .ready none)) := by
    rw [← hV]; have := World.alloc_heap_new (w.alloc (.deferred (some []))) (.loop (rec .ready none)); rwa [World.size_alloc] at this
  have hVd : V.heap[w.heap.size]? = some (.deferred (some [])) := by
    rw [← hV]; exact (Below.heap_alloc _ _ _ (by simp)).trans (World.alloc_heap_new w _)
  have hML : ∀ k, M k → k < w.heap.size := fun k h => (hM k h).1
  refine ⟨w.heap.size + 1, [{ target := .collected w.heap.size, args := #[] }], V, { target := .fn (.func gf) lb, args := #[.func (.yield (w.heap.size + 1)) #[] #[]] }, V, gf,
    #[.func (.yield (w.heap.size + 1)) #[] #[]] ++ lb, V, ?_, ?_, fun _ _ => trivial, ?_, fun _ => h1, ?_⟩
  · rw [← hV, hrec]; exact run_enterLoop_outer _ _ _ _ _
  · simp only [resolve, hg]
    simp [go_sem]
  · simp [invoke, go_sem, eg]
  have bK : ∀ {A B : World}, But M w A → Keeps V.heap.size (V.heap.size + d) A B → But M w B := fun h k =>
    ⟨k.os.trans h.os, k.tape.trans h.tape, k.output.trans h.output, Nat.le_trans h.size k.size, fun i hi hm => (k.same i (Nat.lt_of_lt_of_le hi h.size) (by omega)).trans (h.same i hi hm)⟩
  have bP : ∀ {A : World} (o : Obj), But M w A → But M w (A.putObj (w.heap.size + 1) o) := fun o h3 =>
    ⟨h3.os, h3.tape, h3.output, by have := h3.size; simp; omega, fun k hk hm => (World.putObj_heap_other (by omega)).trans (h3.same k hk hm)⟩
  have iP : ∀ {pre : List α} {A : World} (o : Obj), I pre A → I pre (A.putObj (w.heap.size + 1) o) := fun o h => hI _ _ _ h (Keeps.put _ _ _ (by omega) (by omega))
  have xP : ∀ {c : Code} {pre : List α} {A : World} (o : Obj), Ix c pre A → Ix c pre (A.putObj (w.heap.size + 1) o) := fun o h => hIx _ _ _ _ h (Keeps.put _ _ _ (by omega) (by omega))
  refine (hseq M (w.heap.size + 1)
    (fun pre W => (But M w W ∧ I pre W) ∧ W.heap[w.heap.size + 1]? = some (.loop (rec .ready none)) ∧ W.heap[w.heap.size]? = some (.deferred (some [])))
    (fun pre W => ∃ c, (But M w W ∧ Ix c pre W) ∧ W.heap[w.heap.size + 1]? = some (.loop (rec .done (some c))) ∧ W.heap[w.heap.size]? = some (.deferred (some [])))
    V hM hVb (by omega) (by omega)
    (fun pre A B hs hb => ⟨⟨bK hs.1.1 hb, hI _ _ _ hs.1.2 (hb.mono (by omega) (by omega))⟩, (hb.same _ (Array.getElem?_eq_some_iff.1 hs.2.1).1 (by omega)).trans hs.2.1, (hb.same _ (Array.getElem?_eq_some_iff.1 hs.2.2).1 (by omega)).trans hs.2.2⟩)
    ?_ ⟨⟨But.grown hVb, hI _ _ _ h0 (Keeps.of_below hVb)⟩, hVl, hVd⟩).mono ?_
  · rintro pre x W ⟨⟨hB, hip⟩, hl, hd⟩ hWd hpx
    have hlt : w.heap.size + 1 < W.heap.size := (Array.getElem?_eq_some_iff.1 hl).1
    have hy := run_yield (P := P) (args := encs x) hl (by rw [hrec]; exact hps x)
    rw [hrec] at hy
    refine ⟨fn, _, assign, body, hy, roundIn_of_wpIn hfn (hround _ pre x W _ (by omega) hlt (by omega) (by omega) hB hip hpx ?_)⟩
    clear hy
    intro a' Wa hWa hbody
    have hla := (hWa.block _ hlt).trans hl
    have hda := (hWa.block w.heap.size (by omega)).trans hd
    have hlta : w.heap.size + 1 < Wa.heap.size := (Array.getElem?_eq_some_iff.1 hla).1
    refine ⟨_, run_beginRound hla (by rw [hrec]), ?_⟩
    generalize hU : Wa.putObj (w.heap.size + 1) (.loop { rec .ready none with state := .busy }) = U
    have hUl : U.heap[w.heap.size + 1]? = some (.loop { rec .ready none with state := .busy }) := by rw [← hU]; exact World.putObj_heap_same hlta
    have hUo : ∀ k, k ≠ w.heap.size + 1 → U.heap[k]? = Wa.heap[k]? := fun k hk => by rw [← hU]; exact World.putObj_heap_other hk
    have hUz : U.heap.size = Wa.heap.size := by rw [← hU]; simp
    have hUf : U.os = Wa.os ∧ U.tape = Wa.tape ∧ U.output = Wa.output := by rw [← hU]; exact ⟨rfl, rfl, rfl⟩
    have hBU : But M w U := by rw [← hU]; exact bP _ (hB.trans (But.grown hWa))
    have hIU : I pre U := by rw [← hU]; exact iP _ (hI _ _ _ hip (Keeps.of_below hWa))
    have hWz := hWa.size
    refine wpIn_mono (hbody U (by rw [← hU]; exact But.put _ _ _ rfl) hUz hBU hIU) ?_
    rintro e a3 X hp
    have shut : ∀ jump : Option Code, But (fun k => M k ∨ w.heap.size + 2 + d ≤ k) U X →
        (Instr.endRound (w.heap.size + 1) jump).run P X = .ok (.bool jump.isNone) (X.putObj (w.heap.size + 1) (.loop (rec (if jump.isNone then .ready else .done) jump))) ∧
        (X.putObj (w.heap.size + 1) (.loop (rec (if jump.isNone then .ready else .done) jump))).heap[w.heap.size + 1]? = some (.loop (rec (if jump.isNone then .ready else .done) jump)) ∧
        (X.putObj (w.heap.size + 1) (.loop (rec (if jump.isNone then .ready else .done) jump))).heap[w.heap.size]? = some (.deferred (some [])) := fun jump hf => by
      have hXl := (hf.same (w.heap.size + 1) (by omega) (by rintro (e | e); · have := hML _ e; omega
                                                            · omega)).trans hUl
      have hXd : X.heap[w.heap.size]? = some (.deferred (some [])) := (hf.same w.heap.size (by omega) (by rintro (e | e); · have := hML _ e; omega
                                                                                                          · omega)).trans ((hUo _ (by omega)).trans hda)
      have := run_endRound (P := P) jump hXl
      rw [hrec] at this ⊢
      exact ⟨this, World.putObj_heap_same (Array.getElem?_eq_some_iff.1 hXl).1, (World.putObj_heap_other (by omega)).trans hXd⟩
    have end1 : ∀ o, But (fun k => M k ∨ w.heap.size + 2 + d ≤ k) U X → But (fun k => M k ∨ k = w.heap.size + 1 ∨ V.heap.size + d ≤ k) W (X.putObj (w.heap.size + 1) o) := fun o hf => by
      refine ⟨hf.os.trans (hUf.1.trans hWa.os), hf.tape.trans (hUf.2.1.trans hWa.tape), hf.output.trans (hUf.2.2.trans hWa.output), ?_, fun k hk hm => ?_⟩
      · have := hf.size
        simp; omega
      · exact (World.putObj_heap_other (fun e => hm (.inr (.inl e)))).trans ((hf.same k (by omega) (by rintro (e | e); · exact hm (.inl e)
                                                                                                       · exact hm (.inr (.inr (by omega))))).trans ((hUo k (fun e => hm (.inr (.inl e)))).trans (hWa.block k hk)))
    have end2 : ∀ o, But (fun k => M k ∨ w.heap.size + 2 + d ≤ k) U X → But M w (X.putObj (w.heap.size + 1) o) := fun o hf => by
      refine bP _ ⟨hf.os.trans hBU.os, hf.tape.trans hBU.tape, hf.output.trans hBU.output, Nat.le_trans hBU.size hf.size, fun k hk hm => ?_⟩
      exact (hf.same k (Nat.lt_of_lt_of_le hk hBU.size) (by rintro (e | e); · exact hm e
                                                            · omega)).trans (hBU.same k hk hm)
    cases e with
    | normal =>
      obtain ⟨hbx, hipx⟩ := hp
      obtain ⟨hr, hl4, hd4⟩ := shut none hbx
      exact ⟨_, _, hr, .inl ⟨rfl, ⟨⟨end2 _ hbx, iP _ hipx⟩, hl4, hd4⟩, end1 _ hbx⟩⟩
    | ret =>
      obtain ⟨hbx, hix⟩ := hp
      obtain ⟨hr, hl4, hd4⟩ := shut (some .ret) hbx
      exact ⟨_, _, hr, .inr ⟨rfl, ⟨_, ⟨end2 _ hbx, xP _ hix⟩, hl4, hd4⟩⟩⟩
    | exit id =>
      obtain ⟨hbx, hix⟩ := hp
      obtain ⟨hr, hl4, hd4⟩ := shut (some (.exit id)) hbx
      exact ⟨_, _, hr, .inr ⟨rfl, ⟨_, ⟨end2 _ hbx, xP _ hix⟩, hl4, hd4⟩⟩⟩
    | goto t => exact hp.elim
    | panic ch => exact hp.elim
    | outgrown => exact hp.elim
  · rintro e X ⟨⟨v, rfl⟩, (⟨⟨hB, hip⟩, hl, hd⟩ | ⟨pre, hSp, c, ⟨hB, hi⟩, hl, hd⟩)⟩
    · exact ⟨none, _, by have := run_endLoop (P := P) hl (by rw [hrec]; simp); rw [hrec] at this; exact this,
        hdone _ _ rfl (iP _ hip) (bP _ hB) ((World.putObj_heap_other (by omega)).trans hd)⟩
    · exact ⟨some c, _, by have := run_endLoop (P := P) hl (by rw [hrec]; simp); rw [hrec] at this; exact this,
        hstop _ c pre _ rfl hSp (xP _ hi) (bP _ hB) ((World.putObj_heap_other (by omega)).trans hd)⟩
end Go.Proofs.YtbiodfeanngkdaaDoor

/- The sequence of utf.Signs, told by what its rounds may write. -/
namespace Go.Proofs.YtbiodfeanngkdaaDoor
open Go.RowKit Go.Shelf
attribute [local go_sem] Oper.semAt_some

theorem keeps_iterAt (W : World) (k : Nat) (s : ByteArray) (p : Nat) : Keeps k (k + 1) W (W.iterAt k s p) :=
  ⟨rfl, rfl, rfl, by rw [Lib.iterAt_size]; exact Nat.le_refl _, fun i _ hi => Lib.iterAt_other W k i s p (by omega)⟩

set_option maxRecDepth 100000 in
set_option maxHeartbeats 1000000 in
theorem signs_seqL (n bx : Nat) (hn : 1 ≤ n) (s : ByteArray) (hs : s.size ≤ 140737488355328) (w : World) (hbx : bx < w.heap.size) (hc : w.cell? ⟨bx, 0, none⟩ = some (.string s)) :
    SeqL n 1 Tryd.prog 46 #[.pointer (some ⟨bx, 0, none⟩)] (fun x : Sg => #[x.val]) (signs s) (fun k => k ≠ bx) w := by
  intro M l J Jx W hM hWb hl hlW hJ hY h0
  have hWz := hWb.size
  have hcW := (hWb.cell (p := ⟨bx, 0, none⟩) hbx).trans hc
  have HB : Hid (∀ A B : World, W.heap.size + 1 ≤ A.heap.size → But (fun k => M k ∨ k = l ∨ W.heap.size + 1 ≤ k) A B → B.heap[bx]? = A.heap[bx]? ∧ B.heap[W.heap.size]? = A.heap[W.heap.size]?) := fun A B hA hb => by
    refine ⟨hb.same bx (by omega) ?_, hb.same W.heap.size (by omega) ?_⟩
    · rintro (e | e | e)
      · exact (hM _ e).2 rfl
      · omega
      · omega
    · rintro (e | e | e)
      · have := (hM _ e).1; omega
      · omega
      · omega
  clear hM hc
  refine callsIn_of_wp Tryd.func46 rfl trivial ?_ rfl
  simp only [Tryd.ntmps46, List.size_toArray, List.length_cons, List.length_nil, Nat.reduceAdd, Nat.reduceSub, Array.replicate_succ, Array.replicate_zero, List.push_toArray, List.append_toArray, List.nil_append, List.cons_append]
  gi_wp2
  gi_loopw [3, 4] (fun _ _ wr => ∃ (pre : List Sg) (pos b : Nat), wr.heap[W.heap.size]? = some (.stringIter s pos) ∧ J pre wr ∧ wr.cell? ⟨bx, 0, none⟩ = some (.string s) ∧ pre ++ sgns s b pos = signs s ∧ s.size ≤ pos + b)
    (fun _ _ wr => s.size - wr.iterPos W.heap.size)
  case atStart =>
    refine ⟨[], 0, s.size, World.alloc_heap_new W _, hJ _ _ _ h0 (Keeps.of_below ((Below.refl _ W).alloc (Nat.le_refl _) _)), ?_, rfl, by omega⟩
    exact (((Below.refl W.heap.size W).alloc (Nat.le_refl _) _).cell (p := ⟨bx, 0, none⟩) (show bx < W.heap.size by omega)).trans hcW
  case round =>
    obtain ⟨pre, pos, b, hit, hJs, hbc, hsg, hb⟩ := hrel
    have HS : Hid (pre ++ sgns s b pos = signs s) := hsg
    clear hsg
    have hkz : W.heap.size < wr.heap.size := (Array.getElem?_eq_some_iff.1 hit).1
    by_cases hp : pos < s.size
    · have hnx : ∀ ty, (Instr.next (.pointer (some ⟨W.heap.size, 0, none⟩)) true ty).run Tryd.prog wr = _ := fun ty => Lib.run_next_any_at wr W.heap.size s pos ty hit hp
      have hbc2 : (wr.iterAt W.heap.size s (pos + (Utf8.decode s pos).2)).cell? ⟨bx, 0, none⟩ = some (.string s) := (World.cell?_of_block (Lib.iterAt_other _ _ _ _ _ (by show bx ≠ _; omega))).trans hbc
      have hit2 := Lib.iterAt_heap wr W.heap.size s pos (pos + (Utf8.decode s pos).2) hit
      have hJ2 := hJ _ _ _ hJs (keeps_iterAt wr W.heap.size s (pos + (Utf8.decode s pos).2))
      have hwd := Lib.decode_width_pos s pos hp
      gi_wp2_with (refine ⟨trivial, ?_⟩; gi_at_call 47; refine (callsIn_wide.2 (signAt_any s pos _ _ hs (by omega))).mono ?_; rintro e w' ⟨rfl, v, rfl⟩)
      have hpx : pre ++ [sgn s pos] <+: signs s := by
        rw [← HS.out]
        cases b with
        | zero => omega
        | succ b => rw [sgns, if_pos hp]; exact ⟨sgns s b (pos + (Utf8.decode s pos).2), by simp⟩
      have hJ3 := hJ _ _ _ hJ2 (Keeps.of_below ((Below.refl _ _).alloc (Nat.le_refl _) (.cells v 55)))
      have hbc3 : ((wr.iterAt W.heap.size s (pos + (Utf8.decode s pos).2)).alloc (.cells v 55)).cell? ⟨bx, 0, none⟩ = some (.string s) := (((Below.refl _ _).alloc (Nat.le_refl _) _).cell (p := ⟨bx, 0, none⟩) (by rw [Lib.iterAt_size]; show bx < _; omega)).trans hbc2
      have hit3 : ((wr.iterAt W.heap.size s (pos + (Utf8.decode s pos).2)).alloc (.cells v 55)).heap[W.heap.size]? = some (.stringIter s (pos + (Utf8.decode s pos).2)) := (Below.heap_alloc _ _ _ (by rw [Lib.iterAt_size]; exact hkz)).trans hit2
      have hz3 : W.heap.size + 1 ≤ ((wr.iterAt W.heap.size s (pos + (Utf8.decode s pos).2)).alloc (.cells v 55)).heap.size := by rw [World.size_alloc, Lib.iterAt_size]; omega
      obtain ⟨fn, tmps, assign, body, hy, hR⟩ := hY pre (sgnR s pos (Utf8.decode s pos).1) _ hJ3 hz3 hpx
      rw [hy, Oper.uponIn_round]
      refine ⟨fun _ => hn, ?_⟩
      clear hy
      refine hR.mono ?_
      rintro e W3 (⟨rfl, hJ4, hk4⟩ | ⟨rfl, hJx4⟩)
      · obtain ⟨q1, q2⟩ := HB.out _ _ hz3 hk4
        gi_wp2
        go_roundw
        case rel =>
          cases b with
          | zero => omega
          | succ b =>
            refine ⟨pre ++ [sgn s pos], pos + (Utf8.decode s pos).2, b, q2.trans hit3, hJ4, (World.cell?_of_block q1).trans hbc3, ?_, by omega⟩
            have := HS.out
            rw [sgns, if_pos hp] at this
            simpa using this
        case measure =>
          rw [iterPos_of hit, iterPos_of (q2.trans hit3)]
          omega
      · gi_wp2
        refine bodyPost_ret (results_none rfl _ _ _) rfl ?_
        exact ⟨⟨_, rfl⟩, .inr ⟨_, hpx, hJx4⟩⟩
    · have hnx : ∀ ty, (Instr.next (.pointer (some ⟨W.heap.size, 0, none⟩)) true ty).run Tryd.prog wr = _ := fun ty => Lib.run_next_end_at wr W.heap.size s pos ty hit hp
      gi_wp2
      go_end0
      refine ⟨⟨_, rfl⟩, .inl ?_⟩
      have := HS.out
      rw [sgns_end s b pos hp, List.append_nil] at this
      rwa [← this]

end Go.Proofs.YtbiodfeanngkdaaDoor

/- A region that draws its order inside of a round: one walk of the lexical order serves every order there too, where no operation defers. -/
namespace Go.Proofs.YtbiodfeanngkdaaDoor
open Go.RowKit

def noDefer (o : Oper) : Bool := match o.op with | .defer _ => false | _ => true
theorem noDefer_spec {o : Oper} (h : noDefer o = true) : ∀ c, o.op ≠ .defer c := fun c e => by unfold noDefer at h; rw [e] at h; cases h

theorem oper_round {n l : Nat} {P : Program} {o : Oper} (hd : ∀ c, o.op ≠ .defer c) {a : Act} {w : World} {K : Act → World → Prop} {Q : Exit → Act → World → Prop} (h : o.wpIn Fence.wide n P a w K Q) : o.wpIn (Fence.wide.inRound l) n P a w K Q := by
  unfold Oper.wpIn at *
  refine ⟨h.1, ?_⟩
  have h2 := h.2
  rw [Oper.semAt_eq _ _ _ hd] at h2 ⊢
  generalize (execOp a.eval o).run P w = r at *
  cases r with
  | ok x w' =>
    cases x with
    | round l2 f tmps assign body => exact ⟨h2.1, h2.2.1, fun c cs _ => h2.2.2 c cs (room_wide _)⟩
    | _ => exact h2
  | halt x w' => cases x <;> exact h2
theorem op_round {n l i : Nat} {P : Program} {ops : Array Oper} (hd : ∀ (j : Nat) o, ops[j]? = some o → noDefer o = true) {a : Act} {w : World} {K : Act → World → Prop} {Q : Exit → Act → World → Prop} (h : wpOpIn Fence.wide n P ops Q i K a w) : wpOpIn (Fence.wide.inRound l) n P ops Q i K a w := by
  unfold wpOpIn at *
  split
  · rename_i ho; simp only [ho] at h; exact h
  · rename_i o ho
    simp only [ho] at h
    split
    · rename_i hw; simp only [hw, if_true] at h; exact oper_round (noDefer_spec (hd i o ho)) h
    · rename_i hw; simp only [hw] at h; exact h
theorem any_round {n l : Nat} {P : Program} {md : Region.Mode} {ops : Array Oper} (hd : ∀ (j : Nat) o, ops[j]? = some o → noDefer o = true) {Q : Exit → Act → World → Prop} : ∀ (fuel : Nat) (listed : Array Bool) (a : Act) (w : World), wpAnyIn Fence.wide n P md ops Q fuel listed a w → wpAnyIn (Fence.wide.inRound l) n P md ops Q fuel listed a w
  | 0, _, _, _, h => h
  | fuel + 1, _, _, _, h => ⟨h.1, fun i hi => op_round hd (wpOpIn_mono (fun a w => any_round hd fuel _ a w) (h.2 i hi))⟩

theorem region_quiet_round {n : Nat} {P : Program} {id : Nat} {Q : Exit → Act → World → Prop} {a : Act} {w : World} {lst : List Oper} (l : Nat) (hd : lst.all noDefer = true) (hm : P.follows .mixedOrders = true) (hB : Region.lexB .any lst.toArray = true)
    (h : wpQuietIn Fence.wide n P lst.toArray (fun w' => ∃ n, w' = w.drewN n) (fun a' => ∀ w', (∃ n, w' = w.drewN n) → Q .normal a' w') lst a) : (Code.region id lst.toArray true).wpIn (Fence.wide.inRound l) n P Q a w := by
  simp only [Region.lexB, Bool.and_eq_true] at hB
  refine wpIn_region_any hm (any_round (fun j o ho => ?_) _ _ _ _ (wpAnyIn_of_quiet (C := fun w' => ∃ n, w' = w.drewN n) (Q := fun a' => ∀ w', (∃ n, w' = w.drewN n) → Q .normal a' w') rfl (fun _ w' hw' h => h w' hw') _ _ _ _ ⟨1, rfl⟩ ?_))
  · rw [List.all_eq_true] at hd
    rw [List.getElem?_toArray] at ho
    exact hd o (List.mem_of_getElem? ho)
  · have := wpAnyQIn_lex (F := Fence.wide) (n := n) (P := P) (C := fun w' => ∃ n, w' = w.drewN n) (md := .any) hB.1 lst 0 (Array.replicate lst.toArray.size false) a (by simp) (by simpa using hB.2) h
    simpa using this
end Go.Proofs.YtbiodfeanngkdaaDoor
