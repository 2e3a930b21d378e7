/- A law of range-over-func loops, as LawL's; the sequence leans on what the rounds keep ('Good'). -/
import Derived.Test.YtbehlaclffjkbaaDoorLawL
namespace Go.Proofs.YtbehlaclffjkbaaDoor
open Go.RowKit

/-- A sequence that tells the list L where its rounds keep what is Good, keeps state of its own in the first d blocks that it makes, and leans on no block that is Free. -/
def SeqG {α : Type} (n d : Nat) (P : Program) (g : Nat) (lb : Array Value) (encs : α → Array Value) (L : List α) (Free : Nat → Prop) (Good : List α → World → Prop) (w : World) : Prop :=
  ∀ (M : Nat → Prop) (l : Nat) (J Jx : List α → World → Prop) (W : World), (∀ k, M k → k < w.heap.size ∧ Free k) → Below w.heap.size w W → w.heap.size < l → l < W.heap.size → CalmL W.heap.size (W.heap.size + d) J → (∀ pre A, J pre A → Good pre A) →
    (∀ pre x W1, J pre W1 → W.heap.size + d ≤ W1.heap.size → pre ++ [x] <+: L → YieldAt Fence.wide (n - 1) P l (encs x) W1 fun e W' =>
      (e = .returned (.bool true) ∧ J (pre ++ [x]) W' ∧ But (fun k => M k ∨ k = l ∨ W.heap.size + d ≤ k) W1 W') ∨ (e = .returned (.bool false) ∧ Jx (pre ++ [x]) W')) →
    J [] W →
    CallsIn Fence.wide n P g (#[.func (.yield l) #[] #[]] ++ lb) W fun e W' => (∃ v, e = .returned v) ∧ (J L W' ∨ ∃ pre, pre <+: L ∧ Jx pre W')

theorem rangeFunc_boxG {P : Program} {α : Type} {g : Operand} {ps : Array Tmp} {assign body : Code} {Q : Exit → Act → World → Prop} {a : Act} {w : World} {n : Nat} (h1 : 1 ≤ n)
    {gf : Nat} {lb : Array Value} (hg : a.eval g = .func (.func gf) #[] lb) (eg : ∀ args w, (callFunc gf args).run P w = .ok (.enter gf args) w)
    {encs : α → Array Value} {L : List α} {Free : Nat → Prop} {Good : List α → World → Prop} {d : Nat} (hseq : SeqG (n - 1) d P gf lb encs L Free Good w) (hps : ∀ x, (encs x).size = ps.size)
    (M : Nat → Prop) (hM : ∀ k, M k → k < w.heap.size ∧ Free k)
    (I : List α → World → Prop) (hG : ∀ pre A, But M w A → I pre A → Good pre A) (Ix : Code → List α → World → Prop) (hI : CalmL w.heap.size (w.heap.size + 2 + d) I) (hIx : ∀ c, CalmL w.heap.size (w.heap.size + 2 + d) (Ix c)) (h0 : I [] w)
    (hround : ∀ (l : Nat) (pre : List α) (x : α) (W : World) (K : Act → World → Prop), w.heap.size < l → l < W.heap.size → w.heap.size + 2 + d ≤ W.heap.size → l < w.heap.size + 2 + d → But M w W → I pre W → pre ++ [x] <+: L →
      (∀ a' Wa, Below W.heap.size W Wa → (∀ W2, But (fun k => k = l) Wa W2 → W2.heap.size = Wa.heap.size → But M w W2 → I pre W2 → body.wpIn (Fence.wide.inRound l) (n - 1 - 1) P (boxPost (w.heap.size + 2 + d) M I Ix (pre ++ [x]) W2) a' W2) → K a' Wa) →
      assign.wpIn (Fence.wide.inRound l) (n - 1 - 1) P (Exit.then K (fun _ _ _ => False)) { tmps := (ps.zip (encs x)).foldl (fun t (p, v) => t.setIfInBounds p v) a.tmps, defers := [] } W)
    (hdone : ∀ (D : Nat) (W : World), w.heap.size ≤ D → I L W → But M w W → W.heap[D]? = some (.deferred (some [])) → Q .normal { a with defers := { target := .collected D, args := #[] } :: a.defers } W)
    (hstop : ∀ (D : Nat) (c : Code) (pre : List α) (W : World), w.heap.size ≤ D → pre <+: L → Ix c pre W → But M w W → W.heap[D]? = some (.deferred (some [])) → c.wpIn Fence.wide n P Q { a with defers := { target := .collected D, args := #[] } :: a.defers } W) :
    (Code.rangeFunc g ps assign body).wpIn Fence.wide n P Q a w := by
  refine wpIn_rangeFunc ?_
  intro fn hfn
  obtain ⟨rec, hrec⟩ : ∃ rec : LoopState → Option Code → Loop, rec = fun st pe => { state := st, pending := pe, fn, tmps := a.tmps, params := ps, assign, body, defers := w.heap.size } := ⟨_, rfl⟩
  generalize hV : (w.alloc (.deferred (some []))).alloc (.loop (rec .ready none)) = V
  have hVz : V.heap.size = w.heap.size + 2 := by rw [← hV]; simp
  have hVb : Below w.heap.size w V := by rw [← hV]; exact ((Below.refl _ w).alloc (Nat.le_refl _) _).alloc (by simp) _
  have hVl : V.heap[w.heap.size + 1]? = some (.loop (rec .ready none)) := by
    rw [← hV]; have := World.alloc_heap_new (w.alloc (.deferred (some []))) (.loop (rec .ready none)); rwa [World.size_alloc] at this
  have hVd : V.heap[w.heap.size]? = some (.deferred (some [])) := by
    rw [← hV]; exact (Below.heap_alloc _ _ _ (by simp)).trans (World.alloc_heap_new w _)
  have hML : ∀ k, M k → k < w.heap.size := fun k h => (hM k h).1
  refine ⟨w.heap.size + 1, [{ target := .collected w.heap.size, args := #[] }], V, { target := .fn (.func gf) lb, args := #[.func (.yield (w.heap.size + 1)) #[] #[]] }, V, gf,
    #[.func (.yield (w.heap.size + 1)) #[] #[]] ++ lb, V, ?_, ?_, fun _ _ => trivial, ?_, fun _ => h1, ?_⟩
  · rw [← hV, hrec]; exact run_enterLoop_outer _ _ _ _ _
  · simp only [resolve, hg]
    simp [go_sem]
  · simp [invoke, go_sem, eg]
  have bK : ∀ {A B : World}, But M w A → Keeps V.heap.size (V.heap.size + d) A B → But M w B := fun h k =>
    ⟨k.os.trans h.os, k.tape.trans h.tape, k.output.trans h.output, Nat.le_trans h.size k.size, fun i hi hm => (k.same i (Nat.lt_of_lt_of_le hi h.size) (by omega)).trans (h.same i hi hm)⟩
  have bP : ∀ {A : World} (o : Obj), But M w A → But M w (A.putObj (w.heap.size + 1) o) := fun o h3 =>
    ⟨h3.os, h3.tape, h3.output, by have := h3.size; simp; omega, fun k hk hm => (World.putObj_heap_other (by omega)).trans (h3.same k hk hm)⟩
  have iP : ∀ {pre : List α} {A : World} (o : Obj), I pre A → I pre (A.putObj (w.heap.size + 1) o) := fun o h => hI _ _ _ h (Keeps.put _ _ _ (by omega) (by omega))
  have xP : ∀ {c : Code} {pre : List α} {A : World} (o : Obj), Ix c pre A → Ix c pre (A.putObj (w.heap.size + 1) o) := fun o h => hIx _ _ _ _ h (Keeps.put _ _ _ (by omega) (by omega))
  refine (hseq M (w.heap.size + 1)
    (fun pre W => (But M w W ∧ I pre W) ∧ W.heap[w.heap.size + 1]? = some (.loop (rec .ready none)) ∧ W.heap[w.heap.size]? = some (.deferred (some [])))
    (fun pre W => ∃ c, (But M w W ∧ Ix c pre W) ∧ W.heap[w.heap.size + 1]? = some (.loop (rec .done (some c))) ∧ W.heap[w.heap.size]? = some (.deferred (some [])))
    V hM hVb (by omega) (by omega)
    (fun pre A B hs hb => ⟨⟨bK hs.1.1 hb, hI _ _ _ hs.1.2 (hb.mono (by omega) (by omega))⟩, (hb.same _ (Array.getElem?_eq_some_iff.1 hs.2.1).1 (by omega)).trans hs.2.1, (hb.same _ (Array.getElem?_eq_some_iff.1 hs.2.2).1 (by omega)).trans hs.2.2⟩)
    (fun pre A hs => hG pre A hs.1.1 hs.1.2)
    ?_ ⟨⟨But.grown hVb, hI _ _ _ h0 (Keeps.of_below hVb)⟩, hVl, hVd⟩).mono ?_
  · rintro pre x W ⟨⟨hB, hip⟩, hl, hd⟩ hWd hpx
    have hlt : w.heap.size + 1 < W.heap.size := (Array.getElem?_eq_some_iff.1 hl).1
    have hy := run_yield (P := P) (args := encs x) hl (by rw [hrec]; exact hps x)
    rw [hrec] at hy
    refine ⟨fn, _, assign, body, hy, roundIn_of_wpIn hfn (hround _ pre x W _ (by omega) hlt (by omega) (by omega) hB hip hpx ?_)⟩
    clear hy
    intro a' Wa hWa hbody
    have hla := (hWa.block _ hlt).trans hl
    have hda := (hWa.block w.heap.size (by omega)).trans hd
    have hlta : w.heap.size + 1 < Wa.heap.size := (Array.getElem?_eq_some_iff.1 hla).1
    refine ⟨_, run_beginRound hla (by rw [hrec]), ?_⟩
    generalize hU : Wa.putObj (w.heap.size + 1) (.loop { rec .ready none with state := .busy }) = U
    have hUl : U.heap[w.heap.size + 1]? = some (.loop { rec .ready none with state := .busy }) := by rw [← hU]; exact World.putObj_heap_same hlta
    have hUo : ∀ k, k ≠ w.heap.size + 1 → U.heap[k]? = Wa.heap[k]? := fun k hk => by rw [← hU]; exact World.putObj_heap_other hk
    have hUz : U.heap.size = Wa.heap.size := by rw [← hU]; simp
    have hUf : U.os = Wa.os ∧ U.tape = Wa.tape ∧ U.output = Wa.output := by rw [← hU]; exact ⟨rfl, rfl, rfl⟩
    have hBU : But M w U := by rw [← hU]; exact bP _ (hB.trans (But.grown hWa))
    have hIU : I pre U := by rw [← hU]; exact iP _ (hI _ _ _ hip (Keeps.of_below hWa))
    have hWz := hWa.size
    refine wpIn_mono (hbody U (by rw [← hU]; exact But.put _ _ _ rfl) hUz hBU hIU) ?_
    rintro e a3 X hp
    have shut : ∀ jump : Option Code, But (fun k => M k ∨ w.heap.size + 2 + d ≤ k) U X →
        (Instr.endRound (w.heap.size + 1) jump).run P X = .ok (.bool jump.isNone) (X.putObj (w.heap.size + 1) (.loop (rec (if jump.isNone then .ready else .done) jump))) ∧
        (X.putObj (w.heap.size + 1) (.loop (rec (if jump.isNone then .ready else .done) jump))).heap[w.heap.size + 1]? = some (.loop (rec (if jump.isNone then .ready else .done) jump)) ∧
        (X.putObj (w.heap.size + 1) (.loop (rec (if jump.isNone then .ready else .done) jump))).heap[w.heap.size]? = some (.deferred (some [])) := fun jump hf => by
      have hXl := (hf.same (w.heap.size + 1) (by omega) (by rintro (e | e); · have := hML _ e; omega
                                                            · omega)).trans hUl
      have hXd : X.heap[w.heap.size]? = some (.deferred (some [])) := (hf.same w.heap.size (by omega) (by rintro (e | e); · have := hML _ e; omega
                                                                                                          · omega)).trans ((hUo _ (by omega)).trans hda)
      have := run_endRound (P := P) jump hXl
      rw [hrec] at this ⊢
      exact ⟨this, World.putObj_heap_same (Array.getElem?_eq_some_iff.1 hXl).1, (World.putObj_heap_other (by omega)).trans hXd⟩
    have end1 : ∀ o, But (fun k => M k ∨ w.heap.size + 2 + d ≤ k) U X → But (fun k => M k ∨ k = w.heap.size + 1 ∨ V.heap.size + d ≤ k) W (X.putObj (w.heap.size + 1) o) := fun o hf => by
      refine ⟨hf.os.trans (hUf.1.trans hWa.os), hf.tape.trans (hUf.2.1.trans hWa.tape), hf.output.trans (hUf.2.2.trans hWa.output), ?_, fun k hk hm => ?_⟩
      · have := hf.size
        simp; omega
      · exact (World.putObj_heap_other (fun e => hm (.inr (.inl e)))).trans ((hf.same k (by omega) (by rintro (e | e); · exact hm (.inl e)
                                                                                                       · exact hm (.inr (.inr (by omega))))).trans ((hUo k (fun e => hm (.inr (.inl e)))).trans (hWa.block k hk)))
    have end2 : ∀ o, But (fun k => M k ∨ w.heap.size + 2 + d ≤ k) U X → But M w (X.putObj (w.heap.size + 1) o) := fun o hf => by
      refine bP _ ⟨hf.os.trans hBU.os, hf.tape.trans hBU.tape, hf.output.trans hBU.output, Nat.le_trans hBU.size hf.size, fun k hk hm => ?_⟩
      exact (hf.same k (Nat.lt_of_lt_of_le hk hBU.size) (by rintro (e | e); · exact hm e
                                                            · omega)).trans (hBU.same k hk hm)
    cases e with
    | normal =>
      obtain ⟨hbx, hipx⟩ := hp
      obtain ⟨hr, hl4, hd4⟩ := shut none hbx
      exact ⟨_, _, hr, .inl ⟨rfl, ⟨⟨end2 _ hbx, iP _ hipx⟩, hl4, hd4⟩, end1 _ hbx⟩⟩
    | ret =>
      obtain ⟨hbx, hix⟩ := hp
      obtain ⟨hr, hl4, hd4⟩ := shut (some .ret) hbx
      exact ⟨_, _, hr, .inr ⟨rfl, ⟨_, ⟨end2 _ hbx, xP _ hix⟩, hl4, hd4⟩⟩⟩
    | exit id =>
      obtain ⟨hbx, hix⟩ := hp
      obtain ⟨hr, hl4, hd4⟩ := shut (some (.exit id)) hbx
      exact ⟨_, _, hr, .inr ⟨rfl, ⟨_, ⟨end2 _ hbx, xP _ hix⟩, hl4, hd4⟩⟩⟩
    | goto t => exact hp.elim
    | panic ch => exact hp.elim
    | outgrown => exact hp.elim
  · rintro e X ⟨⟨v, rfl⟩, (⟨⟨hB, hip⟩, hl, hd⟩ | ⟨pre, hSp, c, ⟨hB, hi⟩, hl, hd⟩)⟩
    · exact ⟨none, _, by have := run_endLoop (P := P) hl (by rw [hrec]; simp); rw [hrec] at this; exact this,
        hdone _ _ (Nat.le_refl _) (iP _ hip) (bP _ hB) ((World.putObj_heap_other (by omega)).trans hd)⟩
    · exact ⟨some c, _, by have := run_endLoop (P := P) hl (by rw [hrec]; simp); rw [hrec] at this; exact this,
        hstop _ c pre _ (Nat.le_refl _) hSp (xP _ hi) (bP _ hB) ((World.putObj_heap_other (by omega)).trans hd)⟩

end Go.Proofs.YtbehlaclffjkbaaDoor
