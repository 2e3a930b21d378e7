/- Several texts, one behind the other. -/
import Derived.RangeFuncNested
import Derived.RangeFuncBound
import Derived.RangeFuncCalls
import Derived.RangeFuncLeaves
import Derived.Shelf.Abstract
import Derived.Shelf.RegionOpen
import Derived.WalkKit
import Derived.OwnWalkIn
import Derived.TacticsInMore
import Derived.LoopNIn
import Derived.LoopIn
import Derived.Test.YthhhglfcacoejaaGreatDoorW1
/- The contract of the sequence that utf.Signs tells: it goes over the signs of its text, in their order, and stops where a round says so. -/
namespace Go.Proofs.YthhhglfcacoejaaGreatDoor
open Go.RowKit Go.Shelf
attribute [local go_sem] Oper.semAt_some

/-- What a round over Signs keeps: the text's own box, and whatever a walk leans on that was laid since. -/
def Kp (bx : Nat) (A B : World) : Prop := B.cell? ⟨bx, 0, none⟩ = A.cell? ⟨bx, 0, none⟩ ∧ ∀ k o, bx ≤ k → A.heap[k]? = some o → o.isWalk = true → B.heap[k]? = some o
theorem Kp_t {bx : Nat} {A B C : World} (h : Kp bx A B) (k : Kp bx B C) : Kp bx A C := ⟨k.1.trans h.1, fun i o hi ha ho => k.2 i o hi (h.2 i o hi ha ho) ho⟩
theorem Kp_b {bx : Nat} {w : World} (hb : bx < w.heap.size) (W : World) (l : Nat) (o o' : Obj) (hl : w.heap.size ≤ l) (h : W.heap[l]? = some o) (_ : o.isCells = false) (hw : o.isWalk = false) : Kp bx W (W.putObj l o') :=
  ⟨World.cell?_of_block (World.putObj_heap_other (by show bx ≠ l; omega)), fun k q _ hk hq => by
    by_cases e : k = l
    · subst e; rw [h] at hk; cases hk; rw [hw] at hq; cases hq
    · exact (World.putObj_heap_other e).trans hk⟩
theorem Kp_of {bx : Nat} {A B : World} (h : ∀ k, bx ≤ k → k < A.heap.size → B.heap[k]? = A.heap[k]?) (hb : bx < A.heap.size) : Kp bx A B :=
  ⟨World.cell?_of_block (h bx (Nat.le_refl _) hb), fun k _ hk ha _ => (h k hk (Array.getElem?_eq_some_iff.1 ha).1).trans ha⟩

theorem grownBy_iterAt (W : World) (k : Nat) (s : ByteArray) (p : Nat) : W.grownBy (W.iterAt k s p) (some k) :=
  ⟨rfl, rfl, rfl, by rw [Lib.iterAt_size]; exact Nat.le_refl _, fun i _ hi => Lib.iterAt_other W k i s p (fun e => hi (by rw [e]))⟩

set_option maxRecDepth 100000 in
set_option maxHeartbeats 1000000 in
theorem signs1_in (n l bx : Nat) (hn : 1 ≤ n) (s : ByteArray) (hs : s.size ≤ 140737488355328) (J Jx : List Sg → World → Prop) (W : World) (hJ : AbidesFrom W.heap.size J)
    (hY : ∀ pre x W1, J pre W1 → pre.length < (signs s).length → YieldAt Fence.wide (n - 1) Tryz.prog l #[x.val] W1 fun e W' =>
      (e = .returned (.bool true) ∧ J (pre ++ [x]) W' ∧ Kp bx W1 W') ∨ (e = .returned (.bool false) ∧ Jx (pre ++ [x]) W'))
    (hbx : bx < W.heap.size) (hc : W.cell? ⟨bx, 0, none⟩ = some (.string s)) (h0 : J [] W) :
    CallsIn Fence.wide n Tryz.prog 59 #[.func (.yield l) #[] #[], .pointer (some ⟨bx, 0, none⟩)] W fun e W' => (∃ v, e = .returned v) ∧
      ((∃ ys, ys = signs s ∧ J ys W') ∨ (∃ pre, pre <+: signs s ∧ Jx pre W')) := by
  refine callsIn_of_wp Tryz.func59 rfl trivial ?_ rfl
  simp only [Tryz.ntmps59, List.size_toArray, List.length_cons, List.length_nil, Nat.reduceAdd, Nat.reduceSub, Array.replicate_succ, Array.replicate_zero, List.push_toArray, List.append_toArray, List.nil_append, List.cons_append]
  gi_wp2
  gi_loopw [3, 4] (fun _ _ wr => ∃ (pre : List Sg) (pos b : Nat), wr.heap[W.heap.size]? = some (.stringIter s pos) ∧ J pre wr ∧ wr.cell? ⟨bx, 0, none⟩ = some (.string s) ∧ pre ++ sgns s b pos = signs s ∧ s.size ≤ pos + b)
    (fun _ _ wr => s.size - wr.iterPos W.heap.size)
  case atStart =>
    refine ⟨[], 0, s.size, World.alloc_heap_new W _, hJ _ _ _ none h0 (World.grownBy_alloc W _ none) (fun r e => by cases e), ?_, rfl, by omega⟩
    exact (((Below.refl W.heap.size W).alloc (Nat.le_refl _) _).cell (p := ⟨bx, 0, none⟩) hbx).trans hc
  case round =>
    obtain ⟨pre, pos, b, hit, hJs, hbc, hsg, hb⟩ := hrel
    have HS : Hid (pre ++ sgns s b pos = signs s) := hsg
    clear hsg
    have hkz : W.heap.size < wr.heap.size := (Array.getElem?_eq_some_iff.1 hit).1
    by_cases hp : pos < s.size
    · have hnx : ∀ ty, (Instr.next (.pointer (some ⟨W.heap.size, 0, none⟩)) true ty).run Tryz.prog wr = _ := fun ty => Lib.run_next_any_at wr W.heap.size s pos ty hit hp
      have hbc2 : (wr.iterAt W.heap.size s (pos + (Utf8.decode s pos).2)).cell? ⟨bx, 0, none⟩ = some (.string s) := (World.cell?_of_block (Lib.iterAt_other _ _ _ _ _ (by show bx ≠ _; omega))).trans hbc
      have hit2 := Lib.iterAt_heap wr W.heap.size s pos (pos + (Utf8.decode s pos).2) hit
      have hJ2 := hJ _ _ _ (some W.heap.size) hJs (grownBy_iterAt wr W.heap.size s (pos + (Utf8.decode s pos).2)) (fun r e => by cases e; exact ⟨Nat.le_refl _, _, hit, rfl⟩)
      have hwd := Lib.decode_width_pos s pos hp
      gi_wp2_with (refine ⟨trivial, ?_⟩; gi_at_call 60; refine (callsIn_wide.2 (signAt_any s pos _ _ hs (by omega))).mono ?_; rintro e w' ⟨rfl, v, rfl⟩)
      have hlen : pre.length < (signs s).length := by
        rw [← HS.out]
        cases b with
        | zero => omega
        | succ b => simp [sgns, hp]
      have hJ3 := hJ _ _ _ none hJ2 (World.grownBy_alloc _ (.cells v 122) none) (fun r e => by cases e)
      have hbc3 : ((wr.iterAt W.heap.size s (pos + (Utf8.decode s pos).2)).alloc (.cells v 122)).cell? ⟨bx, 0, none⟩ = some (.string s) := (((Below.refl _ _).alloc (Nat.le_refl _) _).cell (p := ⟨bx, 0, none⟩) (by rw [Lib.iterAt_size]; show bx < _; omega)).trans hbc2
      have hit3 : ((wr.iterAt W.heap.size s (pos + (Utf8.decode s pos).2)).alloc (.cells v 122)).heap[W.heap.size]? = some (.stringIter s (pos + (Utf8.decode s pos).2)) := (Below.heap_alloc _ _ _ (by rw [Lib.iterAt_size]; exact hkz)).trans hit2
      obtain ⟨fn, tmps, assign, body, hy, hR⟩ := hY pre (sgnR s pos (Utf8.decode s pos).1) _ hJ3 hlen
      rw [hy, Oper.uponIn_round]
      refine ⟨fun _ => hn, ?_⟩
      clear hy
      refine hR.mono ?_
      rintro e W3 (⟨rfl, hJ4, hk4⟩ | ⟨rfl, hJx4⟩)
      · gi_wp2
        go_roundw
        case rel =>
          cases b with
          | zero => omega
          | succ b =>
            refine ⟨pre ++ [sgn s pos], pos + (Utf8.decode s pos).2, b, hk4.2 _ _ (by omega) hit3 rfl, hJ4, hk4.1.trans hbc3, ?_, by omega⟩
            have := HS.out
            rw [sgns, if_pos hp] at this
            simpa using this
        case measure =>
          rw [iterPos_of hit, iterPos_of (hk4.2 _ _ (by omega) hit3 rfl)]
          omega
      · gi_wp2
        refine bodyPost_ret (results_none rfl _ _ _) rfl ?_
        refine ⟨⟨_, rfl⟩, .inr ⟨_, ?_, hJx4⟩⟩
        cases b with
        | zero => omega
        | succ b =>
          refine ⟨sgns s b (pos + (Utf8.decode s pos).2), ?_⟩
          have := HS.out
          rw [sgns, if_pos hp] at this
          simpa [sgn] using this
    · have hnx : ∀ ty, (Instr.next (.pointer (some ⟨W.heap.size, 0, none⟩)) true ty).run Tryz.prog wr = _ := fun ty => Lib.run_next_end_at wr W.heap.size s pos ty hit hp
      gi_wp2
      go_end0
      refine ⟨⟨_, rfl⟩, .inl ⟨pre, ?_, hJs⟩⟩
      have := HS.out
      rw [sgns_end s b pos hp] at this
      simpa using this

/-- utf.Signs's sequence over the text in the box bx. -/
theorem signs_stops (n bx : Nat) (hn : 1 ≤ n) (s : ByteArray) (hs : s.size ≤ 140737488355328) (w : World) (hbx : bx < w.heap.size) (hc : w.cell? ⟨bx, 0, none⟩ = some (.string s)) :
    SeqStopsK Fence.wide n Tryz.prog 59 #[.pointer (some ⟨bx, 0, none⟩)] (fun x : Sg => #[x.val]) (Kp bx) (fun ys => ys = signs s) (fun pre => pre <+: signs s) (signs s).length w :=
  fun l J Jx W hW hJ _ hY h0 => signs1_in n l bx hn s hs J Jx W hJ hY (by have := hW.size; omega) ((hW.cell (p := ⟨bx, 0, none⟩) hbx).trans hc) h0

end Go.Proofs.YthhhglfcacoejaaGreatDoor

/- A law of range-over-func loops whose sequence keeps state of its own in new memory: the loop is told by what lay ahead of it, which nobody turns, and by what a round that returns has written. -/
namespace Go.Proofs.YthhhglfcacoejaaGreatDoor
open Go.RowKit

/-- Everything but block l stands. -/
structure ButOne (l : Nat) (A B : World) : Prop where
  size : A.heap.size ≤ B.heap.size
  same : ∀ k, k < A.heap.size → k ≠ l → B.heap[k]? = A.heap[k]?
/-- Everything from block m on stands. -/
structure FromOn (m : Nat) (A B : World) : Prop where
  size : A.heap.size ≤ B.heap.size
  same : ∀ k, k < A.heap.size → m ≤ k → B.heap[k]? = A.heap[k]?
def Calm (m : Nat) {α : Type} (J : List α → World → Prop) : Prop := ∀ pre A B, J pre A → Below m A B → J pre B

/-- A sequence that may keep state of its own in the memory that it makes. -/
def SeqCalm {α : Type} (n : Nat) (P : Program) (g : Nat) (lb : Array Value) (encs : α → Array Value) (S Sp : List α → Prop) (N : Nat) (w : World) : Prop :=
  ∀ (l : Nat) (J Jx : List α → World → Prop) (W : World), Below w.heap.size w W → w.heap.size < l → l < W.heap.size → Calm W.heap.size J → Calm W.heap.size Jx →
    (∀ pre x W1, J pre W1 → pre.length < N → YieldAt Fence.wide (n - 1) P l (encs x) W1 fun e W' =>
      (e = .returned (.bool true) ∧ J (pre ++ [x]) W' ∧ ButOne l W1 W') ∨ (e = .returned (.bool false) ∧ Jx (pre ++ [x]) W' ∧ FromOn (l + 1) W1 W')) →
    J [] W →
    CallsIn Fence.wide n P g (#[.func (.yield l) #[] #[]] ++ lb) W fun e W' => (∃ v, e = .returned v) ∧ ((∃ xs, S xs ∧ J xs W') ∨ (∃ pre, Sp pre ∧ Jx pre W'))

/-- How a round may end: it goes on, having only made memory; or it returns, having written only what lay ahead of the loop. -/
def calmPost {α : Type} (B : Nat) (Ip : List α → Prop) (Ix : List α → World → Prop) (xs : List α) (W : World) : Exit → Act → World → Prop
  | .normal, _, W' => Below W.heap.size W W' ∧ Ip xs
  | .ret, _, W' => FromOn B W W' ∧ Ix xs W'
  | _, _, _ => False

theorem putObj_below (W : World) (l : Nat) (o : Obj) : Below l W (W.putObj l o) := ⟨rfl, rfl, rfl, by simp, fun _ hk => World.putObj_heap_other (by omega)⟩

theorem rangeFunc_calm {P : Program} {α : Type} {g : Operand} {ps : Array Tmp} {assign body : Code} {Q : Exit → Act → World → Prop} {a : Act} {w : World} {n : Nat} (h1 : 1 ≤ n)
    {gf : Nat} {lb : Array Value} (hg : a.eval g = .func (.func gf) #[] lb) (eg : ∀ args w, (callFunc gf args).run P w = .ok (.enter gf args) w)
    {encs : α → Array Value} {S Sp : List α → Prop} {N : Nat} (hseq : SeqCalm (n - 1) P gf lb encs S Sp N w) (hps : ∀ x, (encs x).size = ps.size)
    (Ip : List α → Prop) (Ix : List α → World → Prop) (hIx : Calm w.heap.size Ix) (h0 : Ip [])
    (hround : ∀ (l : Nat) (pre : List α) (x : α) (W : World) (K : Act → World → Prop), w.heap.size < l → l < W.heap.size → Below w.heap.size w W → Ip pre → pre.length < N →
      (∀ a' Wa, Below W.heap.size W Wa → (∀ W2, ButOne l Wa W2 → W2.heap.size = Wa.heap.size → Below w.heap.size w W2 → body.wpIn (Fence.wide.inRound l) (n - 1 - 1) P (calmPost w.heap.size Ip Ix (pre ++ [x]) W2) a' W2) → K a' Wa) →
      assign.wpIn (Fence.wide.inRound l) (n - 1 - 1) P (Exit.then K (fun _ _ _ => False)) { tmps := (ps.zip (encs x)).foldl (fun t (p, v) => t.setIfInBounds p v) a.tmps, defers := [] } W)
    (hdone : ∀ (D : Nat) (xs : List α) (W : World), w.heap.size ≤ D → S xs → Ip xs → Below w.heap.size w W → W.heap[D]? = some (.deferred (some [])) → Q .normal { a with defers := { target := .collected D, args := #[] } :: a.defers } W)
    (hstop : ∀ (D : Nat) (pre : List α) (W : World), w.heap.size ≤ D → Sp pre → Ix pre W → W.heap[D]? = some (.deferred (some [])) → Code.ret.wpIn Fence.wide n P Q { a with defers := { target := .collected D, args := #[] } :: a.defers } W) :
    (Code.rangeFunc g ps assign body).wpIn Fence.wide n P Q a w := by
  refine wpIn_rangeFunc ?_
  intro fn hfn
  obtain ⟨rec, hrec⟩ : ∃ rec : LoopState → Option Code → Loop, rec = fun st pe => { state := st, pending := pe, fn, tmps := a.tmps, params := ps, assign, body, defers := w.heap.size } := ⟨_, rfl⟩
  generalize hV : (w.alloc (.deferred (some []))).alloc (.loop (rec .ready none)) = V
  have hVz : V.heap.size = w.heap.size + 2 := by rw [← hV]; simp
  have hVb : Below w.heap.size w V := by rw [← hV]; exact ((Below.refl _ w).alloc (Nat.le_refl _) _).alloc (by simp) _
  have hVl : V.heap[w.heap.size + 1]? = some (.loop (rec .ready none)) := by
    rw [← hV]; have := World.alloc_heap_new (w.alloc (.deferred (some []))) (.loop (rec .ready none)); rwa [World.size_alloc] at this
  have hVd : V.heap[w.heap.size]? = some (.deferred (some [])) := by
    rw [← hV]; exact (Below.heap_alloc _ _ _ (by simp)).trans (World.alloc_heap_new w _)
  refine ⟨w.heap.size + 1, [{ target := .collected w.heap.size, args := #[] }], V, { target := .fn (.func gf) lb, args := #[.func (.yield (w.heap.size + 1)) #[] #[]] }, V, gf,
    #[.func (.yield (w.heap.size + 1)) #[] #[]] ++ lb, V, ?_, ?_, fun _ _ => trivial, ?_, fun _ => h1, ?_⟩
  · rw [← hV, hrec]; exact run_enterLoop_outer _ _ _ _ _
  · simp only [resolve, hg]
    simp [go_sem]
  · simp [invoke, go_sem, eg]
  refine (hseq (w.heap.size + 1)
    (fun pre W => (Below w.heap.size w W ∧ Ip pre) ∧ W.heap[w.heap.size + 1]? = some (.loop (rec .ready none)) ∧ W.heap[w.heap.size]? = some (.deferred (some [])))
    (fun pre W => Ix pre W ∧ W.heap[w.heap.size + 1]? = some (.loop (rec .done (some .ret))) ∧ W.heap[w.heap.size]? = some (.deferred (some [])))
    V hVb (by omega) (by omega)
    (fun pre A B hs hb => ⟨⟨hs.1.1.trans (hb.mono (by omega)), hs.1.2⟩, (hb.block _ (by omega)).trans hs.2.1, (hb.block _ (by omega)).trans hs.2.2⟩)
    (fun pre A B hs hb => ⟨hIx _ _ _ hs.1 (hb.mono (by omega)), (hb.block _ (by omega)).trans hs.2.1, (hb.block _ (by omega)).trans hs.2.2⟩)
    ?_ ⟨⟨hVb, h0⟩, hVl, hVd⟩).mono ?_
  · rintro pre x W ⟨⟨hB, hip⟩, hl, hd⟩ hlen
    have hlt : w.heap.size + 1 < W.heap.size := (Array.getElem?_eq_some_iff.1 hl).1
    have hy := run_yield (P := P) (args := encs x) hl (by rw [hrec]; exact hps x)
    rw [hrec] at hy
    refine ⟨fn, _, assign, body, hy, roundIn_of_wpIn hfn (hround _ pre x W _ (by omega) hlt hB hip hlen ?_)⟩
    clear hy
    intro a' Wa hWa hbody
    have hla := (hWa.block _ hlt).trans hl
    have hda := (hWa.block w.heap.size (by omega)).trans hd
    have hlta : w.heap.size + 1 < Wa.heap.size := (Array.getElem?_eq_some_iff.1 hla).1
    refine ⟨_, run_beginRound hla (by rw [hrec]), ?_⟩
    generalize hU : Wa.putObj (w.heap.size + 1) (.loop { rec .ready none with state := .busy }) = U
    have hUl : U.heap[w.heap.size + 1]? = some (.loop { rec .ready none with state := .busy }) := by rw [← hU]; exact World.putObj_heap_same hlta
    have hUo : ∀ k, k ≠ w.heap.size + 1 → U.heap[k]? = Wa.heap[k]? := fun k hk => by rw [← hU]; exact World.putObj_heap_other hk
    have hUz : U.heap.size = Wa.heap.size := by rw [← hU]; simp
    have hUb : Below (w.heap.size + 1) Wa U := by rw [← hU]; exact putObj_below _ _ _
    have hBU : Below w.heap.size w U := (hB.trans (hWa.mono (by omega))).trans (hUb.mono (by omega))
    have hWz := hWa.size
    refine wpIn_mono (hbody U ⟨by omega, fun k _ hk => hUo k hk⟩ hUz hBU) ?_
    rintro e a3 X hp
    have shut : ∀ jump : Option Code, FromOn w.heap.size U X →
        (Instr.endRound (w.heap.size + 1) jump).run P X = .ok (.bool jump.isNone) (X.putObj (w.heap.size + 1) (.loop (rec (if jump.isNone then .ready else .done) jump))) ∧
        (X.putObj (w.heap.size + 1) (.loop (rec (if jump.isNone then .ready else .done) jump))).heap[w.heap.size + 1]? = some (.loop (rec (if jump.isNone then .ready else .done) jump)) ∧
        (X.putObj (w.heap.size + 1) (.loop (rec (if jump.isNone then .ready else .done) jump))).heap[w.heap.size]? = some (.deferred (some [])) := fun jump hf => by
      have hXl := (hf.same (w.heap.size + 1) (by omega) (by omega)).trans hUl
      have hXd : X.heap[w.heap.size]? = some (.deferred (some [])) := (hf.same w.heap.size (by omega) (by omega)).trans ((hUo _ (by omega)).trans hda)
      have := run_endRound (P := P) jump hXl
      rw [hrec] at this ⊢
      exact ⟨this, World.putObj_heap_same (Array.getElem?_eq_some_iff.1 hXl).1, (World.putObj_heap_other (by omega)).trans hXd⟩
    cases e with
    | normal =>
      obtain ⟨hbx, hipx⟩ := hp
      have hXz := hbx.size
      obtain ⟨hr, hl4, hd4⟩ := shut none ⟨hbx.size, fun k hk _ => hbx.block k hk⟩
      refine ⟨_, _, hr, .inl ⟨rfl, ⟨⟨(hBU.trans (hbx.mono (by omega))).trans ((putObj_below X _ _).mono (by omega)), hipx⟩, hl4, hd4⟩, ?_⟩⟩
      refine ⟨by simp; omega, fun k hk hne => ?_⟩
      exact (World.putObj_heap_other hne).trans ((hbx.block k (by omega)).trans ((hUo k hne).trans (hWa.block k hk)))
    | ret =>
      obtain ⟨hfx, hix⟩ := hp
      have hXz := hfx.size
      obtain ⟨hr, hl4, hd4⟩ := shut (some .ret) hfx
      refine ⟨_, _, hr, .inr ⟨rfl, ⟨hIx _ _ _ hix ((putObj_below X _ _).mono (by omega)), hl4, hd4⟩, ?_⟩⟩
      refine ⟨by simp; omega, fun k hk hne => ?_⟩
      exact (World.putObj_heap_other (by omega)).trans ((hfx.same k (by omega) (by omega)).trans ((hUo k (by omega)).trans (hWa.block k hk)))
    | exit id => exact hp.elim
    | goto t => exact hp.elim
    | panic ch => exact hp.elim
    | outgrown => exact hp.elim
  · rintro e X ⟨⟨v, rfl⟩, (⟨xs, hS, ⟨hB, hip⟩, hl, hd⟩ | ⟨pre, hSp, hi, hl, hd⟩)⟩
    · exact ⟨none, _, by have := run_endLoop (P := P) hl (by rw [hrec]; simp); rw [hrec] at this; exact this,
        hdone _ xs _ (Nat.le_refl _) hS hip (hB.trans ((putObj_below X _ _).mono (by omega))) ((World.putObj_heap_other (by omega)).trans hd)⟩
    · exact ⟨some .ret, _, by have := run_endLoop (P := P) hl (by rw [hrec]; simp); rw [hrec] at this; exact this,
        hstop _ pre _ (Nat.le_refl _) hSp (hIx _ _ _ hi ((putObj_below X _ _).mono (by omega))) ((World.putObj_heap_other (by omega)).trans hd)⟩

end Go.Proofs.YthhhglfcacoejaaGreatDoor

/- The contract of the sequence of places that utf.find ranges over: it tells the places between the signs of its text, in all units, and stops where a round says so. -/
namespace Go.Proofs.YthhhglfcacoejaaGreatDoor
open Go.RowKit Go.Shelf
attribute [local go_sem] Oper.semAt_some

/-- A block of four cells. -/
def Row4 (W : World) (B : Nat) (t : TypeId) (c0 c1 c2 c3 : Value) : Prop := W.heap[B]? = some (.cells #[c0, c1, c2, c3] t (0, 0))
theorem Row4.lt {W : World} {B : Nat} {t : TypeId} {c0 c1 c2 c3 : Value} (h : Row4 W B t c0 c1 c2 c3) : B < W.heap.size := (Array.getElem?_eq_some_iff.1 h).1
theorem Row4.cells {W : World} {B : Nat} {t : TypeId} {c0 c1 c2 c3 : Value} (h : Row4 W B t c0 c1 c2 c3) :
    W.cell? ⟨B, 0, none⟩ = some c0 ∧ W.cell? ⟨B, 1, none⟩ = some c1 ∧ W.cell? ⟨B, 2, none⟩ = some c2 ∧ W.cell? ⟨B, 3, none⟩ = some c3 := by
  simp [World.cell?, show W.heap[B]? = _ from h]
theorem Row4.frozen {W : World} {B : Nat} {t : TypeId} {c0 c1 c2 c3 : Value} (h : Row4 W B t c0 c1 c2 c3) (o : Nat) : W.frozen? ⟨B, o, none⟩ = false := by
  simp [World.frozen?, show W.heap[B]? = _ from h]
theorem Row4.of_block {W W' : World} {B : Nat} {t : TypeId} {c0 c1 c2 c3 : Value} (h : Row4 W B t c0 c1 c2 c3) (e : W'.heap[B]? = W.heap[B]?) : Row4 W' B t c0 c1 c2 c3 := e.trans h
theorem heap_setCell_same (W : World) (B o : Nat) (v : Value) (c : Array Value) (t : TypeId) (h : W.heap[B]? = some (.cells c t (0, 0))) : (W.setCell ⟨B, o, none⟩ v).heap[B]? = some (.cells (c.setIfInBounds o v) t (0, 0)) := by
  obtain ⟨hlt, hk⟩ := Array.getElem?_eq_some_iff.1 h
  show (W.heap.modify B _)[B]? = _
  rw [Array.getElem?_eq_getElem (by rw [Array.size_modify]; exact hlt), Array.getElem_modify_self, hk]
  rfl
theorem Row4.set1 {W : World} {B : Nat} {t : TypeId} {c0 c1 c2 c3 : Value} (h : Row4 W B t c0 c1 c2 c3) (v : Value) : Row4 (W.setCell ⟨B, 1, none⟩ v) B t c0 v c2 c3 := heap_setCell_same W B 1 v _ t h
theorem Row4.set2 {W : World} {B : Nat} {t : TypeId} {c0 c1 c2 c3 : Value} (h : Row4 W B t c0 c1 c2 c3) (v : Value) : Row4 (W.setCell ⟨B, 2, none⟩ v) B t c0 c1 v c3 := heap_setCell_same W B 2 v _ t h
theorem Row4.set3 {W : World} {B : Nat} {t : TypeId} {c0 c1 c2 c3 : Value} (h : Row4 W B t c0 c1 c2 c3) (v : Value) : Row4 (W.setCell ⟨B, 3, none⟩ v) B t c0 c1 c2 v := heap_setCell_same W B 3 v _ t h

/-- A place, told in bytes, signs, units of UTF-16. -/
structure Spot where
  b : Int
  c : Int
  d : Int
def Spot.val (p : Spot) : Value := .agg #[.int .i64 0, .int .i64 p.b, .int .i64 p.c, .int .i64 p.d]
def Spot.step (p : Spot) (x : Sg) : Spot := ⟨p.b + x.len, p.c + 1, p.d + pairsI x.rune⟩
/-- The places ahead of each sign, and the place behind them all. -/
def trail (l : List Sg) : List Spot × Spot := l.foldl (fun lp x => (lp.1 ++ [lp.2], lp.2.step x)) ([], ⟨0, 0, 0⟩)
theorem trail_snoc (l : List Sg) (x : Sg) : trail (l ++ [x]) = ((trail l).1 ++ [(trail l).2], (trail l).2.step x) := by simp [trail, List.foldl_append]
theorem snoc_ind {α : Type} {P : List α → Prop} (h0 : P []) (hs : ∀ l x, P l → P (l ++ [x])) (l : List α) : P l := by
  rw [← List.reverse_reverse l]
  induction l.reverse with
  | nil => exact h0
  | cons x r ih => rw [List.reverse_cons]; exact hs _ _ ih
theorem trail_length (l : List Sg) : (trail l).1.length = l.length := by
  refine snoc_ind (P := fun l => (trail l).1.length = l.length) rfl (fun l x ih => ?_) l
  simp only [trail_snoc, List.length_append, List.length_singleton, ih]
theorem trail_bd (l : List Sg) : (0 ≤ (trail l).2.b ∧ (trail l).2.b ≤ 4 * l.length) ∧ (trail l).2.c = l.length ∧ 0 ≤ (trail l).2.d ∧ (trail l).2.d ≤ 2 * l.length := by
  refine snoc_ind (P := fun l => (0 ≤ (trail l).2.b ∧ (trail l).2.b ≤ 4 * l.length) ∧ (trail l).2.c = l.length ∧ 0 ≤ (trail l).2.d ∧ (trail l).2.d ≤ 2 * l.length) (by simp [trail]) (fun l x ih => ?_) l
  have hx := x.small
  have hp := pairsI_bd x.rune
  simp only [trail_snoc, Spot.step, List.length_append, List.length_singleton]
  omega
def spotsL (s : ByteArray) : List Spot := (trail (signs s)).1 ++ [(trail (signs s)).2]
theorem trail_append (l m : List Sg) : (trail l).1 <+: (trail (l ++ m)).1 := by
  refine snoc_ind (P := fun m => (trail l).1 <+: (trail (l ++ m)).1) (by simp) (fun m x ih => ?_) m
  rw [← List.append_assoc, trail_snoc]
  exact ih.trans (List.prefix_append _ _)
theorem trail_prefix {l : List Sg} {s : ByteArray} (h : l <+: signs s) : (trail l).1 <+: spotsL s := by
  obtain ⟨m, e⟩ := h
  unfold spotsL
  rw [← e]
  exact (trail_append l m).trans (List.prefix_append _ _)

theorem round_any {m m' : Nat} {P : Program} {l l' : Nat} {f : FuncId} {tmps : Array Value} {assign body : Code} {w : World} {R : Ending → World → Prop} (h : RoundIn Fence.wide m P l f tmps assign body w R) :
    RoundIn (Fence.wide.inRound l') m' P l f tmps assign body w R := ⟨h.1, fun c cs _ => h.2 c cs (room_wide _)⟩
theorem round_any0 {m m' : Nat} {P : Program} {l : Nat} {f : FuncId} {tmps : Array Value} {assign body : Code} {w : World} {R : Ending → World → Prop} (h : RoundIn Fence.wide m P l f tmps assign body w R) :
    RoundIn Fence.wide m' P l f tmps assign body w R := ⟨h.1, fun c cs _ => h.2 c cs (room_wide _)⟩

end Go.Proofs.YthhhglfcacoejaaGreatDoor
