/- lane.Lanes at the head's three cues; chapter 13's head; the walk of LaneNames. -/
import Derived.Test.YtpbedjabbehhgaaLnA
namespace Go.Proofs.Ytpbedjabbehhgaa
open Go.RowKit Go.Shelf

set_option maxRecDepth 100000 in
theorem at13 (n : Int) (w : World) : Calls Try.prog 11 #[.int .i64 n] w fun e w' => e = .returned (.agg #[.int .i64 n, .int .i64 1]) ∧ Below w.heap.size w w' := by
  go_enter Try.func11, Try.ntmps11
  go_wp2
  exact bodyPost_ret (v := .agg #[.int .i64 n, .int .i64 1]) (by simp [results, Try.results11, go_sem]) rfl ⟨rfl, bel1 _ _⟩

/-- A cue of two whole seconds, no text. -/
def cueP (a c : Int) : Cu := ⟨a, 1, c, 1, 0, 0, ⟨#[]⟩, ⟨#[]⟩, none, 0, 0⟩
theorem rt_sm (a b : Int) (h1 : 0 ≤ a ∧ a ≤ 100) (h2 : 1 ≤ b ∧ b ≤ 100) : RtIn ⟨a, b⟩ := ⟨⟨by simp; omega, by simp; omega⟩, ⟨by simp; omega, by simp; omega⟩⟩
theorem time_sm (a : Int) (h : 0 ≤ a ∧ a ≤ 100) (W : World) : Calls Try.prog 22 #[.agg #[.int .i64 a, .int .i64 1]] W fun e w' => e = .returned (.int .i64 (timeA ⟨a, 1⟩)) ∧ Below W.heap.size W w' := time_any ⟨a, 1⟩ (rt_sm a 1 h (by omega)) W
theorem checkP (a c : Int) (ha : 0 ≤ a ∧ a < c ∧ c ≤ 100) (ht : timeA ⟨a, 1⟩ = 0 ∧ timeA ⟨c, 1⟩ = 0 ∧ cmpI ⟨a, 1⟩ ⟨c, 1⟩ = -1) (w : World) : Calls Try.prog 16 #[.agg (cueP a c).cells] w fun e w' => e = .returned (.int .i64 0) ∧ Below w.heap.size w w' := by
  have h := cuecheck_walk a 1 c 1 0 0 ByteArray.empty ByteArray.empty (.slice none 0 0) 0 0 0 (-1) 0 0 0 rfl rfl w
    (fun W => by have := time_sm a (by omega) W; rw [ht.1] at this; exact this) (fun W => by have := time_sm c (by omega) W; rw [ht.2.1] at this; exact this)
    (fun W => by have := cmp_any ⟨a, 1⟩ ⟨c, 1⟩ (rt_sm a 1 (by omega) (by omega)) (rt_sm c 1 (by omega) (by omega)) W; rw [ht.2.2] at this; exact this)
    checkName_none (fun W _ => stcheck_plain ByteArray.empty (by decide) W)
  rw [show chkC 0 (-1) 0 0 0 = 0 by decide] at h
  exact h
def three : List Cu := [cueP 0 2, cueP 1 3, cueP 2 4]
theorem three_sm : ∀ x ∈ three, (0 ≤ x.a ∧ x.a ≤ 100) ∧ x.b = 1 ∧ (0 ≤ x.c ∧ x.c ≤ 100) ∧ x.d = 1 := by
  intro x hx
  simp [three] at hx
  rcases hx with rfl | rfl | rfl <;> simp [cueP]
theorem three_check : ∀ x ∈ three, ∀ W, Calls Try.prog 16 #[.agg x.cells] W fun e w' => e = .returned (.int .i64 0) ∧ Below W.heap.size W w' := by
  intro x hx W
  simp [three] at hx
  rcases hx with rfl | rfl | rfl
  · exact checkP 0 2 (by omega) (by decide) W
  · exact checkP 1 3 (by omega) (by decide) W
  · exact checkP 2 4 (by omega) (by decide) W
theorem doc3 (W : World) (oa : Option Addr) (hR : CuO W oa three) :
    Calls Try.prog 14 #[.agg #[.slice oa 3 3]] W fun e w' => e = .returned .nilIface ∧ Below W.heap.size W w' := by
  refine (checkdoc_walk (fun _ => 0) three oa 3 ⟨by decide, by decide⟩ W hR (fun x hx U _ => three_check x hx U) (fun _ x hx y hy U => ?_)).mono ?_
  · obtain ⟨p1, p2, p3, p4⟩ := three_sm x hx
    obtain ⟨q1, q2, q3, q4⟩ := three_sm y hy
    exact compare_walk x y (cmpI ⟨x.a, x.b⟩ ⟨y.a, y.b⟩) (cmpI ⟨x.c, x.d⟩ ⟨y.c, y.d⟩) _ rfl U (fun W => cmp_any ⟨x.a, x.b⟩ ⟨y.a, y.b⟩ (rt_sm _ _ p1 (by omega)) (rt_sm _ _ q1 (by omega)) W) (fun W => cmp_any ⟨x.c, x.d⟩ ⟨y.c, y.d⟩ (rt_sm _ _ p3 (by omega)) (rt_sm _ _ q3 (by omega)) W)
  · rintro e w' ⟨v, rfl, h, b⟩
    rw [show docC (fun _ => 0) three = none by decide] at h
    exact ⟨by rw [show v = .nilIface from h], b⟩
theorem cmp_sm (p : Rt) (x : Cu) (hp : (0 ≤ p.N ∧ p.N ≤ 100) ∧ p.D = 1) (hx : (0 ≤ x.a ∧ x.a ≤ 100) ∧ x.b = 1) (W : World) : Calls Try.prog 23 #[.agg #[.int .i64 p.N, .int .i64 p.D], .agg #[.int .i64 x.a, .int .i64 x.b]] W fun e w' => e = .returned (.int .i64 (cmpI p ⟨x.a, x.b⟩)) ∧ Below W.heap.size W w' :=
  cmp_any p ⟨x.a, x.b⟩ (rt_sm _ _ hp.1 (by omega)) (rt_sm _ _ hx.1 (by omega)) W
theorem infoI13 : (Try.prog.info? 3).map (fun i => (i.zero, i.size, i.bytes)) = some (some (.int .i64 0), 1, 8) := by kernel_rfl

/-- The ends ahead of each cue; the lanes that are given. -/
def endsI : Nat → List Rt
  | 0 => []
  | 1 => [⟨2, 1⟩]
  | _ => [⟨2, 1⟩, ⟨3, 1⟩]
def laneN : Nat → Int
  | 1 => 1
  | _ => 0
def manyN : Nat → Int
  | 0 => 0
  | 1 => 1
  | _ => 2
/-- How the memory lies at each round. -/
def LnS (P i : Nat) (nv : Value) (L : List Value) (b : Nat) (U : World) : Prop := P < b ∧ b ≤ U.heap.size ∧ U.ownsRow (P + 1) 3 1 nv L.length L ∧
  (i < 3 → ∃ v, U.cell? ⟨P, 0, none⟩ = some v ∧ U.frozen? ⟨P, 0, none⟩ = false ∧ U.ownsRow (P + 1) 27 2 v (endsI i).length (flatR (endsI i)) ∧ ∀ k, v.ownBlock = some k → k < b ∧ nv.ownBlock ≠ some k)
theorem LnS.keep {P i b : Nat} {nv : Value} {L : List Value} {U U2 : World} (h : LnS P i nv L b U) (hb : Below U.heap.size U U2) : LnS P i nv L b U2 := by
  obtain ⟨h1, h2, h3, h4⟩ := h
  refine ⟨h1, Nat.le_trans h2 hb.size, row_belowL h3 hb, fun hi => ?_⟩
  obtain ⟨v, q1, q2, q3, q4⟩ := h4 hi
  exact ⟨v, (hb.cell (p := ⟨P, 0, none⟩) (by show P < _; omega)).trans q1, (hb.frozen (p := ⟨P, 0, none⟩) (by show P < _; omega)).trans q2, row_belowL q3 hb, q4⟩
theorem LnS.up {P i b b2 : Nat} {nv : Value} {L : List Value} {U : World} (h : LnS P i nv L b U) (hb : b ≤ b2) (h2 : b2 ≤ U.heap.size) : LnS P i nv L b2 U := by
  obtain ⟨h1, _, h3, h4⟩ := h
  refine ⟨by omega, h2, h3, fun hi => ?_⟩
  obtain ⟨v, q1, q2, q3, q4⟩ := h4 hi
  exact ⟨v, q1, q2, q3, fun k hk => ⟨by have := (q4 k hk).1; omega, (q4 k hk).2⟩⟩
theorem lane3 (P i : Nat) (nv : Value) (L : List Value) (b C : Nat) (x : Cu) (hx : three[i]? = some x) (U : World) (hU : LnS P i nv L b U) (hC : b ≤ C ∧ C < U.heap.size) :
    Calls Try.prog 15 #[.pointer (some ⟨P, 0, none⟩), .agg x.cells] U fun e U' => e = .returned (.int .i64 (laneN i)) ∧ LnS P (i + 1) nv L U'.heap.size U' ∧ U'.heap[C]? = U.heap[C]? ∧ Below P U U' := by
  obtain ⟨h1, h2, h3, h4⟩ := hU
  have hi : i < 3 := (List.getElem?_eq_some_iff.1 hx).1
  obtain ⟨v, q1, q2, q3, q4⟩ := h4 hi
  have hvP : v.ownBlock ≠ some P := fun e => by have := (q3.lt P e).1; omega
  have hnP : nv.ownBlock ≠ some P := fun e => by have := (h3.lt P e).1; omega
  have hsm := three_sm x (List.mem_of_getElem? hx)
  have hEs : ∀ p ∈ endsI i, (0 ≤ p.N ∧ p.N ≤ 100) ∧ p.D = 1 := by
    intro p hp
    match i, hi with
    | 0, _ => simp [endsI] at hp
    | 1, _ => simp [endsI] at hp; subst hp; simp
    | 2, _ => simp [endsI] at hp; rcases hp with rfl | rfl <;> simp
  have HC : ∀ p ∈ endsI i, ∀ W, Calls Try.prog 23 #[.agg #[.int .i64 p.N, .int .i64 p.D], .agg #[.int .i64 x.a, .int .i64 x.b]] W fun e w' => e = .returned (.int .i64 (cmpI p ⟨x.a, x.b⟩)) ∧ Below W.heap.size W w' := fun p hp W => cmp_sm p x (hEs p hp) ⟨hsm.1, hsm.2.1⟩ W
  by_cases h0 : i < 2
  · have hf : freeI x 0 (endsI i) = none ∧ ((endsI i).length : Int) = laneN i ∧ endsI i ++ [⟨x.c, x.d⟩] = endsI (i + 1) ∧ (endsI i).length + 1 = (endsI (i + 1)).length := by
      match i, h0, hx with
      | 0, _, hx => simp [three] at hx; subst hx; exact ⟨by decide, by decide, rfl, rfl⟩
      | 1, _, hx => simp [three] at hx; subst hx; exact ⟨by decide, by decide, rfl, rfl⟩
    refine (lane_none x (endsI i) v (P + 1) P 0 U (by omega) q1 q2 q3 (by have := hf.2.2.2; match i, h0 with | 0, _ => decide | 1, _ => decide) hvP hf.1 HC).mono ?_
    rintro e U' ⟨g, cap, rfl, r1, r2, r3, r4, r5, r6⟩
    rw [hf.2.2.1, hf.2.2.2] at r3
    rw [hf.2.2.2] at r1
    refine ⟨by rw [hf.2.1], ⟨?_, Nat.le_refl _, own_butL h3 r6 ?_, fun _ => ⟨_, r1, r2, r3, fun k hk => ?_⟩⟩, ?_, ?_⟩
    · have := r6.size; omega
    · rintro k hk (rfl | hk2)
      · exact hnP hk
      · exact (q4 k hk2).2 hk
    · cases hk
      refine ⟨(r3.lt _ rfl).2, fun e => ?_⟩
      rcases r5 with r5 | r5
      · exact (q4 g r5).2 e
      · have := (h3.lt g e).2; omega
    · refine r6.same C hC.2 ?_
      rintro (rfl | hk)
      · omega
      · have := (q4 C hk).1; omega
    · refine r6.below (by omega) ?_
      rintro k (rfl | hk)
      · exact Nat.le_refl _
      · have := (q3.lt k hk).1; omega
  · obtain rfl : i = 2 := by omega
    have hx' : x = cueP 2 4 := by simp [three] at hx; exact hx.symm
    subst hx'
    refine (lane_some (cueP 2 4) (endsI 2) v (P + 1) P 0 0 U (by omega) q1 q3 hvP (by decide) (by decide) HC).mono ?_
    rintro e U' ⟨rfl, r6⟩
    refine ⟨rfl, ⟨?_, Nat.le_refl _, own_butL h3 r6 (fun k hk hk2 => (q4 k hk2).2 hk), fun h => by omega⟩, r6.same C hC.2 (fun hk => by have := (q4 C hk).1; omega), r6.below (by omega) (fun k hk => by have := (q3.lt k hk).1; omega)⟩
    have := r6.size; omega

theorem LnS.grow {P i b gg n cap : Nat} {nv : Value} {L L' : List Value} {U A U2 : World} (h : LnS P i nv L b U) (hA : Below U.heap.size U A) (hg : A.grownBy U2 nv.ownBlock) (ho : U2.ownsRow (P + 1) 3 1 (.slice (some ⟨gg, 0, none⟩) n cap) L'.length L') (hat : nv.ownBlock = some gg ∨ gg = A.heap.size) : LnS P i (.slice (some ⟨gg, 0, none⟩) n cap) L' U2.heap.size U2 := by
  obtain ⟨h1, h2, h3, h4⟩ := h
  have hz := hA.size
  have hz2 := hg.size
  refine ⟨by omega, Nat.le_refl _, ho, fun hi => ?_⟩
  obtain ⟨v, q1, q2, q3, q4⟩ := h4 hi
  have hP : U2.heap[P]? = U.heap[P]? := (hg.block P (by omega) (fun e => by have := (h3.lt P e.symm).1; omega)).trans (hA.block P (by omega))
  refine ⟨v, (World.cell?_of_block hP).trans q1, (World.frozen?_of_block hP).trans q2, own_butL (own_butL q3 (But.grown (M := fun _ => False) hA) (fun _ _ h => h)) (⟨hg.os, hg.tape, hg.output, hg.size, fun k hk hM => hg.block k hk (fun e => hM e)⟩ : But (fun k => some k = nv.ownBlock) A U2) (fun k hk e => (q4 k hk).2 e.symm), fun k hk => ⟨by have := (q4 k hk).1; omega, fun e => ?_⟩⟩
  have hgk : gg = k := by simpa [Value.ownBlock] using e
  subst hgk
  rcases hat with e2 | e2
  · exact (q4 _ hk).2 e2
  · have := (q4 _ hk).1; omega
theorem LnS.below {P i b : Nat} {nv : Value} {L : List Value} {U A U2 : World} (h : LnS P i nv L b U) (hA : Below U.heap.size U A) (hg : A.grownBy U2 nv.ownBlock) : Below P U U2 :=
  Below.grown (hA.mono (by have := h.1; have := h.2.1; omega)) hg (by have := hA.size; have := h.1; have := h.2.1; omega) (fun k hk => by have := (h.2.2.1.lt k hk).1; omega)
theorem row_lowL {A : World} {m base e size k : Nat} {v : Value} {xs : List Value} (h : A.ownsRow base e size v k xs) (hm : m ≤ base) : A.ownsRow m e size v k xs := by
  refine ⟨h.1, ?_⟩
  rcases h.2 with hn | ⟨g, cap, cur, rfl, hg, rest⟩
  · exact .inl hn
  · exact .inr ⟨g, cap, cur, rfl, Nat.le_trans hm hg, rest⟩
def laneL (i : Nat) : List Value := [Value.int .i64 0, .int .i64 1, .int .i64 0].take i
set_option maxRecDepth 100000 in
set_option maxHeartbeats 2000000 in
theorem lanes3 (w : World) (oa : Option Addr) (hR : CuO w oa three) :
    Calls Try.prog 12 #[.agg #[.slice oa 3 3]] w fun e w' => ∃ v, e = .returned (.tuple #[v, .int .i64 2, .nilIface]) ∧ w'.ownsRow w.heap.size 3 1 v 3 [.int .i64 0, .int .i64 1, .int .i64 0] ∧ Below w.heap.size w w' := by
  obtain ⟨i0, hi, hz0, hz1, hz2⟩ := info_partsL infoI13
  have HR := hideC hR
  clear hR
  go_enter Try.func12, Try.ntmps12
  go_wp2_with fail
  refine (doc3 _ oa (HR.out.keep (bel1 _ _))).mono ?_
  rintro e w1 ⟨rfl, b1⟩
  have B1 := hideC (bup (bel1 w (.cells #[.slice oa 3 3] 36)) b1)
  have hws : w.heap.size < w1.heap.size := by have := b1.size; rw [World.size_alloc] at this; omega
  have cD : w1.cell? ⟨w.heap.size, 0, none⟩ = some (.slice oa 3 3) := (b1.cell (p := ⟨w.heap.size, 0, none⟩) (by simp)).trans (by simp)
  clear b1
  have cD2 : (w1.alloc (.cells #[.slice none 0 0, .slice none 0 0] 46)).cell? ⟨w.heap.size, 0, none⟩ = some (.slice oa 3 3) := (World.cell?_of_block (Below.heap_alloc w1 _ _ hws)).trans cD
  go_wp2_with fail
  obtain ⟨V, hV⟩ : ∃ V, w1.alloc (.cells #[.slice none 0 0, .slice none 0 0] 46) = V := ⟨_, rfl⟩
  have HV : Hid (LnS w1.heap.size 0 (.slice none 0 0) [] V.heap.size V ∧ Below w.heap.size w V) := hideC (by
    rw [← hV]
    refine ⟨⟨by simp, Nat.le_refl _, World.ownsRow_nil _ _ _ _, fun _ => ⟨.slice none 0 0, by simp, by simp, World.ownsRow_nil _ _ _ _, fun k hk => by cases hk⟩⟩, bup B1.out (bel1 _ _)⟩)
  rw [hV]
  clear hV cD cD2
  generalize w1.heap.size = P at *
  go_loopw [7, 8, 20] (fun nv mv iv U => ∃ i : Nat, iv = .int .i64 (i : Nat) ∧ i ≤ 3 ∧ mv = .int .i64 (manyN i) ∧ LnS P i nv (laneL i) U.heap.size U ∧ Below P V U) (fun _ _ iv _ => 3 - (intOf iv).toNat)
  case atStart => exact ⟨0, rfl, by omega, rfl, HV.out.1, Below.refl _ _⟩
  case round =>
    obtain ⟨i, rfl, hi3, rfl, hS, hb⟩ := hrel
    obtain ⟨U, rfl⟩ : ∃ U, U = wr := ⟨_, rfl⟩
    have bw : Below w.heap.size w U := HV.out.2.trans (hb.mono (by omega))
    by_cases hlt : i < 3
    · obtain ⟨x, hx⟩ : ∃ x, three[i]? = some x := ⟨_, List.getElem?_eq_getElem (by exact hlt)⟩
      obtain ⟨y, rfl, hab, cs⟩ := HR.out.keep bw i x hx
      obtain ⟨a, c, rfl⟩ : ∃ a c, x = cueP a c := by
        have hm := List.mem_of_getElem? hx
        simp [three] at hm
        rcases hm with rfl | rfl | rfl <;> exact ⟨_, _, rfl⟩
      obtain ⟨⟨c0, c1, c2, c3⟩, ⟨c4, c5⟩, ⟨c6, c7, c8⟩⟩ := cs
      unfold cueP at c0 c1 c2 c3 c4 c5 c6 c7 c8
      simp only at c0 c1 c2 c3 c4 c5 c6 c7 c8
      have d2 : (i : Int) < 3 := by omega
      have HS := hideC (And.intro hS (And.intro hb (And.intro bw hx)))
      clear hS hb bw hx
      go_wp2_with fail
      have hC0 : (U.alloc (.cells #[.int .i64 a, .int .i64 1, .int .i64 c, .int .i64 1, .int .i64 0, .int .i64 0, .string ⟨#[]⟩, .string ⟨#[]⟩, .slice none 0 0] 33)).heap[U.heap.size]? = some (.cells #[.int .i64 a, .int .i64 1, .int .i64 c, .int .i64 1, .int .i64 0, .int .i64 0, .string ⟨#[]⟩, .string ⟨#[]⟩, .slice none 0 0] 33) := World.alloc_heap_new U _
      have HLn := hideC (lane3 P i u7 (laneL i) U.heap.size U.heap.size (cueP a c) HS.out.2.2.2 (U.alloc (.cells #[.int .i64 a, .int .i64 1, .int .i64 c, .int .i64 1, .int .i64 0, .int .i64 0, .string ⟨#[]⟩, .string ⟨#[]⟩, .slice none 0 0] 33)).drew (HS.out.1.keep ((bel1 _ _).drew)) ⟨Nat.le_refl _, by show _ < (U.alloc (.cells #[.int .i64 a, .int .i64 1, .int .i64 c, .int .i64 1, .int .i64 0, .int .i64 0, .string ⟨#[]⟩, .string ⟨#[]⟩, .slice none 0 0] 33)).heap.size; rw [World.size_alloc]; omega⟩)
      have HB2 : Hid (Below P U (U.alloc (.cells #[.int .i64 a, .int .i64 1, .int .i64 c, .int .i64 1, .int .i64 0, .int .i64 0, .string ⟨#[]⟩, .string ⟨#[]⟩, .slice none 0 0] 33)).drew) := hideC ((bel1 U _).drew.mono (by have := HS.out.1.1; omega))
      have HC0 := hideC hC0
      have HC1 : Hid (∀ W : World, W.heap[U.heap.size]? = some (.cells #[.int .i64 a, .int .i64 1, .int .i64 c, .int .i64 1, .int .i64 0, .int .i64 0, .string ⟨#[]⟩, .string ⟨#[]⟩, .slice none 0 0] 33) → W.cell? ⟨U.heap.size, 0, none⟩ = some (.int .i64 a) ∧ W.cell? ⟨U.heap.size, 1, none⟩ = some (.int .i64 1) ∧ W.cell? ⟨U.heap.size, 2, none⟩ = some (.int .i64 c) ∧ W.cell? ⟨U.heap.size, 3, none⟩ = some (.int .i64 1) ∧ W.cell? ⟨U.heap.size, 4, none⟩ = some (.int .i64 0) ∧ W.cell? ⟨U.heap.size, 5, none⟩ = some (.int .i64 0) ∧ W.cell? ⟨U.heap.size, 6, none⟩ = some (.string ⟨#[]⟩) ∧ W.cell? ⟨U.heap.size, 7, none⟩ = some (.string ⟨#[]⟩) ∧ W.cell? ⟨U.heap.size, 8, none⟩ = some (.slice none 0 0)) := hideC (fun W h => by simp [World.cell?, h])
      have ⟨e0, e1, e2, e3, e4, e5, e6, e7, e8⟩ := HC1.out _ hC0
      clear hC0 c0 c1 c2 c3 c4 c5 c6 c7 c8
      generalize (U.alloc (.cells #[.int .i64 a, .int .i64 1, .int .i64 c, .int .i64 1, .int .i64 0, .int .i64 0, .string ⟨#[]⟩, .string ⟨#[]⟩, .slice none 0 0] 33)) = V2 at *
      unfold Cu.cells cueP at HLn
      simp only at HLn
      go_region_held3 (fun w' => w'.cell? ⟨U.heap.size, 0, none⟩ = some (.int .i64 a) ∧ w'.cell? ⟨U.heap.size, 1, none⟩ = some (.int .i64 1) ∧ w'.cell? ⟨U.heap.size, 2, none⟩ = some (.int .i64 c) ∧ w'.cell? ⟨U.heap.size, 3, none⟩ = some (.int .i64 1) ∧ w'.cell? ⟨U.heap.size, 4, none⟩ = some (.int .i64 0) ∧ w'.cell? ⟨U.heap.size, 5, none⟩ = some (.int .i64 0) ∧ w'.cell? ⟨U.heap.size, 6, none⟩ = some (.string ⟨#[]⟩) ∧ w'.cell? ⟨U.heap.size, 7, none⟩ = some (.string ⟨#[]⟩) ∧ w'.cell? ⟨U.heap.size, 8, none⟩ = some (.slice none 0 0)) (first | go_keep | assumption | exact k9) (first | (go_at_call 15; (with_reducible refine HLn.out.mono ?_); rintro e w5 ⟨rfl, hS5, hC5, b5⟩; have k9 := HC1.out w5 (hC5.trans HC0.out)))
      have b5' : Below P V w5 := (HS.out.2.1.trans HB2.out).trans b5
      clear e0 e1 e2 e3 e4 e5 e6 e7 e8 k9 HLn HC1
      have hrow := hS5.2.2.1
      have hll : (laneL i).length = i := by match i, hlt with | 0, _ => rfl | 1, _ => rfl | 2, _ => rfl
      rw [hll] at hrow
      have H5 := hideC (And.intro hS5 b5')
      clear hS5 b5' b5 hC5
      go_upto_region 12 with (at_builtin; refine wpList_append_lies _ rfl _ _ 37 rfl (P + 1) 3 i0 (.int .i64 0) 1 8 Try.underlying37 hi hz0 hz1 hz2 rfl (by decide) _ i (laneL i) rfl (hrow.alloc _) ⟨w5.heap.size, 0, none⟩ 1 1 [.int .i64 (laneN i)] rfl rfl (World.news_of_block (cs := #[.int .i64 (laneN i)]) (t := 3) (fr := (0, 0)) (World.alloc_heap_new w5 _)) (by simp [Value.oneCell']) (by omega) (by unfold maxLen; omega) (by omega) (by have := H5.out.1.1; simp; omega) (w5.heap.size + 1) (by simp) ?_; intro gg cap w6 hown6 hgrow6 hat6 hlt6)
      have hL1 : laneL i ++ [.int .i64 (laneN i)] = laneL (i + 1) ∧ (laneL (i + 1)).length = i + 1 := by match i, hlt with | 0, _ => exact ⟨rfl, rfl⟩ | 1, _ => exact ⟨rfl, rfl⟩ | 2, _ => exact ⟨rfl, rfl⟩
      rw [hL1.1] at hown6
      have HNw := hideC (And.intro (LnS.grow H5.out.1 (bel1 _ _) hgrow6 (by rw [hL1.2]; exact hown6) (by rw [World.size_alloc]; exact hat6)) (H5.out.2.trans (LnS.below H5.out.1 (bel1 _ _) hgrow6)))
      clear hown6 hgrow6 hat6 hlt6 hL1 hll hrow H5 HB2 HC0 HS
      obtain rfl | rfl | rfl : i = 0 ∨ i = 1 ∨ i = 2 := by omega
      all_goals
        simp only [manyN, laneN]
        go_wp2_with fail
        go_roundw
        case rel => exact ⟨_, by first | rfl | go_num, by omega, by first | rfl | go_num, HNw.out.1, HNw.out.2⟩
        case measure => decide
    · obtain rfl : i = 3 := by omega
      have H5 := hideC (And.intro hS (And.intro bw hb))
      clear hS hb bw
      go_wp2_with fail
      go_ret3
      refine ⟨u7, rfl, row_lowL H5.out.1.2.2.1 (by omega), H5.out.2.1⟩

end Go.Proofs.Ytpbedjabbehhgaa
