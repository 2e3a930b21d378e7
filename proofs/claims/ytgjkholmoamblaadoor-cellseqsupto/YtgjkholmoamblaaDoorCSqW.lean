/- The walk of CellSeqs: a sequence that is gone over again, left early, within itself. -/
import Derived.Test.YtgjkholmoamblaaDoorCSqS
import Derived.Test.YtgjkholmoamblaaDoorCellL
import Derived.Test.YtgjkholmoamblaaDoorCellK
import Derived.Test.YtgjkholmoamblaaDoorQuC
import Derived.Test.YtgjkholmoamblaaDoorCNe
import Derived.LoopNIn
import Derived.Laws.EntriesVeiled
namespace Go.Proofs.YtgjkholmoamblaaDoor
open Go.RowKit Go.Shelf
attribute [local go_sem] Oper.semAt_some

/-- A world that has grown out of A. -/
structure Grown (A : World) where
  V : World
  h : Below A.heap.size A V
instance (A : World) : Nonempty (Grown A) := ⟨⟨A, Below.refl _ _⟩⟩
theorem listC_at {W : World} {v : Value} {l : List Cl} (h : ListC W v l) : ∃ oa ca, v = .slice oa l.length ca ∧ ∀ i c, l[i]? = some c → ∃ g, oa = some ⟨g, 0, none⟩ ∧ g < W.heap.size ∧
    W.cell? ⟨g, i * 5, none⟩ = some (.int .i64 c.loc) ∧ W.cell? ⟨g, i * 5 + 1, none⟩ = some (.int .i64 c.len) ∧ W.cell? ⟨g, i * 5 + 2, none⟩ = some (.int .i64 c.fr) ∧ W.cell? ⟨g, i * 5 + 3, none⟩ = some (.int .i64 c.to) ∧ W.cell? ⟨g, i * 5 + 4, none⟩ = some (.int .i64 c.cells) := by
  rcases h with ⟨rfl, rfl⟩ | ⟨g, cap, rfl, h1, h2, h3, h4⟩
  · exact ⟨none, 0, rfl, fun i c h => by simp at h⟩
  · exact ⟨_, cap, rfl, fun i c h => ⟨g, rfl, h1, h4 i c h⟩⟩

/-- A loop of k rounds, told round by round. -/
theorem loop_turns {F : Fence} {n : Nat} {P : Program} {Q : Exit → Act → World → Prop} {a : Act} {w : World} {c : Code} (k : Nat) (Inv : Nat → Act → World → Prop) (h0 : Inv 0 a w)
    (hs : ∀ t, t < k → ∀ a w, Inv t a w → c.wpIn F n P (Exit.then (Inv (t + 1)) (fun _ _ _ => False)) a w) (he : ∀ a w, Inv k a w → c.wpIn F n P (Exit.then (fun _ _ => False) Q) a w) : (Code.loop c).wpIn F n P Q a w := by
  refine wpIn_loop_rounds (k + 1) ?_
  have key : ∀ j t a w, t + j = k → Inv t a w → Code.roundsIn F n P c Q (j + 1) a w := by
    intro j
    induction j with
    | zero =>
      intro t a w e h
      rw [roundsIn_succ]
      obtain rfl : t = k := by omega
      exact wpIn_mono (he a w h) (fun e a w h => by cases e <;> first | exact h.elim | exact h)
    | succ j ih =>
      intro t a w e h
      rw [roundsIn_succ]
      exact wpIn_mono (hs t (by omega) a w h) (fun e a w h => by cases e <;> first | exact ih (t + 1) _ _ (by omega) h | exact h.elim)
  exact key k 0 a w (by omega) h0

/-- Nothing is deferred at these marks. -/
def Marked (A : World) (b : Nat) (Ds : List Nat) : Prop := Ds.Nodup ∧ ∀ D, D ∈ Ds → b ≤ D ∧ A.heap[D]? = some (.deferred (some []))

theorem Marked.step {A X B : World} {b D : Nat} {Ds : List Nat} (h : Marked A b Ds) (hX : Below A.heap.size A X) (zX : X.heap.size = A.heap.size + 1) (hB : But (fun k => k = A.heap.size) X B) (hb : b ≤ X.heap.size) (hD : X.heap.size ≤ D) (hK : B.heap[D]? = some (.deferred (some []))) (o : Obj) : Marked (B.alloc o) b (D :: Ds) := by
  obtain ⟨hn, ha⟩ := h
  have hlt : ∀ E, E ∈ Ds → E < A.heap.size := fun E hE => (Array.getElem?_eq_some_iff.1 (ha E hE).2).1
  refine ⟨List.nodup_cons.2 ⟨fun hE => by have := hlt D hE; omega, hn⟩, fun E hE => ?_⟩
  rcases List.mem_cons.1 hE with rfl | hE
  · exact ⟨by omega, (Below.heap_alloc _ _ _ (Array.getElem?_eq_some_iff.1 hK).1).trans hK⟩
  · have hl := hlt E hE
    have hz := hB.size
    exact ⟨(ha E hE).1, (Below.heap_alloc _ _ _ (by omega)).trans ((hB.same E (by omega) (by omega)).trans ((hX.block E hl).trans (ha E hE).2))⟩

set_option maxRecDepth 100000 in
set_option maxHeartbeats 4000000 in
theorem lawSeqs_walk (s : ByteArray) (hs : s.size ≤ 1048576) (HR0 : ∀ w, Calls Tryd.prog 22 #[.string s] w fun e w' => ∃ v, e = .returned v ∧ ListC w' v (clusters s) ∧ Below w.heap.size w w')
    (HAS0 : ∀ (a b c d e : Int) (w : World), Calls Tryd.prog 24 #[.agg #[.int .i64 a, .int .i64 b, .int .i64 c, .int .i64 d, .int .i64 e]] w fun r w' => r = .returned (.agg #[.int .i64 a, .int .i64 b, .int .i64 c, .int .i64 d, .int .i64 e]) ∧ Below w.heap.size w w')
    (z : Int) (_ : -9223372036854775808 ≤ z) (_ : z ≤ 9223372036854775807) (N : Nat) (w : World) (hT : Tabs N w) :
    Calls Tryd.prog 9 #[.string s, .int .i64 z] w fun e w' => e = .returned (.bool true) ∧ Below w.heap.size w w' := by
  have HR := hideC HR0
  have HAS := hideC HAS0
  clear HR0 HAS0
  have hle := clusters_le s
  have hsq := seq_some
  refine (callsIn_wide (n := 30)).1 ?_
  refine callsIn_of_wp_marks Tryd.func9 rfl trivial ?_ rfl
  simp only [Tryd.ntmps9, List.size_toArray, List.length_cons, List.length_nil, Nat.reduceAdd, Nat.reduceSub, Array.replicate_succ, Array.replicate_zero, List.push_toArray, List.append_toArray, List.nil_append, List.cons_append]
  gi_wp2_with fail
  obtain ⟨V, hV⟩ : ∃ V, (w.alloc (.cells #[.int .i64 z] 3)).alloc (.cells #[.bool false] 4) = V := ⟨_, rfl⟩
  have b0 : Below w.heap.size w V := by rw [← hV]; exact ((Below.refl _ w).alloc (Nat.le_refl _) _).alloc (by simp) _
  have x0 : Boxed V w.heap.size 3 (.int .i64 z) := by rw [← hV]; exact (Boxed.new w 3 _).alloc _
  have x1 : Boxed V (w.heap.size + 1) 4 (.bool false) := by rw [← hV]; have := Boxed.new (w.alloc (.cells #[.int .i64 z] 3)) 4 (.bool false); rw [World.size_alloc] at this; exact this
  have z0 : V.heap.size = w.heap.size + 2 := by rw [← hV]; simp
  rw [hV]
  clear hV
  refine ⟨trivial, (callsIn_wide.2 (known_any N V (hT.below b0))).mono ?_⟩
  rintro e w1 ⟨rfl, c1⟩
  have b1 := b0.trans (c1.mono b0.size)
  have x0 : Boxed w1 w.heap.size 3 (.int .i64 z) := (c1.block _ (by omega)).trans x0
  have x1 : Boxed w1 (w.heap.size + 1) 4 (.bool false) := (c1.block _ (by omega)).trans x1
  have z1 : w.heap.size + 2 ≤ w1.heap.size := by have := c1.size; omega
  clear c1 b0 z0
  gi_wp2_with fail
  refine ⟨trivial, (callsIn_wide.2 (HR.out _)).mono ?_⟩
  rintro e w2 ⟨v, rfl, hrow, c2⟩
  obtain ⟨oa, ca, rfl, hca⟩ := listC_at hrow
  have HCA := hideC hca
  have b2 := b1.trans (c2.mono b1.size)
  have x0 : Boxed w2 w.heap.size 3 (.int .i64 z) := (c2.block _ (by omega)).trans x0
  have x1 : Boxed w2 (w.heap.size + 1) 4 (.bool false) := (c2.block _ (by omega)).trans x1
  have z2 : w.heap.size + 2 ≤ w2.heap.size := by have := c2.size; omega
  clear c2 b1 z1 hrow hca HR
  gi_wp2_with (refine ⟨trivial, ?_⟩; gi_at_call 23; refine (callsIn_wide.2 (clusters_mk _ _)).mono ?_; rintro e w' ⟨rfl, rfl⟩)
  obtain ⟨U, hU⟩ : ∃ U, (((w2.alloc (.cells #[.slice oa (clusters s).length ca] 49)).alloc (.cells #[.string s] 9)).alloc (.cells #[.func (.func 32) #[] #[.pointer (some ⟨w2.heap.size + 1, 0, none⟩)]] 52)).alloc (.cells #[.int .i64 0] 3) = U := ⟨_, rfl⟩
  have bU : Below w2.heap.size w2 U := by rw [← hU]; exact ((((Below.refl _ w2).alloc (Nat.le_refl _) _).alloc (by simp) _).alloc (by simp; omega) _).alloc (by simp; omega) _
  have y3 : Boxed U w2.heap.size 49 (.slice oa (clusters s).length ca) := by rw [← hU]; exact ((((Boxed.new w2 _ _).alloc _).alloc _).alloc _)
  have y2 : Boxed U (w2.heap.size + 1) 9 (.string s) := by rw [← hU]; have := Boxed.new (w2.alloc (.cells #[.slice oa (clusters s).length ca] 49)) 9 (.string s); rw [World.size_alloc] at this; exact (this.alloc _).alloc _
  have y4 : Boxed U (w2.heap.size + 1 + 1) 52 (.func (.func 32) #[] #[.pointer (some ⟨w2.heap.size + 1, 0, none⟩)]) := by
    rw [← hU]
    have := Boxed.new ((w2.alloc (.cells #[.slice oa (clusters s).length ca] 49)).alloc (.cells #[.string s] 9)) 52 (.func (.func 32) #[] #[.pointer (some ⟨w2.heap.size + 1, 0, none⟩)])
    rw [World.size_alloc, World.size_alloc] at this
    exact this.alloc _
  have y5 : Boxed U (w2.heap.size + 1 + 1 + 1) 3 (.int .i64 0) := by
    rw [← hU]
    have := Boxed.new (((w2.alloc (.cells #[.slice oa (clusters s).length ca] 49)).alloc (.cells #[.string s] 9)).alloc (.cells #[.func (.func 32) #[] #[.pointer (some ⟨w2.heap.size + 1, 0, none⟩)]] 52)) 3 (.int .i64 0)
    rw [World.size_alloc, World.size_alloc, World.size_alloc] at this
    exact this
  have y0 : Boxed U w.heap.size 3 (.int .i64 z) := (bU.block _ (by omega)).trans x0
  have y1 : Boxed U (w.heap.size + 1) 4 (.bool false) := (bU.block _ (by omega)).trans x1
  have zU : U.heap.size = w2.heap.size + 4 := by rw [← hU]; simp
  have HC : Hid (∀ i c, (clusters s)[i]? = some c → ∃ g, oa = some ⟨g, 0, none⟩ ∧ g < w2.heap.size ∧
      U.cell? ⟨g, i * 5, none⟩ = some (.int .i64 c.loc) ∧ U.cell? ⟨g, i * 5 + 1, none⟩ = some (.int .i64 c.len) ∧ U.cell? ⟨g, i * 5 + 2, none⟩ = some (.int .i64 c.fr) ∧ U.cell? ⟨g, i * 5 + 3, none⟩ = some (.int .i64 c.to) ∧ U.cell? ⟨g, i * 5 + 4, none⟩ = some (.int .i64 c.cells)) := fun i c h => by
    obtain ⟨g, e, hg, c0, c1, c2, c3, c4⟩ := HCA.out i c h
    exact ⟨g, e, hg, (bU.cell (p := ⟨g, _, none⟩) hg).trans c0, (bU.cell (p := ⟨g, _, none⟩) hg).trans c1, (bU.cell (p := ⟨g, _, none⟩) hg).trans c2, (bU.cell (p := ⟨g, _, none⟩) hg).trans c3, (bU.cell (p := ⟨g, _, none⟩) hg).trans c4⟩
  have b3 : Below w.heap.size w U := b2.trans (bU.mono b2.size)
  have hTU : Tabs N U := hT.below b3
  rw [hU]
  clear hU HCA bU b2 x0 x1
  refine loop_turns 3 (fun t a A => ∃ (kt : Nat) (v8 v20 v21 v22 v23 v24 v74 v75 v76 v77 v78 v79 v80 v81 v82 : Value) (Ds : List Nat), a = ⟨#[.string s, .int .i64 z, undef, .pointer (some ⟨w.heap.size, 0, none⟩), .pointer (some ⟨w.heap.size + 1, 0, none⟩), .pointer (some ⟨w2.heap.size, 0, none⟩), .pointer (some ⟨w2.heap.size + 1 + 1, 0, none⟩), .pointer (some ⟨kt, 0, none⟩), v8, undef, undef, undef, .bool true, .bool false, .string s, .slice oa (clusters s).length ca, .string s, .func (.func 32) #[] #[.pointer (some ⟨w2.heap.size + 1, 0, none⟩)], .func (.func 32) #[] #[.pointer (some ⟨w2.heap.size + 1, 0, none⟩)], .bool false, v20, v21, v22, v23, v24, undef, undef, undef, undef, undef, undef, undef, undef, undef, undef, undef, undef, undef, undef, undef, undef, undef, undef, undef, undef, undef, undef, undef, undef, undef, undef, undef, undef, undef, undef, undef, undef, undef, undef, undef, undef, undef, undef, undef, undef, undef, undef, undef, undef, undef, undef, undef, undef, undef, v74, v75, v76, v77, v78, v79, v80, v81, v82], Ds.map (fun D => { target := .collected D, args := #[] })⟩ ∧ Ds.length = t ∧ Marked A (w2.heap.size + 3) Ds ∧ w2.heap.size + 3 ≤ kt ∧ Boxed A kt 3 (.int .i64 t) ∧ Below (w2.heap.size + 3) U A) ?start ?step ?fin
  case start => exact ⟨w2.heap.size + 3, undef, undef, undef, undef, undef, undef, undef, undef, undef, undef, undef, undef, undef, undef, undef, [], rfl, rfl, ⟨List.nodup_nil, fun D h => by simp at h⟩, Nat.le_refl _, y5, Below.refl _ _⟩
  case fin =>
    rintro a A ⟨kt, v8, v20, v21, v22, v23, v24, v74, v75, v76, v77, v78, v79, v80, v81, v82, Ds, rfl, hDl, hDs, hkt, hbt, hUA⟩
    obtain ⟨D2, D1, D0, rfl⟩ : ∃ D2 D1 D0, Ds = [D2, D1, D0] := by
      match Ds, hDl with
      | [a, b, c], _ => exact ⟨a, b, c, rfl⟩
    have kt0 : A.cell? ⟨kt, 0, none⟩ = some (.int .i64 3) := hbt.cell
    have q1 : Boxed A (w.heap.size + 1) 4 (.bool false) := (hUA.block _ (by omega)).trans y1
    have k1 := q1.cell
    have f1 := q1.frozen
    obtain ⟨g2, h2⟩ := hDs.2 D2 (by simp)
    obtain ⟨g1, h1⟩ := hDs.2 D1 (by simp)
    obtain ⟨g0, h0⟩ := hDs.2 D0 (by simp)
    have hnd := hDs.1
    simp only [List.nodup_cons, List.mem_cons, List.not_mem_nil, or_false, not_or, not_false_eq_true, List.nodup_nil, and_true] at hnd
    obtain ⟨⟨hne1, hne0⟩, hne2⟩ := hnd
    have bA : Below w.heap.size w A := b3.trans (hUA.mono (by omega))
    have HN := hideC (And.intro h0 (And.intro h1 (And.intro h2 (And.intro hne1 (And.intro hne0 hne2)))))
    clear h0 h1 h2 hne1 hne0 hne2
    simp only [List.map_cons, List.map_nil]
    gi_wp2
    obtain ⟨n0, n1, n2, hne1, hne0, hne2⟩ := HN.out
    have l0 : (A.setCell ⟨w.heap.size + 1, 0, none⟩ (.bool true)).heap[D0]? = some (.deferred (some [])) := (Below.heap_setCell _ _ _ _ (by show D0 ≠ w.heap.size + 1; omega)).trans n0
    have l1 : (A.setCell ⟨w.heap.size + 1, 0, none⟩ (.bool true)).heap[D1]? = some (.deferred (some [])) := (Below.heap_setCell _ _ _ _ (by show D1 ≠ w.heap.size + 1; omega)).trans n1
    have l2 : (A.setCell ⟨w.heap.size + 1, 0, none⟩ (.bool true)).heap[D2]? = some (.deferred (some [])) := (Below.heap_setCell _ _ _ _ (by show D2 ≠ w.heap.size + 1; omega)).trans n2
    refine ⟨by simp, .inl ⟨_, _, rfl, run_takeDeferred l2, ?_⟩⟩
    refine ⟨by simp, .inl ⟨_, _, rfl, run_takeDeferred ((World.putObj_heap_other (Ne.symm hne1)).trans l1), ?_⟩⟩
    refine ⟨by simp, .inl ⟨_, _, rfl, run_takeDeferred ((World.putObj_heap_other (Ne.symm hne2)).trans ((World.putObj_heap_other (Ne.symm hne0)).trans l0)), ?_⟩⟩
    have z0 : ((((A.setCell ⟨w.heap.size + 1, 0, none⟩ (.bool true)).putObj D2 (.deferred none)).putObj D1 (.deferred none)).putObj D0 (.deferred none)).cell? ⟨w.heap.size + 1, 0, none⟩ = some (.bool true) :=
      (World.cell?_of_block ((World.putObj_heap_other (by show w.heap.size + 1 ≠ D0; omega)).trans ((World.putObj_heap_other (by show w.heap.size + 1 ≠ D1; omega)).trans (World.putObj_heap_other (by show w.heap.size + 1 ≠ D2; omega))))).trans (Boxed.set (.bool true) q1).cell
    refine ⟨.bool true, by simp [results, Tryd.f9, go_sem, z0], rfl, ?_⟩
    exact (((bA.setCell (p := ⟨w.heap.size + 1, 0, none⟩) (by simp) _).trans ((putObj_belowL _ _ _).mono (by omega))).trans ((putObj_belowL _ _ _).mono (by omega))).trans ((putObj_belowL _ _ _).mono (by omega))
  case step =>
    rintro t ht a A ⟨kt, v8, v20, v21, v22, v23, v24, v74, v75, v76, v77, v78, v79, v80, v81, v82, Ds, rfl, hDl, hDs, hkt, hbt, hUA⟩
    have n0 := hT.room
    have kt0 := hbt.cell
    have t3 : (t : Int) < 3 := by omega
    have y4' : Boxed A (w2.heap.size + 1 + 1) 52 (.func (.func 32) #[] #[.pointer (some ⟨w2.heap.size + 1, 0, none⟩)]) := (hUA.block _ (by omega)).trans y4
    have k4 := (Boxed.alloc y4' (.cells #[.int .i64 0] 3)).cell
    have zA : w2.heap.size + 4 ≤ A.heap.size := by have := hUA.size; omega
    have hkA := hbt.lt
    gi_wp2
    obtain ⟨X, hX⟩ : ∃ X, A.alloc (.cells #[.int .i64 0] 3) = X := ⟨_, rfl⟩
    have c6 : Boxed X A.heap.size 3 (.int .i64 0) := by rw [← hX]; exact Boxed.new A 3 _
    have bX : Below A.heap.size A X := by rw [← hX]; exact (Below.refl _ A).alloc (Nat.le_refl _) _
    have zX : X.heap.size = A.heap.size + 1 := by rw [← hX, World.size_alloc]
    rw [hX]
    clear hX k4 kt0
    have hUX : Below (w2.heap.size + 3) U X := hUA.trans (bX.mono (by omega))
    refine rangeFunc_boxS (α := Cl) (by omega) (gf := 32) (lb := #[.pointer (some ⟨w2.heap.size + 1, 0, none⟩)]) rfl (enters_of Tryd.func32 (by kernel_rfl) rfl)
      (clus_seqS (30 - 1) (w2.heap.size + 1) N (by omega) s (by omega) X (by omega) ((hUX.cell (p := ⟨w2.heap.size + 1, 0, none⟩) (by show w2.heap.size + 1 < w2.heap.size + 3; omega)).trans y2.cell) (hT.below (b3.trans (hUX.mono (by omega))))) (fun _ => rfl) (fun k => k = A.heap.size) (fun k e => ⟨by omega, by omega, by omega⟩)
      (fun pre B => Boxed B A.heap.size 3 (.int .i64 pre.length)) (fun c pre B => c = .exit 2 ∧ t = 0 ∧ Boxed B A.heap.size 3 (.int .i64 pre.length))
      (fun pre B C h hk => (hk.same _ h.lt (.inl (by omega))).trans h) (fun _ pre B C h hk => ⟨h.1, h.2.1, (hk.same _ h.2.2.lt (.inl (by omega))).trans h.2.2⟩) c6 ?round ?done ?stop
    case round =>
      rintro l pre x W K hl1 hl2 hl3 hl4 hBW hi hpx hK
      simp only [Cl.val]
      gi_wp2
      refine hK _ _ ((Below.refl _ _).alloc (Nat.le_refl _) _) ?_
      intro W2 hbl hz2 hB2 hi2 hr
      have hpl : pre.length < (clusters s).length := by have := hpx.length_le; simp at this; omega
      have hxe : (clusters s)[pre.length]? = some x := by
        obtain ⟨tl, htl⟩ := hpx
        rw [← htl]; simp
      have hz5 : W.heap.size < W2.heap.size := by rw [hz2, World.size_alloc]; omega
      have hg5 : W2.heap[W.heap.size]? = some (.cells #[.int .i64 x.loc, .int .i64 x.len, .int .i64 x.fr, .int .i64 x.to, .int .i64 x.cells] 34) := (hbl.same W.heap.size (by rw [World.size_alloc]; omega) (by omega)).trans (World.alloc_heap_new W _)
      have hlow : ∀ b, b < w2.heap.size + 3 → W2.heap[b]? = U.heap[b]? := fun b hb => (hB2.same b (by omega) (by omega)).trans (hUX.block b hb)
      have q3 : Boxed W2 w2.heap.size 49 (.slice oa (clusters s).length ca) := (hlow _ (by omega)).trans y3
      obtain ⟨g, hoa, hg1, d0, d1, d2, d3, d4⟩ := HC.out pre.length x hxe
      subst hoa
      have hgb : W2.heap[g]? = U.heap[g]? := hlow g (by omega)
      have HF : Hid (∀ V, Below W2.heap.size W2 V → (V.cell? ⟨A.heap.size, 0, none⟩ = some (.int .i64 pre.length) ∧ V.cell? ⟨w2.heap.size, 0, none⟩ = some (.slice (some ⟨g, 0, none⟩) (clusters s).length ca)) ∧
          (V.cell? ⟨W.heap.size, 0, none⟩ = some (.int .i64 x.loc) ∧ V.cell? ⟨W.heap.size, 1, none⟩ = some (.int .i64 x.len) ∧ V.cell? ⟨W.heap.size, 2, none⟩ = some (.int .i64 x.fr) ∧ V.cell? ⟨W.heap.size, 3, none⟩ = some (.int .i64 x.to) ∧ V.cell? ⟨W.heap.size, 4, none⟩ = some (.int .i64 x.cells)) ∧
          V.cell? ⟨g, pre.length * 5, none⟩ = some (.int .i64 x.loc) ∧ V.cell? ⟨g, pre.length * 5 + 1, none⟩ = some (.int .i64 x.len) ∧ V.cell? ⟨g, pre.length * 5 + 2, none⟩ = some (.int .i64 x.fr) ∧ V.cell? ⟨g, pre.length * 5 + 3, none⟩ = some (.int .i64 x.to) ∧ V.cell? ⟨g, pre.length * 5 + 4, none⟩ = some (.int .i64 x.cells)) := fun V hV => by
        have e1 : V.heap[W.heap.size]? = _ := (hV.block _ hz5).trans hg5
        have e2 : V.heap[g]? = U.heap[g]? := (hV.block _ (by omega)).trans hgb
        refine ⟨⟨(hV.cell (p := ⟨A.heap.size, 0, none⟩) (by show A.heap.size < _; omega)).trans hi2.cell, (hV.cell (p := ⟨w2.heap.size, 0, none⟩) (by show w2.heap.size < _; omega)).trans q3.cell⟩, ⟨?_, ?_, ?_, ?_, ?_⟩, (World.cell?_of_block e2).trans d0, (World.cell?_of_block e2).trans d1, (World.cell?_of_block e2).trans d2, (World.cell?_of_block e2).trans d3, (World.cell?_of_block e2).trans d4⟩ <;> simp [World.cell?, e1]
      have hdj : decide (((clusters s).length : Int) ≤ (pre.length : Int)) = false := by simp; omega
      have hdk : decide ((clusters s).length ≤ pre.length) = false := by simp; omega
      have hpi : (pre.length : Int) < ((clusters s).length : Int) := by omega
      have hmx : Tryd.prog.follows .mixedOrders = true := by kernel_rfl
      clear hK d0 d1 d2 d3 d4 hgb hg5
      gi_wp2
      have hf0 : ∀ q : Grown W2, q.V.cell? ⟨A.heap.size, 0, none⟩ = some (.int .i64 pre.length) := fun q => (HF.out _ q.h).1.1
      have hf1 : ∀ q : Grown W2, q.V.cell? ⟨w2.heap.size, 0, none⟩ = some (.slice (some ⟨g, 0, none⟩) (clusters s).length ca) := fun q => (HF.out _ q.h).1.2
      have e0 : ∀ q : Grown W2, q.V.cell? ⟨W.heap.size, 0, none⟩ = some (.int .i64 x.loc) := fun q => (HF.out _ q.h).2.1.1
      have e1 : ∀ q : Grown W2, q.V.cell? ⟨W.heap.size, 1, none⟩ = some (.int .i64 x.len) := fun q => (HF.out _ q.h).2.1.2.1
      have e2 : ∀ q : Grown W2, q.V.cell? ⟨W.heap.size, 2, none⟩ = some (.int .i64 x.fr) := fun q => (HF.out _ q.h).2.1.2.2.1
      have e3 : ∀ q : Grown W2, q.V.cell? ⟨W.heap.size, 3, none⟩ = some (.int .i64 x.to) := fun q => (HF.out _ q.h).2.1.2.2.2.1
      have e4 : ∀ q : Grown W2, q.V.cell? ⟨W.heap.size, 4, none⟩ = some (.int .i64 x.cells) := fun q => (HF.out _ q.h).2.1.2.2.2.2
      have d0 : ∀ q : Grown W2, q.V.cell? ⟨g, pre.length * 5, none⟩ = some (.int .i64 x.loc) := fun q => (HF.out _ q.h).2.2.1
      have d1 : ∀ q : Grown W2, q.V.cell? ⟨g, pre.length * 5 + 1, none⟩ = some (.int .i64 x.len) := fun q => (HF.out _ q.h).2.2.2.1
      have d2 : ∀ q : Grown W2, q.V.cell? ⟨g, pre.length * 5 + 2, none⟩ = some (.int .i64 x.fr) := fun q => (HF.out _ q.h).2.2.2.2.1
      have d3 : ∀ q : Grown W2, q.V.cell? ⟨g, pre.length * 5 + 3, none⟩ = some (.int .i64 x.to) := fun q => (HF.out _ q.h).2.2.2.2.2.1
      have d4 : ∀ q : Grown W2, q.V.cell? ⟨g, pre.length * 5 + 4, none⟩ = some (.int .i64 x.cells) := fun q => (HF.out _ q.h).2.2.2.2.2.2
      have hne := clus_same x.loc x.len x.fr x.to x.cells
      have HS := hideC (HAS.out x.loc x.len x.fr x.to x.cells)
      refine region_calm_round l (by rfl) hmx (by kernel_rfl) (fun V => ∃ q : Grown W2, V = q.V) ⟨⟨W2.drewN 1, by exact ⟨rfl, rfl, rfl, Nat.le_refl _, fun _ _ => rfl⟩⟩, rfl⟩ ?_
      repeat (gi_big_quiet_step (fail))
      refine BigFrame.wpQuietIn_want (fun _ _ _ _ => trivial) rfl (fun K hK => ?_)
      gi_big_quiet_op
      refine ⟨.agg #[.int .i64 x.loc, .int .i64 x.len, .int .i64 x.fr, .int .i64 x.to, .int .i64 x.cells], fun q => ?_, hK _ ?_⟩
      · refine (callsIn_wide.2 (HS.out _)).mono ?_
        rintro e V ⟨rfl, hV⟩
        exact ⟨rfl, ⟨V, q.h.trans (hV.mono q.h.size)⟩, rfl⟩
      repeat (gi_big_quiet_step (fail))
      refine wpQuietIn_nil ?_
      rintro W3 ⟨⟨V3, hb3⟩, hv3⟩
      have hv3 : W3 = V3 := hv3
      subst hv3
      have hz3 := hb3.size
      have q6 : Boxed W3 A.heap.size 3 (.int .i64 pre.length) := (hb3.block _ (by omega)).trans hi2
      have qt : Boxed W3 kt 3 (.int .i64 t) := (hb3.block _ (by omega)).trans ((hB2.same _ (by omega) (by omega)).trans ((bX.block _ (by omega)).trans hbt))
      have hlow3 : ∀ b, b < w2.heap.size + 3 → W3.heap[b]? = U.heap[b]? := fun b hb => (hb3.block b (by omega)).trans (hlow b hb)
      have q0 : Boxed W3 w.heap.size 3 (.int .i64 z) := (hlow3 _ (by omega)).trans y0
      have hr3 : ∃ r, W3.heap[l]? = some (.loop r) := by obtain ⟨r, hr⟩ := hr; exact ⟨r, (hb3.block _ (by omega)).trans hr⟩
      have hbW3 : But (fun k => k = A.heap.size ∨ X.heap.size + 2 + 2 ≤ k) W2 W3 := ⟨hb3.os, hb3.tape, hb3.output, hb3.size, fun k hk _ => hb3.block k hk⟩
      clear hf0 hf1 e0 e1 e2 e3 e4 d0 d1 d2 d3 d4 hne HS HF hdj hdk hlow hr
      have hni : (pre.length : Int) + 1 = ((pre ++ [x]).length : Nat) := by simp
      have hnb : (pre ++ [x]).length ≤ 1048576 := by simp; omega
      have FIN : Hid ((∀ a, boxPost (X.heap.size + 2 + 2) (fun k => k = A.heap.size) (fun (pre : List Cl) B => Boxed B A.heap.size 3 (.int .i64 pre.length)) (fun c pre B => c = .exit 2 ∧ t = 0 ∧ Boxed B A.heap.size 3 (.int .i64 pre.length)) (pre ++ [x]) W2 .normal a (W3.setCell ⟨A.heap.size, 0, none⟩ (.int .i64 (pre ++ [x]).length))) ∧
          (t = 0 → ∀ a, boxPost (X.heap.size + 2 + 2) (fun k => k = A.heap.size) (fun (pre : List Cl) B => Boxed B A.heap.size 3 (.int .i64 pre.length)) (fun c pre B => c = .exit 2 ∧ t = 0 ∧ Boxed B A.heap.size 3 (.int .i64 pre.length)) (pre ++ [x]) W2 (.exit 2) a (W3.setCell ⟨A.heap.size, 0, none⟩ (.int .i64 (pre ++ [x]).length)))) :=
        ⟨fun _ => ⟨hbW3.setCell (p := ⟨A.heap.size, 0, none⟩) (.inl rfl) _, Boxed.set _ q6⟩, fun h _ => ⟨hbW3.setCell (p := ⟨A.heap.size, 0, none⟩) (.inl rfl) _, rfl, h, Boxed.set _ q6⟩⟩
      have hkne : kt ≠ A.heap.size := by omega
      by_cases hin : t = 1 ∧ pre.length < 3
      · obtain ⟨h1, hk3⟩ := hin
        have tq1 : ((t : Int) == 1) = true := by rw [beq_iff_eq]; omega
        have tq0 : ((t : Int) == 0) = false := by rw [beq_eq_false_iff_ne]; omega
        have tk : (pre.length : Int) < 3 := by omega
        have k6 := q6.cell
        have kt1 := qt.cell
        have p2 : Boxed (W3.alloc (.cells #[.int .i64 0] 3)) (w2.heap.size + 1) 9 (.string s) := Boxed.alloc ((hlow3 _ (by omega)).trans y2) _
        have p3 : Boxed (W3.alloc (.cells #[.int .i64 0] 3)) w2.heap.size 49 (.slice (some ⟨g, 0, none⟩) (clusters s).length ca) := Boxed.alloc ((hlow3 _ (by omega)).trans y3) _
        have p4 : Boxed (W3.alloc (.cells #[.int .i64 0] 3)) (w2.heap.size + 1 + 1) 52 (.func (.func 32) #[] #[.pointer (some ⟨w2.heap.size + 1, 0, none⟩)]) := Boxed.alloc ((hlow3 _ (by omega)).trans y4) _
        have p0 : Boxed (W3.alloc (.cells #[.int .i64 0] 3)) w.heap.size 3 (.int .i64 z) := q0.alloc _
        have p6 : Boxed (W3.alloc (.cells #[.int .i64 0] 3)) A.heap.size 3 (.int .i64 pre.length) := q6.alloc _
        have pt : Boxed (W3.alloc (.cells #[.int .i64 0] 3)) kt 3 (.int .i64 t) := qt.alloc _
        have p7 : Boxed (W3.alloc (.cells #[.int .i64 0] 3)) W3.heap.size 3 (.int .i64 0) := Boxed.new W3 3 _
        obtain ⟨r0, hr0⟩ := hr3
        have hr4 : (W3.alloc (.cells #[.int .i64 0] 3)).heap[l]? = some (.loop r0) := (Below.heap_alloc _ _ _ (by omega)).trans hr0
        have hb5 : But (fun k => k = A.heap.size ∨ X.heap.size + 2 + 2 ≤ k) W2 (W3.alloc (.cells #[.int .i64 0] 3)) := hbW3.alloc _
        have hlow4 : ∀ b, b < w2.heap.size + 3 → (W3.alloc (.cells #[.int .i64 0] 3)).heap[b]? = U.heap[b]? := fun b hb => (Below.heap_alloc _ _ _ (by omega)).trans (hlow3 b hb)
        have hb6 : Below w.heap.size w (W3.alloc (.cells #[.int .i64 0] 3)) := (b3.trans ((hUX.mono (by omega)).trans ((hB2.below (by omega) (fun k e => by omega)).trans (hb3.mono (by omega))))).alloc (by omega) _
        have hzX : (W3.alloc (.cells #[.int .i64 0] 3)).heap.size = W3.heap.size + 1 := World.size_alloc _ _
        have k4 := p4.cell
        have HY := hideC (And.intro p2 (And.intro p3 (And.intro p0 (And.intro p6 (And.intro pt (And.intro p7 (And.intro hr4 (And.intro hb5 (And.intro hlow4 (And.intro hb6 hzX))))))))))
        clear p2 p3 p0 p6 pt p7 hr4 hb5 hlow4 hb6 hzX hr0 hk3 p4 FIN
        gi_wp2
        obtain ⟨p2, p3, p0, p6, pt, p7, hr4, hb5, hlow4, hb6, hzX⟩ := HY.out
        clear HY k4 k6 kt1
        generalize W3.alloc (.cells #[.int .i64 0] 3) = Y at *
        have HF : Hid (∀ Z, But (fun k => k = W3.heap.size) Y Z → (Boxed Z A.heap.size 3 (.int .i64 pre.length) ∧ Boxed (Z.setCell ⟨A.heap.size, 0, none⟩ (.int .i64 (pre ++ [x]).length)) kt 3 (.int .i64 t)) ∧
            ∀ a, boxPost (X.heap.size + 2 + 2) (fun k => k = A.heap.size) (fun (pre : List Cl) B => Boxed B A.heap.size 3 (.int .i64 pre.length)) (fun c pre B => c = .exit 2 ∧ t = 0 ∧ Boxed B A.heap.size 3 (.int .i64 pre.length)) (pre ++ [x]) W2 .normal a (Z.setCell ⟨A.heap.size, 0, none⟩ (.int .i64 (pre ++ [x]).length))) := fun Z hZ => by
          have q6 : Boxed Z A.heap.size 3 (.int .i64 pre.length) := (hZ.same _ p6.lt (by omega)).trans p6
          have qt : Boxed Z kt 3 (.int .i64 t) := (hZ.same _ pt.lt (by omega)).trans pt
          exact ⟨⟨q6, Boxed.other qt (by omega) _⟩, fun _ => ⟨(hb5.trans (hZ.mono (fun k _ e => .inr (by omega)))).setCell (p := ⟨A.heap.size, 0, none⟩) (.inl rfl) _, Boxed.set _ q6⟩⟩
        refine rangeFunc_boxN (α := Cl) hr4 (by omega) (gf := 32) (lb := #[.pointer (some ⟨w2.heap.size + 1, 0, none⟩)]) rfl (enters_of Tryd.func32 (by kernel_rfl) rfl)
          (clus_seqS (28 - 1) (w2.heap.size + 1) N (by omega) s (by omega) Y (by omega) p2.cell (hT.below hb6)) (fun _ => rfl) (fun k => k = W3.heap.size) (fun k e => ⟨by omega, by omega, by omega⟩)
          (fun pre' B => Boxed B W3.heap.size 3 (.int .i64 pre'.length)) (fun c _ _ => c = .exit 4)
          (fun pre' B C h hk => (hk.same _ h.lt (.inl (by omega))).trans h) (fun _ _ _ _ h _ => h) p7 ?round2 ?done2 ?stop2
        case done2 =>
          intro Z _ hZ
          obtain ⟨⟨q6, rt⟩, F⟩ := HF.out Z hZ
          have HF2 := hideC F
          have k6 := q6.cell
          have f6 := q6.frozen
          have mt := rt.cell
          clear HF F
          generalize (pre ++ [x]).length = N2 at *
          gi_wp2
          exact HF2.out _
        case stop2 =>
          rintro c pre' Z _ rfl hZ
          obtain ⟨⟨q6, rt⟩, F⟩ := HF.out Z hZ
          have HF2 := hideC F
          have k6 := q6.cell
          have f6 := q6.frozen
          have mt := rt.cell
          clear HF F
          generalize (pre ++ [x]).length = N2 at *
          gi_wp2
          exact HF2.out _
        case round2 =>
          clear HF
          rintro l2 pre2 x2 V2 K hm1 hm2 hm3 hm4 _ _ hpx2 hK
          simp only [Cl.val]
          gi_wp2
          refine hK _ _ ((Below.refl _ _).alloc (Nat.le_refl _) _) ?_
          intro Z hbl2 hzZ hBZ hi3 _
          have hpl2 : pre2.length < (clusters s).length := by have := hpx2.length_le; simp at this; omega
          have hxe2 : (clusters s)[pre2.length]? = some x2 := by
            obtain ⟨tl, htl⟩ := hpx2
            rw [← htl]; simp
          have hz6 : V2.heap.size < Z.heap.size := by rw [hzZ, World.size_alloc]; omega
          have hg5 : Z.heap[V2.heap.size]? = some (.cells #[.int .i64 x2.loc, .int .i64 x2.len, .int .i64 x2.fr, .int .i64 x2.to, .int .i64 x2.cells] 34) := (hbl2.same V2.heap.size (by rw [World.size_alloc]; omega) (by omega)).trans (World.alloc_heap_new V2 _)
          have hlow5 : ∀ b, b < w2.heap.size + 3 → Z.heap[b]? = U.heap[b]? := fun b hb => (hBZ.same b (by omega) (by omega)).trans (hlow4 b hb)
          have s3 : Boxed Z w2.heap.size 49 (.slice (some ⟨g, 0, none⟩) (clusters s).length ca) := (hlow5 _ (by omega)).trans y3
          have s0 : Boxed Z w.heap.size 3 (.int .i64 z) := (hlow5 _ (by omega)).trans y0
          obtain ⟨g', hge, hg2, d0, d1, d2, d3, d4⟩ := HC.out pre2.length x2 hxe2
          obtain rfl : g = g' := by simpa using hge
          have hgb : Z.heap[g]? = U.heap[g]? := hlow5 g (by omega)
          have HF : Hid (∀ V, Below Z.heap.size Z V → (V.cell? ⟨W3.heap.size, 0, none⟩ = some (.int .i64 pre2.length) ∧ V.cell? ⟨w2.heap.size, 0, none⟩ = some (.slice (some ⟨g, 0, none⟩) (clusters s).length ca)) ∧
              (V.cell? ⟨V2.heap.size, 0, none⟩ = some (.int .i64 x2.loc) ∧ V.cell? ⟨V2.heap.size, 1, none⟩ = some (.int .i64 x2.len) ∧ V.cell? ⟨V2.heap.size, 2, none⟩ = some (.int .i64 x2.fr) ∧ V.cell? ⟨V2.heap.size, 3, none⟩ = some (.int .i64 x2.to) ∧ V.cell? ⟨V2.heap.size, 4, none⟩ = some (.int .i64 x2.cells)) ∧
              V.cell? ⟨g, pre2.length * 5, none⟩ = some (.int .i64 x2.loc) ∧ V.cell? ⟨g, pre2.length * 5 + 1, none⟩ = some (.int .i64 x2.len) ∧ V.cell? ⟨g, pre2.length * 5 + 2, none⟩ = some (.int .i64 x2.fr) ∧ V.cell? ⟨g, pre2.length * 5 + 3, none⟩ = some (.int .i64 x2.to) ∧ V.cell? ⟨g, pre2.length * 5 + 4, none⟩ = some (.int .i64 x2.cells)) := fun V hV => by
            have e1 : V.heap[V2.heap.size]? = _ := (hV.block _ hz6).trans hg5
            have e2 : V.heap[g]? = U.heap[g]? := (hV.block _ (by omega)).trans hgb
            refine ⟨⟨(hV.cell (p := ⟨W3.heap.size, 0, none⟩) (by show W3.heap.size < _; omega)).trans hi3.cell, (hV.cell (p := ⟨w2.heap.size, 0, none⟩) (by show w2.heap.size < _; omega)).trans s3.cell⟩, ⟨?_, ?_, ?_, ?_, ?_⟩, (World.cell?_of_block e2).trans d0, (World.cell?_of_block e2).trans d1, (World.cell?_of_block e2).trans d2, (World.cell?_of_block e2).trans d3, (World.cell?_of_block e2).trans d4⟩ <;> simp [World.cell?, e1]
          have hdj : decide (((clusters s).length : Int) ≤ (pre2.length : Int)) = false := by simp; omega
          have hdk : decide ((clusters s).length ≤ pre2.length) = false := by simp; omega
          have hpi2 : (pre2.length : Int) < ((clusters s).length : Int) := by omega
          clear hK d0 d1 d2 d3 d4 hgb hg5 hge
          gi_wp2
          have hf0 : ∀ q : Grown Z, q.V.cell? ⟨W3.heap.size, 0, none⟩ = some (.int .i64 pre2.length) := fun q => (HF.out _ q.h).1.1
          have hf1 : ∀ q : Grown Z, q.V.cell? ⟨w2.heap.size, 0, none⟩ = some (.slice (some ⟨g, 0, none⟩) (clusters s).length ca) := fun q => (HF.out _ q.h).1.2
          have e0 : ∀ q : Grown Z, q.V.cell? ⟨V2.heap.size, 0, none⟩ = some (.int .i64 x2.loc) := fun q => (HF.out _ q.h).2.1.1
          have e1 : ∀ q : Grown Z, q.V.cell? ⟨V2.heap.size, 1, none⟩ = some (.int .i64 x2.len) := fun q => (HF.out _ q.h).2.1.2.1
          have e2 : ∀ q : Grown Z, q.V.cell? ⟨V2.heap.size, 2, none⟩ = some (.int .i64 x2.fr) := fun q => (HF.out _ q.h).2.1.2.2.1
          have e3 : ∀ q : Grown Z, q.V.cell? ⟨V2.heap.size, 3, none⟩ = some (.int .i64 x2.to) := fun q => (HF.out _ q.h).2.1.2.2.2.1
          have e4 : ∀ q : Grown Z, q.V.cell? ⟨V2.heap.size, 4, none⟩ = some (.int .i64 x2.cells) := fun q => (HF.out _ q.h).2.1.2.2.2.2
          have d0 : ∀ q : Grown Z, q.V.cell? ⟨g, pre2.length * 5, none⟩ = some (.int .i64 x2.loc) := fun q => (HF.out _ q.h).2.2.1
          have d1 : ∀ q : Grown Z, q.V.cell? ⟨g, pre2.length * 5 + 1, none⟩ = some (.int .i64 x2.len) := fun q => (HF.out _ q.h).2.2.2.1
          have d2 : ∀ q : Grown Z, q.V.cell? ⟨g, pre2.length * 5 + 2, none⟩ = some (.int .i64 x2.fr) := fun q => (HF.out _ q.h).2.2.2.2.1
          have d3 : ∀ q : Grown Z, q.V.cell? ⟨g, pre2.length * 5 + 3, none⟩ = some (.int .i64 x2.to) := fun q => (HF.out _ q.h).2.2.2.2.2.1
          have d4 : ∀ q : Grown Z, q.V.cell? ⟨g, pre2.length * 5 + 4, none⟩ = some (.int .i64 x2.cells) := fun q => (HF.out _ q.h).2.2.2.2.2.2
          have hne := clus_same x2.loc x2.len x2.fr x2.to x2.cells
          have HS := hideC (HAS.out x2.loc x2.len x2.fr x2.to x2.cells)
          refine region_calm_round l2 (by rfl) hmx (by kernel_rfl) (fun V => ∃ q : Grown Z, V = q.V) ⟨⟨Z.drewN 1, by exact ⟨rfl, rfl, rfl, Nat.le_refl _, fun _ _ => rfl⟩⟩, rfl⟩ ?_
          repeat (gi_big_quiet_step (fail))
          refine BigFrame.wpQuietIn_want (fun _ _ _ _ => trivial) rfl (fun K hK => ?_)
          gi_big_quiet_op
          refine ⟨.agg #[.int .i64 x2.loc, .int .i64 x2.len, .int .i64 x2.fr, .int .i64 x2.to, .int .i64 x2.cells], fun q => ?_, hK _ ?_⟩
          · refine (callsIn_wide.2 (HS.out _)).mono ?_
            rintro e V ⟨rfl, hV⟩
            exact ⟨rfl, ⟨V, q.h.trans (hV.mono q.h.size)⟩, rfl⟩
          repeat (gi_big_quiet_step (fail))
          refine wpQuietIn_nil ?_
          rintro Z3 ⟨⟨V3, hb7⟩, hv3⟩
          have hv3 : Z3 = V3 := hv3
          subst hv3
          have hz7 := hb7.size
          have q7 : Boxed Z3 W3.heap.size 3 (.int .i64 pre2.length) := (hb7.block _ (by omega)).trans hi3
          have u0 : Boxed Z3 w.heap.size 3 (.int .i64 z) := (hb7.block _ (by omega)).trans s0
          have hbZ3 : But (fun k => k = W3.heap.size ∨ Y.heap.size + 1 + 2 ≤ k) Z Z3 := ⟨hb7.os, hb7.tape, hb7.output, hb7.size, fun k hk _ => hb7.block k hk⟩
          clear hf0 hf1 e0 e1 e2 e3 e4 d0 d1 d2 d3 d4 hne HS HF hdj hdk
          have hn2' : (pre2.length : Int) + 1 = ((pre2 ++ [x2]).length : Nat) := by simp
          have hnb2 : (pre2 ++ [x2]).length ≤ 1048576 := by simp; omega
          have F1 : Hid ((∀ a, boxPost (Y.heap.size + 1 + 2) (fun k => k = W3.heap.size) (fun (pre' : List Cl) B => Boxed B W3.heap.size 3 (.int .i64 pre'.length)) (fun c _ _ => c = .exit 4) (pre2 ++ [x2]) Z .normal a (Z3.setCell ⟨W3.heap.size, 0, none⟩ (.int .i64 (pre2 ++ [x2]).length))) ∧ (∀ a, boxPost (Y.heap.size + 1 + 2) (fun k => k = W3.heap.size) (fun (pre' : List Cl) B => Boxed B W3.heap.size 3 (.int .i64 pre'.length)) (fun c _ _ => c = .exit 4) (pre2 ++ [x2]) Z (.exit 4) a (Z3.setCell ⟨W3.heap.size, 0, none⟩ (.int .i64 (pre2 ++ [x2]).length)))) :=
            ⟨fun _ => ⟨hbZ3.setCell (p := ⟨W3.heap.size, 0, none⟩) (.inl rfl) _, Boxed.set _ q7⟩, fun _ => ⟨hbZ3.setCell (p := ⟨W3.heap.size, 0, none⟩) (.inl rfl) _, rfl⟩⟩
          have r7 : Boxed (Z3.setCell ⟨W3.heap.size, 0, none⟩ (.int .i64 (pre2 ++ [x2]).length)) W3.heap.size 3 (.int .i64 (pre2 ++ [x2]).length) := Boxed.set _ q7
          have r0' : Boxed (Z3.setCell ⟨W3.heap.size, 0, none⟩ (.int .i64 (pre2 ++ [x2]).length)) w.heap.size 3 (.int .i64 z) := Boxed.other u0 (by omega) _
          have k7 := q7.cell
          have f7 := q7.frozen
          have m7 := r7.cell
          have m0 := r0'.cell
          clear q7 u0 r7 r0'
          by_cases hz : (((pre2 ++ [x2]).length : Nat) : Int) = z
          · have tz : ((((pre2 ++ [x2]).length : Nat) : Int) == z) = true := by rw [beq_iff_eq]; omega
            clear hz
            generalize (pre2 ++ [x2]).length = N2 at *
            gi_wp2
            exact F1.out.2 _
          · have tz : ((((pre2 ++ [x2]).length : Nat) : Int) == z) = false := by rw [beq_eq_false_iff_ne]; omega
            clear hz
            generalize (pre2 ++ [x2]).length = N2 at *
            gi_wp2
            exact F1.out.1 _
      · have r6 : Boxed (W3.setCell ⟨A.heap.size, 0, none⟩ (.int .i64 (pre ++ [x]).length)) A.heap.size 3 (.int .i64 (pre ++ [x]).length) := Boxed.set _ q6
        have rt : Boxed (W3.setCell ⟨A.heap.size, 0, none⟩ (.int .i64 (pre ++ [x]).length)) kt 3 (.int .i64 t) := Boxed.other qt (by omega) _
        have r0 : Boxed (W3.setCell ⟨A.heap.size, 0, none⟩ (.int .i64 (pre ++ [x]).length)) w.heap.size 3 (.int .i64 z) := Boxed.other q0 (by omega) _
        have k6 := q6.cell
        have f6 := q6.frozen
        have kt1 := qt.cell
        have m6 := r6.cell
        have mt := rt.cell
        have m0 := r0.cell
        clear q6 qt q0 r6 rt r0
        by_cases h1 : t = 1
        · have tq1 : ((t : Int) == 1) = true := by rw [beq_iff_eq]; omega
          have tq0 : ((t : Int) == 0) = false := by rw [beq_eq_false_iff_ne]; omega
          have tk : ¬ (pre.length : Int) < 3 := by omega
          have tk' : ¬ pre.length < 3 := by omega
          clear h1 hin
          generalize (pre ++ [x]).length = N2 at *
          gi_wp2
          exact FIN.out.1 _
        · have tq1 : ((t : Int) == 1) = false := by rw [beq_eq_false_iff_ne]; omega
          by_cases h0 : t = 0
          · have tq0 : ((t : Int) == 0) = true := by rw [beq_iff_eq]; omega
            have FI2 := hideC (FIN.out.2 h0)
            clear h1 h0 hin
            by_cases hz : (((pre ++ [x]).length : Nat) : Int) = z
            · have tz : ((((pre ++ [x]).length : Nat) : Int) == z) = true := by rw [beq_iff_eq]; omega
              clear hz
              generalize (pre ++ [x]).length = N2 at *
              gi_wp2
              exact FI2.out _
            · have tz : ((((pre ++ [x]).length : Nat) : Int) == z) = false := by rw [beq_eq_false_iff_ne]; omega
              clear hz
              generalize (pre ++ [x]).length = N2 at *
              gi_wp2
              exact FIN.out.1 _
          · have tq0 : ((t : Int) == 0) = false := by rw [beq_eq_false_iff_ne]; omega
            clear h1 h0 hin
            generalize (pre ++ [x]).length = N2 at *
            gi_wp2
            exact FIN.out.1 _
    case stop =>
      rintro D c pre B hD hpre ⟨rfl, h0, h⟩ hB hK
      have hzB := hB.size
      have qt : Boxed B kt 3 (.int .i64 t) := (hB.same _ (by omega) (by omega)).trans ((bX.block _ (by omega)).trans hbt)
      have kt1 := qt.cell
      have hs1 : (t : Int) + 1 = ((t + 1 : Nat) : Int) := by simp
      have HM := hideC (hDs.step bX zX hB (by omega) hD hK (.cells #[.int .i64 ((t + 1 : Nat) : Int)] 3))
      have HU : Hid (Below (w2.heap.size + 3) U (B.alloc (.cells #[.int .i64 ((t + 1 : Nat) : Int)] 3))) := (hUX.trans (hB.below (by omega) (fun k e => by omega))).alloc (by omega) _
      have tg : ¬ (0 : Int) < (t : Int) := by omega
      have tg' : ¬ 0 < t := by omega
      have tg2 : decide ((0 : Int) < (t : Int)) = false := by simp; omega
      clear h0
      generalize hT1 : ((t + 1 : Nat) : Int) = T1 at *
      gi_wp2
      subst hT1; refine ⟨_, ?_, ?_, ?_, ?_, ?_, ?_, ?_, ?_, ?_, ?_, ?_, ?_, ?_, ?_, ?_, D :: Ds, ?e1, by simp [hDl], HM.out, by omega, Boxed.new B 3 _, HU.out⟩; case e1 => first | rfl | (and_intros <;> rfl)
    case done =>
      rintro D B hD h hB hK
      have hzB := hB.size
      have qt : Boxed B kt 3 (.int .i64 t) := (hB.same _ (by omega) (by omega)).trans ((bX.block _ (by omega)).trans hbt)
      have kt1 := qt.cell
      have hs1 : (t : Int) + 1 = ((t + 1 : Nat) : Int) := by simp
      have HM := hideC (hDs.step bX zX hB (by omega) hD hK (.cells #[.int .i64 ((t + 1 : Nat) : Int)] 3))
      have HU : Hid (Below (w2.heap.size + 3) U (B.alloc (.cells #[.int .i64 ((t + 1 : Nat) : Int)] 3))) := (hUX.trans (hB.below (by omega) (fun k e => by omega))).alloc (by omega) _
      by_cases h0 : t = 0
      · have tg : ¬ (0 : Int) < (t : Int) := by omega
        have tg' : ¬ 0 < t := by omega
        have tg2 : decide ((0 : Int) < (t : Int)) = false := by simp; omega
        clear h0
        generalize hT1 : ((t + 1 : Nat) : Int) = T1 at *
        gi_wp2
        subst hT1; refine ⟨_, ?_, ?_, ?_, ?_, ?_, ?_, ?_, ?_, ?_, ?_, ?_, ?_, ?_, ?_, ?_, D :: Ds, ?e2, by simp [hDl], HM.out, by omega, Boxed.new B 3 _, HU.out⟩; case e2 => first | rfl | (and_intros <;> rfl)
      · have tg : (0 : Int) < (t : Int) := by omega
        have tg' : 0 < t := by omega
        have tg2 : decide ((0 : Int) < (t : Int)) = true := by simp; omega
        have q3 : Boxed B w2.heap.size 49 (.slice oa (clusters s).length ca) := (hB.same _ (by omega) (by omega)).trans ((hUX.block _ (by omega)).trans y3)
        have k3 := q3.cell
        have k6 := h.cell
        clear h0
        generalize hT1 : ((t + 1 : Nat) : Int) = T1 at *
        gi_wp2
        subst hT1; refine ⟨_, ?_, ?_, ?_, ?_, ?_, ?_, ?_, ?_, ?_, ?_, ?_, ?_, ?_, ?_, ?_, D :: Ds, ?e3, by simp [hDl], HM.out, by omega, Boxed.new B 3 _, HU.out⟩; case e3 => first | rfl | (and_intros <;> rfl)

end Go.Proofs.YtgjkholmoamblaaDoor
