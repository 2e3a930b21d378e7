/- StyleLooks holds of every text, every sign (P0702, P0703, P0710): the walk. -/
import Derived.RangeFuncBox
import Derived.OwnWalkIn
import Derived.Test.YthonbeonjjhmlaaDoorGN
import Derived.Test.YthonbeonjjhmlaaDoorGL
namespace Go.Proofs.YthonbeonjjhmlaaDoor
open Go.RowKit Go.Shelf
attribute [local go_sem] Oper.semAt_some

theorem front_spo9 {W : World} {B g c n : Nat} {D : List Sp} (h : W.ownsRow B 55 4 (.slice (some ⟨g, 0, none⟩) (n + 1) c) (n + 1) (flat4 (D ++ [mkS]))) (hn : D.length = n) : SpO W (some ⟨g, 0, none⟩) D ∧ B ≤ g ∧ (n ≤ c ∧ c ≤ maxLen) ∧ g < W.heap.size := by
  obtain ⟨o9, c9, e9, hc9, _, hsc, _⟩ := own_sc h (by simp [hn])
  obtain ⟨rfl, rfl⟩ : some (⟨g, 0, none⟩ : Addr) = o9 ∧ c = c9 := by simpa using e9
  obtain ⟨g9, e8, hBg, hSC⟩ := hsc _ rfl
  obtain rfl : g = g9 := by simpa using e8
  exact ⟨fun i p hp => hSC.spo i p (by rw [List.getElem?_append_left (List.getElem?_eq_some_iff.1 hp).1]; exact hp), hBg, ⟨by omega, hc9.2⟩, hSC.lt⟩
theorem own_keeps9 {A B : World} {m hi : Nat} {e : TypeId} {size : Nat} {v : Value} {n : Nat} {xs : List Value} (h : A.ownsRow hi e size v n xs) (hk : Keeps m hi A B) : B.ownsRow hi e size v n xs := by
  refine ⟨h.1, ?_⟩
  rcases h.2 with hn | ⟨g, cap, cur, rfl, hb, hgg, rest⟩
  · exact .inl hn
  · exact .inr ⟨g, cap, cur, rfl, hb, (hk.same g (Array.getElem?_eq_some_iff.1 hgg).1 (.inr hb)).trans hgg, rest⟩
/-- Two rows of elements of two types lie apart. -/
theorem own_apart {W : World} {b1 b2 : Nat} {e1 e2 : TypeId} {s1 s2 : Nat} {v1 v2 : Value} {n1 n2 : Nat} {x1 x2 : List Value} (h1 : W.ownsRow b1 e1 s1 v1 n1 x1) (h2 : W.ownsRow b2 e2 s2 v2 n2 x2) (hne : e1 ≠ e2) : v1.ownBlock = none ∨ v1.ownBlock ≠ v2.ownBlock := by
  rcases h1.2 with ⟨q, _⟩ | ⟨g, cap, cur, q, _, hg, _⟩
  · subst q; exact .inl rfl
  · subst q
    right
    rcases h2.2 with ⟨q, _⟩ | ⟨g2, cap2, cur2, q, _, hg2, _⟩
    · subst q; simp [Value.ownBlock]
    · subst q
      simp only [Value.ownBlock]
      intro e
      simp at e
      subst e
      rw [hg] at hg2
      simp at hg2
      exact hne hg2.2
theorem own_not {W : World} {b : Nat} {e t : TypeId} {sz : Nat} {v : Value} {n : Nat} {xs : List Value} {k : Nat} {cur : Array Value} {z : Nat × Nat} (h : W.ownsRow b e sz v n xs) (hk : W.heap[k]? = some (.cells cur t z)) (hne : e ≠ t) : some k ≠ v.ownBlock := by
  rcases h.2 with ⟨q, _⟩ | ⟨g, cap, cur2, q, _, hg, _⟩
  · subst q; simp [Value.ownBlock]
  · subst q
    simp only [Value.ownBlock]
    intro e2
    simp at e2
    subst e2
    rw [hg] at hk
    simp at hk
    exact hne hk.2.1
theorem but_grown9 {M : Nat → Prop} {A B : World} {row : Option Nat} (h : A.grownBy B row) (hr : ∀ k, row = some k → M k) : But M A B := ⟨h.os, h.tape, h.output, h.size, fun k hk hm => h.block k hk (fun e => hm (hr k e.symm))⟩
theorem cell_fourN (w : World) (a b c d : Value) (t : TypeId) : ∀ j u, [a, b, c, d][j]? = some u → (w.alloc (.cells #[a, b, c, d] t)).cell? ((⟨w.heap.size, 0, none⟩ : Addr).add j) = some u := cell_fourS w a b c d t
theorem infoSg : (Tryd.prog.info? 45).map (fun i => (i.zero, i.size, i.bytes)) = some (some (.agg #[.int .i64 0, .int .i64 0, .int .i32 0, .bool false]), 4, 24) := by kernel_rfl
theorem own_heap {W V : World} {base g n cap : Nat} {e : TypeId} {size : Nat} {xs : List Value} (h : W.ownsRow base e size (.slice (some ⟨g, 0, none⟩) n cap) n xs) (he : V.heap[g]? = W.heap[g]?) : V.ownsRow base e size (.slice (some ⟨g, 0, none⟩) n cap) n xs := by
  refine ⟨h.1, ?_⟩
  rcases h.2 with ⟨q, _⟩ | ⟨g2, cap2, cur, q, hb, hgg, rest⟩
  · simp at q
  · obtain ⟨rfl, rfl⟩ : g = g2 ∧ cap = cap2 := by simpa using q
    exact .inr ⟨g, cap, cur, rfl, hb, he.trans hgg, rest⟩
theorem own_but9 {W V : World} {base g : Nat} {e : TypeId} {size : Nat} {v : Value} {n : Nat} {xs : List Value} (h : W.ownsRow base e size v n xs) (b : But (fun k => k = g) W V) (hg : g < base) : V.ownsRow base e size v n xs := by
  refine ⟨h.1, ?_⟩
  rcases h.2 with hn | ⟨g2, cap, cur, rfl, hb, hgg, rest⟩
  · exact .inl hn
  · exact .inr ⟨g2, cap, cur, rfl, hb, (b.same g2 (Array.getElem?_eq_some_iff.1 hgg).1 (by omega)).trans hgg, rest⟩
theorem region_grownIn {n : Nat} {P : Program} {id : Nat} {Q : Exit → Act → World → Prop} {a : Act} {lst : List Oper} (W : World) (w : World) (hm : P.follows .mixedOrders = true) (hB : Region.lexB .any lst.toArray = true) (hb : Below W.heap.size W w)
    (h : wpQuietIn Fence.wide n P lst.toArray (fun V => ∃ q : GrownQ W, V = q.V) (fun a' => ∀ w', (∃ q : GrownQ W, w' = q.V) → Q .normal a' w') lst a) : (Code.region id lst.toArray true).wpIn Fence.wide n P Q a w := by
  simp only [Region.lexB, Bool.and_eq_true] at hB
  refine wpIn_region_any hm (wpAnyIn_of_quiet (C := fun V => ∃ q : GrownQ W, V = q.V) (Q := fun a' => ∀ w', (∃ q : GrownQ W, w' = q.V) → Q .normal a' w') rfl (fun _ w' hw' h => h w' hw') _ _ _ _ ⟨⟨w.drewN 1, below_dnS hb 1⟩, rfl⟩ ?_)
  have := wpAnyQIn_lex (F := Fence.wide) (n := n) (P := P) (C := fun V => ∃ q : GrownQ W, V = q.V) (md := .any) hB.1 lst 0 (Array.replicate lst.toArray.size false) a (by simp) (by simpa using hB.2) h
  simpa using this
theorem flatS_app (l : List Sg) (x : Sg) (a : At) : flatS (l ++ [(x, a)].map Prod.fst) = flatS l ++ [.int .i64 x.loc, .int .i64 x.len, .int .i32 x.rune, .bool x.bad] := flatS_snoc l x
set_option maxRecDepth 100000 in
set_option maxHeartbeats 8000000 in
theorem slooks_walk (s : ByteArray) (D : List Sp) (oa : Option Addr) (ca : Nat) (sg : Int) (hs : s.size ≤ 140737488355328) (hl : D.length ≤ 4398046510976) (hna : oa = none → D = [] ∧ ca = 0) (w : World) (hw : 2 ≤ w.heap.size) (hT : Lib.Utf8Tabs 0 1 w) (hRa : SpO w oa D) :
    Calls Tryd.prog 3 #[.agg #[.string s, .slice oa D.length ca], .int .i64 sg] w fun e w' => e = .returned (.bool true) ∧ Below w.heap.size w w' := by
  obtain ⟨i0, hi, hz0, hz1, hz2⟩ := info_parts infoSg
  obtain ⟨i1, hi1, hy0, hy1, hy2⟩ := info_parts infoAt
  have HLd := hideS (fun (W : World) (h : Below w.heap.size w W) => lend_any7 s D oa ca hl hna W (hRa.keep h))
  have HL1 := hideS (fun (W : World) (g c : Nat) (hc : D.length ≤ c ∧ c ≤ maxLen) (hR : SpO W (some ⟨g, 0, none⟩) D) => look7_any s D (some ⟨g, 0, none⟩) c sg hs hc (fun e => nomatch e) W hR)
  have HL2 := hideS (fun (W : World) (h : Below w.heap.size w W) => rlook7_any s D oa ca sg W (hRa.keep h))
  have HR1 := hideS (fun (W : World) (g c : Nat) (hc : D.length ≤ c ∧ c ≤ maxLen) (hR : SpO W (some ⟨g, 0, none⟩) D) => runs_any s D (some ⟨g, 0, none⟩) c hs hc (fun e => nomatch e) W hR)
  have HR2 := hideS (fun (W : World) (h : Below w.heap.size w W) => rruns7_any s D oa ca W (hRa.keep h))
  have HMk := hideS (fun (W : World) (g c : Nat) (hc : D.length ≤ c ∧ c ≤ maxLen) (hR : SpO W (some ⟨g, 0, none⟩) D) => smk_seq s D (some ⟨g, 0, none⟩) c hs hc (fun e => nomatch e) W hR)
  have HBk := hideS (fun (W : World) (g c B : Nat) (hR : SpO W oa D) (hO : W.ownsRow B 55 4 (.slice (some ⟨g, 0, none⟩) (D.length + 1) c) (D.length + 1) (flat4 (D ++ [mkS]))) => back_any7 s s D oa ca g c B hl W hR hO)
  have HFs := hideS (fun (W : World) (B g c : Nat) (h : W.ownsRow B 55 4 (.slice (some ⟨g, 0, none⟩) (D.length + 1) c) (D.length + 1) (flat4 (D ++ [mkS]))) => front_spo9 h rfl)
  have HAl := hideS (fun (h1 : s.size ≤ 1048576) (h2 : D.length ≤ 5000) (W : World) (h : Below w.heap.size w W) => rall_any s D oa ca h1 h2 W (hRa.keep h))
  obtain ⟨N, hN⟩ : ∃ N, D.length = N := ⟨_, rfl⟩
  obtain ⟨R, hR⟩ : ∃ R, lokR s D sg = R := ⟨_, rfl⟩
  obtain ⟨⟨r0, r1, r2, r3, r4⟩, er⟩ := R
  obtain ⟨cc, hcc⟩ : ∃ c, chkT s D = c := ⟨_, rfl⟩
  rw [hN] at HLd HL1 HL2 HR1 HR2 HMk HBk HFs HAl hl ⊢
  rw [hR] at HL1 HL2
  unfold At.val at HL1 HL2
  simp only at HL1 HL2
  have HX := hideS (And.intro hRa (And.intro hT (And.intro hN hcc)))
  clear hRa hT hN hR hna
  refine (callsIn_wide (n := 9)).1 ?_
  refine callsIn_of_wp_marks Tryd.func3 rfl trivial ?_ rfl
  simp only [Tryd.ntmps3, List.size_toArray, List.length_cons, List.length_nil, Nat.reduceAdd, Nat.reduceSub, Array.replicate_succ, Array.replicate_zero, List.push_toArray, List.append_toArray, List.nil_append, List.cons_append]
  obtain ⟨V, hV⟩ : ∃ V, w.alloc (.cells #[.string s, .slice oa N ca] 24) = V := ⟨_, rfl⟩
  have t0 : Tx V w.heap.size (.string s) (.slice oa N ca) := by rw [← hV]; exact Tx.new w _ _
  have bV : Below w.heap.size w V := by rw [← hV]; exact bel1S _ _
  have HV := hideS (And.intro t0 bV)
  obtain ⟨k0, k1, _, _⟩ := t0.cells
  clear t0 bV
  gi_wp2_with fail
  try rw [hV]
  clear hV k0 k1
  refine ⟨trivial, ?_⟩
  refine (callsIn_wide.2 (HLd.out V HV.out.2)).mono ?_
  rintro e w1 ⟨g, c, rfl, own1, b1⟩
  have h1f := HFs.out w1 _ g c own1
  obtain ⟨W2, hW2⟩ : ∃ W2, w1.alloc (.cells #[.string s, .slice (some ⟨g, 0, none⟩) N c] 24) = W2 := ⟨_, rfl⟩
  have b12 : Below w1.heap.size w1 W2 := by rw [← hW2]; exact bel1S _ _
  have tm : Tx W2 w1.heap.size (.string s) (.slice (some ⟨g, 0, none⟩) N c) := by rw [← hW2]; exact Tx.new w1 _ _
  have H2 := hideS (show Tx W2 w1.heap.size (.string s) (.slice (some ⟨g, 0, none⟩) N c) ∧ Tx W2 w.heap.size (.string s) (.slice oa N ca) ∧ W2.ownsRow V.heap.size 55 4 (.slice (some ⟨g, 0, none⟩) (N + 1) c) (N + 1) (flat4 (D ++ [mkS])) ∧ SpO W2 (some ⟨g, 0, none⟩) D ∧ Below w.heap.size w W2 from ⟨tm, (HV.out.1.keep b1).keep b12, own_keepS own1 b12, h1f.1.keep b12, bupS (bupS HV.out.2 b1) b12⟩)
  have hgV : V.heap.size ≤ g := h1f.2.1
  have hg1 : g < w1.heap.size := h1f.2.2.2
  have hgc := h1f.2.2.1
  have hwV : w.heap.size < V.heap.size := HV.out.1.lt
  obtain ⟨m0, m1, _, _⟩ := tm.cells
  have hlm : w1.heap.size < W2.heap.size := tm.lt
  clear tm b12 own1 b1 h1f HLd
  gi_wp2_with fail
  try rw [hW2]
  clear hW2 m0 m1
  refine ⟨trivial, ?_⟩
  refine (callsIn_wide.2 (HL1.out W2 g c hgc H2.out.2.2.2.1)).mono ?_
  rintro e w3 ⟨rfl, b3⟩
  obtain ⟨W4, hW4⟩ : ∃ W4, w3.alloc (.cells #[.bool r0, .bool r1, .bool r2, .bool r3, .int .i64 r4] 27) = W4 := ⟨_, rfl⟩
  have b34 : Below w3.heap.size w3 W4 := by rw [← hW4]; exact bel1S _ _
  have b24 : Below W2.heap.size W2 W4 := bupS b3 b34
  have a4 : AtC W4 w3.heap.size ⟨r0, r1, r2, r3, r4⟩ := by rw [← hW4]; exact World.alloc_heap_new w3 _
  have H4 := hideS (And.intro a4 b24)
  obtain ⟨k0, k1, _, _⟩ := (H2.out.2.1.keep b24).cells
  have s24 := b24.size
  have s23 := b3.size
  clear a4 b3 b34 b24 HL1
  gi_wp2_with fail
  try rw [hW4]
  clear hW4 k0 k1
  refine ⟨trivial, ?_⟩
  refine (callsIn_wide.2 (HL2.out W4 (bupS H2.out.2.2.2.2 H4.out.2))).mono ?_
  rintro e w5 ⟨rfl, b5⟩
  obtain ⟨W6, hW6⟩ : ∃ W6, w5.alloc (.cells #[.bool r0, .bool r1, .bool r2, .bool r3, .int .i64 r4] 27) = W6 := ⟨_, rfl⟩
  have b56 : Below w5.heap.size w5 W6 := by rw [← hW6]; exact bel1S _ _
  have a6 : AtC W6 w5.heap.size ⟨r0, r1, r2, r3, r4⟩ := by rw [← hW6]; exact World.alloc_heap_new w5 _
  have b46 := bupS b5 b56
  have b26 := bupS H4.out.2 b46
  have H6 := hideS (And.intro (H4.out.1.keep b46) (And.intro a6 b26))
  obtain ⟨m0, m1, _, _⟩ := (H2.out.1.keep b26).cells
  clear a6 b5 b56 b46 HL2 H4
  gi_wp2_with fail
  try rw [hW6]
  clear hW6 m0 m1
  refine ⟨trivial, ?_⟩
  refine (callsIn_wide.2 (HR1.out W6 g c hgc (H2.out.2.2.2.1.keep b26))).mono ?_
  intro e w7 hans
  obtain ⟨b7, o7, c7, rfl, q7⟩ := run_form3 hans
  rw [hcc]
  have b27 := bupS b26 b7
  have H7 := hideS (And.intro (H6.out.1.keep b7) (And.intro (H6.out.2.1.keep b7) (And.intro b27 q7)))
  obtain ⟨k0, k1, _, _⟩ := (H2.out.2.1.keep b27).cells
  clear b26 b7 q7 hans HR1 H6
  gi_wp2_with fail
  refine ⟨trivial, ?_⟩
  refine (callsIn_wide.2 (HR2.out w7 (bupS H2.out.2.2.2.2 H7.out.2.2.1))).mono ?_
  intro e w8 hans
  obtain ⟨b8, o8, c8, rfl, q8⟩ := run_form3 hans
  rw [hcc]
  have b28 := bupS b27 b8
  have HSR := hideS (sameruns_any (rnS s D) o7 o8 c7 c8 (by
    obtain ⟨_, _, g3⟩ := go_signs s D
    have h1 := go_size s D
    have h2 : (signs (goS s D)).length ≤ (goS s D).size := sgns_length _ _ 0
    exact rp_len g3 (by omega)) w8 (H7.out.2.2.2.keep b8) q8)
  obtain ⟨a0, a1, a2, a3, a4⟩ := (H7.out.1.keep b8).five
  obtain ⟨d0, d1, d2, d3, d4⟩ := (H7.out.2.1.keep b8).five
  have hgd := at_guard
  have hne := fun W => at_neq ⟨r0, r1, r2, r3, r4⟩ ⟨r0, r1, r2, r3, r4⟩ W
  unfold At.val at hne
  simp only [decide_true, Bool.not_true] at hne a0 a1 a2 a3 a4 d0 d1 d2 d3 d4
  generalize (rnS s D).length = RN at *
  have hx1 : (er != er) = false := by simp
  have hx2 : (cc != cc) = false := by simp
  have H8 := hideS b28
  clear k0 k1 b27 b8 q8 hans HR2 b28 H7
  gi_wp2_with fail
  refine ⟨trivial, ?_⟩
  refine (callsIn_wide.2 HSR.out).mono ?_
  rintro e w9 ⟨rfl, b9⟩
  have H9 := hideS (bupS H8.out b9)
  clear a0 a1 a2 a3 a4 d0 d1 d2 d3 d4 hne hgd b9 HSR H8
  gi_upto_region 10 with fail
  obtain ⟨V1, hV1⟩ : ∃ V1, (w9.alloc (.cells #[.slice none 0 0] 39)).alloc (.cells #[.slice none 0 0] 40) = V1 := ⟨_, rfl⟩
  have zV1 : V1.heap.size = w9.heap.size + 2 := by rw [← hV1]; simp
  have bV1 : Below w9.heap.size w9 V1 := by rw [← hV1]; exact bupS (bel1S _ _) (bel1S _ _)
  have x1 : Boxed V1 w9.heap.size 39 (.slice none 0 0) := by rw [← hV1]; exact (Boxed.new w9 _ _).alloc _
  have x2 : Boxed V1 (w9.heap.size + 1) 40 (.slice none 0 0) := by
    rw [← hV1]
    have h9 := Boxed.new (w9.alloc (.cells #[.slice none 0 0] 39)) 40 (.slice none 0 0)
    rw [World.size_alloc] at h9
    exact h9
  try rw [hV1]
  clear hV1
  have b2V := bupS H9.out bV1
  obtain ⟨m0, m1, _, _⟩ := (H2.out.1.keep b2V).cells
  gi_wp2_with fail
  refine ⟨trivial, ?_⟩
  refine (callsIn_wide.2 (HMk.out V1 g c hgc (H2.out.2.2.2.1.keep b2V))).mono ?_
  rintro e wS ⟨bl, oS, rfl, bS, hbl, hoS, hseq⟩
  have hzS := bS.size
  rw [zV1] at hseq hbl hoS hzS
  have x3 : Boxed wS w9.heap.size 39 (.slice none 0 0) := (bS.block _ x1.lt).trans x1
  have x4 : Boxed wS (w9.heap.size + 1) 40 (.slice none 0 0) := (bS.block _ x2.lt).trans x2
  have b2S := bupS b2V bS
  have HS2 := hideS (And.intro b2S H9.out)
  have z29 : W2.heap.size ≤ w9.heap.size := H9.out.size
  clear m0 m1 x1 x2 HMk bS b2V bV1
  gi_wp2_with fail
  have hgl : (goL s D).length ≤ 4096 := by
    obtain ⟨g1, _, _⟩ := go_signs s D
    have h1 := go_size s D
    have h2 : (signs (goS s D)).length ≤ (goS s D).size := sgns_length _ _ 0
    rw [← g1, List.length_map] at h2
    omega
  refine rangeFunc_boxC (α := Sg × At) (by omega) (gf := 28) (lb := #[.pointer (some ⟨w9.heap.size + 2 + 1, 0, none⟩), .pointer (some ⟨bl, 0, none⟩)]) rfl (enters_of Tryd.func28 (by kernel_rfl) rfl)
    (hseq (9 - 1) (by omega) wS (Below.refl _ _)) (fun _ => rfl)
    (fun k => k = w9.heap.size ∨ k = w9.heap.size + 1) (fun k e => ⟨by omega, by omega, by omega, fun a ha => by have := hoS a ha; omega⟩)
    (fun pre X => ∃ v1 v2, Boxed X w9.heap.size 39 v1 ∧ X.ownsRow (wS.heap.size + 2 + 7) 45 4 v1 pre.length (flatS (pre.map Prod.fst)) ∧ Boxed X (w9.heap.size + 1) 40 v2 ∧ X.ownsRow (wS.heap.size + 2 + 7) 27 5 v2 pre.length (flat5 (pre.map Prod.snd))) (fun _ _ _ => False)
    (fun pre A B h hk => by
      obtain ⟨v1, v2, h1, h2, h3, h4⟩ := h
      exact ⟨v1, v2, (hk.same _ h1.lt (.inl (by omega))).trans h1, own_keeps9 h2 hk, (hk.same _ h3.lt (.inl (by omega))).trans h3, own_keeps9 h4 hk⟩) (fun _ _ _ _ h _ => h) ⟨_, _, x3, World.ownsRow_nil _ _ _ _, x4, World.ownsRow_nil _ _ _ _⟩ ?round ?done ?stop
  case round =>
    rintro l2 pre x X K hl2 hl2X hhi hl2h hBX - hpx hK
    obtain ⟨x, a⟩ := x
    have hpl : pre.length + 1 ≤ (goL s D).length := by have := hpx.length_le; simpa using this
    obtain ⟨a0, a1, a2, a3, a4⟩ := a
    simp only [Sg.val, At.val]
    gi_wp2
    refine hK _ _ (((Below.refl _ X).alloc (Nat.le_refl _) _).alloc (by simp) _) (fun X2 hbo hXz hB2 hi2 => ?_)
    have hXX : X.heap.size + 2 = X2.heap.size := by rw [hXz]; simp
    obtain ⟨v1, v2, c1, row1, c2, row2⟩ := hi2
    have n1 : X2.heap[X.heap.size]? = some (.cells #[.int .i64 x.loc, .int .i64 x.len, .int .i32 x.rune, .bool x.bad] 45 (0, 0)) := (hbo.same X.heap.size (by simp; omega) (by omega)).trans ((Below.heap_alloc _ _ _ (by simp)).trans (World.alloc_heap_new X _))
    have n2 : X2.heap[X.heap.size + 1]? = some (.cells #[.bool a0, .bool a1, .bool a2, .bool a3, .int .i64 a4] 27 (0, 0)) := (hbo.same (X.heap.size + 1) (by simp) (by omega)).trans (by
      have h9 := World.alloc_heap_new (X.alloc (.cells #[.int .i64 x.loc, .int .i64 x.len, .int .i32 x.rune, .bool x.bad] 45)) (.cells #[.bool a0, .bool a1, .bool a2, .bool a3, .int .i64 a4] 27)
      rw [World.size_alloc] at h9
      exact h9)
    have j0 : X2.cell? ⟨X.heap.size, 0, none⟩ = some (.int .i64 x.loc) := by simp [World.cell?, n1]
    have j1 : X2.cell? ⟨X.heap.size, 1, none⟩ = some (.int .i64 x.len) := by simp [World.cell?, n1]
    have j2 : X2.cell? ⟨X.heap.size, 2, none⟩ = some (.int .i32 x.rune) := by simp [World.cell?, n1]
    have j3 : X2.cell? ⟨X.heap.size, 3, none⟩ = some (.bool x.bad) := by simp [World.cell?, n1]
    have k1 := c1.cell
    have HQ := hideS (And.intro hB2 (And.intro hpx n2))
    clear hbo hB2 hpx hK hBX n1 n2 hXz
    gi_upto_region 14 with (gi_at_builtin; refine wpListIn_append_own _ rfl _ _ 39 rfl (wS.heap.size + 2 + 7) 45 i0 (.agg #[.int .i64 0, .int .i64 0, .int .i32 0, .bool false]) 4 24 Tryd.underlying39 hi hz0 hz1 hz2 rfl (by decide) _ _ _ rfl (row1.alloc _) ⟨X2.heap.size, 0, none⟩ 1 1 [.int .i64 x.loc, .int .i64 x.len, .int .i32 x.rune, .bool x.bad] rfl rfl (cell_fourS _ _ _ _ _ _) (fun u hu => by simp at hu; rcases hu with rfl | rfl | rfl | rfl <;> rfl) (by unfold maxLen; omega) (by omega) (by simp; omega) ?_; intro v' Y1 hown' hgrow _; obtain ⟨g', cap', rfl⟩ := ownsRow_succ hown'; have c3 : Boxed Y1 w9.heap.size 39 v1 := (c1.alloc _).kept hgrow (fun e => by have := (row1.lt _ e.symm).1; omega); have k3 := c3.cell; have f3 := c3.frozen)
    have d1 : Boxed Y1 (w9.heap.size + 1) 40 v2 := (c2.alloc _).kept hgrow (fun e => by have := (row1.lt _ e.symm).1; omega)
    have d2 : Y1.ownsRow (wS.heap.size + 2 + 7) 27 5 v2 pre.length (flat5 (pre.map Prod.snd)) := (row2.alloc _).kept hgrow (own_apart row2 row1 (by decide))
    have d3 : Y1.heap[X.heap.size + 1]? = some (.cells #[.bool a0, .bool a1, .bool a2, .bool a3, .int .i64 a4] 27 (0, 0)) := (hgrow.block _ (by simp; omega) (own_not row1 HQ.out.2.2 (by decide))).trans ((Below.heap_alloc _ _ _ (by omega)).trans HQ.out.2.2)
    have bY : But (fun k => (k = w9.heap.size ∨ k = w9.heap.size + 1) ∨ wS.heap.size + 2 + 7 ≤ k) X2 Y1 := ((But.refl _ X2).alloc _).trans (but_grown9 hgrow (fun k e => .inr (row1.lt k e).1))
    obtain ⟨Z, hZ⟩ : ∃ Z, Y1.setCell ⟨w9.heap.size, 0, none⟩ (.slice (some ⟨g', 0, none⟩) (pre.length + 1) cap') = Z := ⟨_, rfl⟩
    have e1 : Boxed Z w9.heap.size 39 (.slice (some ⟨g', 0, none⟩) (pre.length + 1) cap') := by rw [← hZ]; exact c3.set _
    have gZ : Y1.grownBy Z (some w9.heap.size) := by rw [← hZ]; exact grownBy_setCell' Y1 w9.heap.size _
    have e2 : Z.ownsRow (wS.heap.size + 2 + 7) 45 4 (.slice (some ⟨g', 0, none⟩) (pre.length + 1) cap') (pre.length + 1) (flatS (pre.map Prod.fst) ++ [.int .i64 x.loc, .int .i64 x.len, .int .i32 x.rune, .bool x.bad]) := hown'.kept gZ (.inr (fun e => by have := (hown'.lt _ e).1; omega))
    have e3 : Boxed Z (w9.heap.size + 1) 40 v2 := d1.kept gZ (by simp)
    have e4 : Z.ownsRow (wS.heap.size + 2 + 7) 27 5 v2 pre.length (flat5 (pre.map Prod.snd)) := d2.kept gZ (.inr (fun e => by have := (d2.lt _ e).1; omega))
    have e5 : Z.heap[X.heap.size + 1]? = some (.cells #[.bool a0, .bool a1, .bool a2, .bool a3, .int .i64 a4] 27 (0, 0)) := (gZ.block _ (Array.getElem?_eq_some_iff.1 d3).1 (by simp; omega)).trans d3
    have bZ : But (fun k => (k = w9.heap.size ∨ k = w9.heap.size + 1) ∨ wS.heap.size + 2 + 7 ≤ k) X2 Z := by rw [← hZ]; exact bY.setCell (p := ⟨w9.heap.size, 0, none⟩) (.inl (.inl rfl)) _
    have zZ : X2.heap.size ≤ Z.heap.size := bZ.size
    try rw [hZ]
    clear hZ gZ bY d1 d2 d3 c3 k3 f3 hgrow hown' j0 j1 j2 j3 k1 c1 c2 row1 row2
    have j0 : Z.cell? ⟨X.heap.size + 1, 0, none⟩ = some (.bool a0) := by simp [World.cell?, e5]
    have j1 : Z.cell? ⟨X.heap.size + 1, 1, none⟩ = some (.bool a1) := by simp [World.cell?, e5]
    have j2 : Z.cell? ⟨X.heap.size + 1, 2, none⟩ = some (.bool a2) := by simp [World.cell?, e5]
    have j3 : Z.cell? ⟨X.heap.size + 1, 3, none⟩ = some (.bool a3) := by simp [World.cell?, e5]
    have j4 : Z.cell? ⟨X.heap.size + 1, 4, none⟩ = some (.int .i64 a4) := by simp [World.cell?, e5]
    have k1 := e3.cell
    gi_wp2_with (gi_at_builtin; refine wpListIn_append_own _ rfl _ _ 40 rfl (wS.heap.size + 2 + 7) 27 i1 (.agg #[.bool false, .bool false, .bool false, .bool false, .int .i64 0]) 5 16 Tryd.underlying40 hi1 hy0 hy1 hy2 rfl (by decide) _ _ _ rfl (e4.alloc _) ⟨Z.heap.size, 0, none⟩ 1 1 [.bool a0, .bool a1, .bool a2, .bool a3, .int .i64 a4] rfl rfl (cell_fiveS _ _ _ _ _ _ _) (fun u hu => by simp at hu; rcases hu with rfl | rfl | rfl | rfl | rfl <;> rfl) (by unfold maxLen; omega) (by omega) (by simp; omega) ?_; intro v' Y1 hown' hgrow _; obtain ⟨g2, cap2, rfl⟩ := ownsRow_succ hown'; have c3 : Boxed Y1 (w9.heap.size + 1) 40 v2 := (e3.alloc _).kept hgrow (fun e => by have := (e4.lt _ e.symm).1; omega); have k3 := c3.cell; have f3 := c3.frozen)
    have d1 : Boxed Y1 w9.heap.size 39 _ := (e1.alloc _).kept hgrow (fun e => by have := (e4.lt _ e.symm).1; omega)
    have d2 := (e2.alloc _).kept hgrow (own_apart e2 e4 (by decide))
    have gZ := grownBy_setCell' Y1 (w9.heap.size + 1) (.slice (some ⟨g2, 0, none⟩) (pre.length + 1) cap2)
    refine ⟨(bZ.trans (((But.refl _ Z).alloc _).trans (but_grown9 hgrow (fun k e => .inr (e4.lt k e).1)))).setCell (p := ⟨w9.heap.size + 1, 0, none⟩) (.inl (.inr rfl)) _, _, _, d1.kept gZ (by simp), ?_, c3.set _, ?_⟩
    · rw [List.length_append, List.map_append, flatS_app]
      exact d2.kept gZ (.inr (fun e => by have := (d2.lt _ e).1; omega))
    · rw [List.length_append, List.map_append]
      show World.ownsRow _ _ _ _ _ _ (flat5 (pre.map Prod.snd ++ [(⟨a0, a1, a2, a3, a4⟩ : At)]))
      rw [flat5_snoc]
      exact hown'.kept gZ (.inr (fun e => by have := (hown'.lt _ e).1; omega))
  case done =>
    rintro Dd X hD ⟨v1, v2, c1, row1, c2, row2⟩ hBX hK
    have hkeep : ∀ k, k < W2.heap.size → X.heap[k]? = W2.heap[k]? := fun k hk => (hBX.same k (by have := HS2.out.1.size; omega) (by omega)).trans (HS2.out.1.block k hk)
    have tm : Tx X w1.heap.size (.string s) (.slice (some ⟨g, 0, none⟩) N c) := (hkeep _ hlm).trans H2.out.1
    have tt : Tx X w.heap.size (.string s) (.slice oa N ca) := (hkeep _ H2.out.2.1.lt).trans H2.out.2.1
    have om := own_heap H2.out.2.2.1 (hkeep g (by omega))
    have bX : Below w.heap.size w X := (H2.out.2.2.2.2.trans (HS2.out.1.mono H2.out.2.2.2.2.size)).trans (hBX.below (by have := H2.out.2.2.2.2.size; have := HS2.out.1.size; omega) (fun k e => by have := H2.out.2.2.2.2.size; omega))
    have HB9 := hideS (HBk.out X g c V.heap.size (HX.out.1.keep bX) om)
    obtain ⟨m0, m1, _, _⟩ := tm.cells
    obtain ⟨k0, k1, _, _⟩ := tt.cells
    have HD := hideS (And.intro c1 (And.intro row1 (And.intro c2 (And.intro row2 (And.intro hK (And.intro tt bX))))))
    have zX : wS.heap.size ≤ X.heap.size := hBX.size
    clear tm tt om bX hkeep c1 row1 c2 row2 hK hBX HBk x3 x4 hseq
    gi_wp2_with fail
    refine ⟨trivial, ?_⟩
    refine (callsIn_wide.2 HB9.out).mono ?_
    rintro e X1 ⟨rfl, b1⟩
    have d1 : Boxed X1 w9.heap.size 39 v1 := (b1.same _ HD.out.1.lt (by omega)).trans HD.out.1
    have d2 := own_but9 HD.out.2.1 b1 (by omega)
    have d3 : Boxed X1 (w9.heap.size + 1) 40 v2 := (b1.same _ HD.out.2.2.1.lt (by omega)).trans HD.out.2.2.1
    have d4 := own_but9 HD.out.2.2.2.1 b1 (by omega)
    have d5 : X1.heap[Dd]? = some (.deferred (some [])) := (b1.same Dd (Array.getElem?_eq_some_iff.1 HD.out.2.2.2.2.1).1 (by omega)).trans HD.out.2.2.2.2.1
    have d6 : Tx X1 w.heap.size (.string s) (.slice oa N ca) := (b1.same _ HD.out.2.2.2.2.2.1.lt (by omega)).trans HD.out.2.2.2.2.2.1
    have d7 : Below w.heap.size w X1 := HD.out.2.2.2.2.2.2.trans (b1.below HD.out.2.2.2.2.2.2.size (fun k e => by omega))
    obtain ⟨o1, p1, rfl, hp1, hx1r⟩ := own_cap d2
    have HE := hideS (And.intro d1 (And.intro d2 (And.intro d3 (And.intro d4 (And.intro d5 (And.intro d6 d7))))))
    have kb1 := d1.cell
    have zX1 : wS.heap.size ≤ X1.heap.size := Nat.le_trans zX b1.size
    have hDl : Dd < X1.heap.size := (Array.getElem?_eq_some_iff.1 d5).1
    clear d1 d2 d3 d4 d5 d6 d7 b1 HB9 HD m0 m1 k0 k1 hx1r
    have fin9 : Hid (∀ Y : World, Below X1.heap.size X1 Y → ∃ wt, (Instr.takeDeferred Dd).run Tryd.prog Y = .ok [] wt ∧ Below w.heap.size w wt) := hideS (fun Y hY => by
      have e5 : Y.heap[Dd]? = some (.deferred (some [])) := (hY.block _ hDl).trans HE.out.2.2.2.2.1
      exact ⟨_, run_takeDeferred e5, (bupS HE.out.2.2.2.2.2.2 hY).trans ((putObj_belowL _ _ _).mono (by omega))⟩)
    have HH := hideS (fun (Y : World) (h : Below X1.heap.size X1 Y) => head7 Y (Nat.le_trans hw (bupS HE.out.2.2.2.2.2.2 h).size) (tabs_below hw HX.out.2.1 (bupS HE.out.2.2.2.2.2.2 h)))
    by_cases ec : cc = 0
    · have ecb : (cc != 0) = false := by simpa using ec
      have hh1 : chkT s D = 0 := hcc.trans ec
      have hok := chkT_ok hh1
      rw [HX.out.2.2.1] at hok
      obtain ⟨g1, g2, _⟩ := go_signs s D
      have eS : goS s D = s := by unfold goS; rw [if_pos hh1]
      have eA : goA s D = alls D (signs s).length := by unfold goA; rw [if_pos hh1]
      rw [eS] at g1
      rw [eA] at g2
      have hn4 : (signs s).length ≤ s.size := sgns_length _ _ 0
      have hGL : (goL s D).length = (signs s).length := by rw [← g1, List.length_map]
      obtain ⟨k0, k1, _, _⟩ := HE.out.2.2.2.2.2.1.cells
      gi_wp2_with fail
      refine ⟨trivial, ?_⟩
      refine (callsIn_wide.2 (HAl.out (by omega) (by omega) X1 HE.out.2.2.2.2.2.2)).mono ?_
      rintro e Y1 ⟨v3, rfl, own3, b3⟩
      obtain ⟨o3, p3, rfl, hp3, hr3⟩ := at_of_own own3
      have r1 := own_keepS HE.out.2.1 b3
      rw [g1, hGL] at r1
      have r2 := own_keepS HE.out.2.2.2.1 b3
      rw [g2, hGL] at r2
      obtain ⟨o1b, p1b, q1, hSA⟩ := alls_at r1
      obtain ⟨rfl, rfl⟩ : o1 = o1b ∧ p1 = p1b := by simpa using q1
      obtain ⟨o2, p2, rfl, hp2, hr2⟩ := at_of_own r2
      rw [hGL] at kb1
      have HSA := hideS (And.intro hSA (And.intro hr2 hr3))
      have hb1 : Boxed Y1 w9.heap.size 39 (.slice o1 (signs s).length p1) := by have h9 := (b3.block _ HE.out.1.lt).trans HE.out.1; rw [hGL] at h9; exact h9
      have hb2 : Boxed Y1 (w9.heap.size + 1) 40 (.slice o2 (signs s).length p2) := (b3.block _ HE.out.2.2.1.lt).trans HE.out.2.2.1
      have ht1 := HE.out.2.2.2.2.2.1.keep b3
      have HSg := hideS (fun (W : World) => rsigns_any s (by omega) W)
      have HAk := hideS (fun (W : World) (ob : Option Addr) (cb : Nat) (hA : Hid (∀ n (hn : n < (signs s).length), ∃ g, o1 = some ⟨g, 0, none⟩ ∧ SAt W g n (signs s)[n])) (hB : Hid (∀ n (hn : n < (signs s).length), ∃ g, ob = some ⟨g, 0, none⟩ ∧ RAt W g n (signs s)[n])) => alike_any W (signs s) o1 ob p1 cb (by omega) hA hB (fun x hx => by have := rune_bd hx; omega))
      have hal := alls_len D (signs s).length
      obtain ⟨n, hn⟩ : ∃ n, (signs s).length = n := ⟨_, rfl⟩
      have HN := hideS hn
      have HF := hideS (And.intro hb1 (And.intro hb2 (And.intro ht1 b3)))
      have l1 := hb1.lt
      have l2 := hb2.lt
      have l3 := ht1.lt
      obtain ⟨k0, k1, _, _⟩ := ht1.cells
      have kB1 := hb1.cell
      have kB2 := hb2.cell
      have hnn : n ≤ 4096 := by omega
      rw [hn] at kB1 kB2 ⊢
      clear own3 r1 r2 q1 hSA hr2 hr3 hb1 hb2 ht1 b3 g1 g2 eS eA hGL kb1 HAl hn
      gi_upto_region 20 with fail
      gi_cut [101] from 20 (fun bv wx => bv = .bool false ∧ Below Y1.heap.size Y1 wx)
      case first =>
        refine wpIn_region_any (by kernel_rfl) ?_
        change wpAnyIn _ _ _ _ _ _ _ _ _ (World.drew _)
        refine wpAnyIn_ready (rs := [0, 1]) (by kernel_rfl) (by simp) ?_
        refine AllReadyIn.cons (o := ({ dst := some 89, op := Op.load 39 (Operand.tmp 14), type := 39, pos := "law.go:98", after := #[], guard := none } : Oper)) rfl (fun K5 hK5 => ?_) ?_
        · go_simp
          refine hK5 _ _ ?_
          clear hK5 K5
          try simp only [Act.put, List.setIfInBounds_toArray, List.set_cons_zero, List.set_cons_succ]
          refine wpAnyIn_ready (rs := [1]) (by kernel_rfl) (by simp) ?_
          refine AllReadyIn.cons (o := ({ dst := some 90, op := Op.fieldAddr 24 (Operand.tmp 2) 0, type := 0, pos := "law.go:98", after := #[], guard := none } : Oper)) rfl (fun K5 hK5 => ?_) ?_
          · go_simp
            refine hK5 _ _ ?_
            clear hK5 K5
            try simp only [Act.put, List.setIfInBounds_toArray, List.set_cons_zero, List.set_cons_succ]
            refine wpAnyIn_ready (rs := [2]) (by kernel_rfl) (by simp) ?_
            refine AllReadyIn.cons (o := ({ dst := some 91, op := Op.load 9 (Operand.tmp 90), type := 9, pos := "law.go:98", after := #[{ on := 1, ground := Ground.data }], guard := none } : Oper)) rfl (fun K5 hK5 => ?_) ?_
            · go_simp
              refine hK5 _ _ ?_
              clear hK5 K5
              try simp only [Act.put, List.setIfInBounds_toArray, List.set_cons_zero, List.set_cons_succ]
              refine wpAnyIn_ready (rs := [3]) (by kernel_rfl) (by simp) ?_
              refine AllReadyIn.cons (o := ({ dst := some 92, op := Op.call { callee := Callee.value (Operand.func 16), args := #[Operand.tmp 91], argTypes := #[9] }, type := 50, pos := "law.go:98", after := #[{ on := 2, ground := Ground.data }], guard := none } : Oper)) rfl (fun K5 hK5 => ?_) ?_
              · go_simp
                refine ⟨trivial, ?_⟩
                refine (callsIn_wide.2 (HSg.out Y1.drew)).mono ?_; rintro e wA ⟨v5, rfl, own5, bA⟩; obtain ⟨o5, p5, rfl, h5⟩ := rows_at own5; rw [HN.out]; have bA : Below Y1.heap.size Y1 wA := (by first | exact ⟨bA.os, bA.tape, bA.output, bA.size, bA.block⟩ | exact bA); have kA1 := (bA.cell (p := ⟨w9.heap.size, 0, none⟩) l1).trans kB1; have kA2 := (bA.cell (p := ⟨w9.heap.size + 1, 0, none⟩) l2).trans kB2; have HbA := hideS (And.intro bA h5); clear bA own5 h5
                refine hK5 _ _ ?_
                clear hK5 K5
                try simp only [Act.put, List.setIfInBounds_toArray, List.set_cons_zero, List.set_cons_succ]
                refine wpAnyIn_ready (rs := [4]) (by kernel_rfl) (by simp) ?_
                refine AllReadyIn.cons (o := ({ dst := some 93, op := Op.call { callee := Callee.value (Operand.func 15), args := #[Operand.tmp 89, Operand.tmp 92], argTypes := #[39, 50] }, type := 4, pos := "law.go:98", after := #[{ on := 0, ground := Ground.data }, { on := 3, ground := Ground.data }, { on := 3, ground := Ground.chain }], guard := none } : Oper)) rfl (fun K5 hK5 => ?_) ?_
                · go_simp
                  refine ⟨trivial, ?_⟩
                  rw [← HN.out]; refine (callsIn_wide.2 (HAk.out wA o5 p5 (fun n hn => by obtain ⟨g, e1, e2, _, e4⟩ := HSA.out.1 n hn; exact ⟨g, e1, e4.below HbA.out.1 e2⟩) (fun n hn => by obtain ⟨g, e1, e2, _, e4⟩ := HbA.out.2 n hn; exact ⟨g, e1, e4⟩))).mono ?_; rintro e wB ⟨rfl, bB⟩; rw [HN.out]; have bB : Below Y1.heap.size Y1 wB := bupS HbA.out.1 bB; have kC2 := (bB.cell (p := ⟨w9.heap.size + 1, 0, none⟩) l2).trans kB2; have HbB := hideS bB; clear bB
                  refine hK5 _ _ ?_
                  clear hK5 K5
                  try simp only [Act.put, List.setIfInBounds_toArray, List.set_cons_zero, List.set_cons_succ]
                  refine wpAnyIn_ready (rs := [5]) (by kernel_rfl) (by simp) ?_
                  refine AllReadyIn.cons (o := ({ dst := some 94, op := Op.unOp UnOp.not 4 (Operand.tmp 93), type := 4, pos := "law.go:98", after := #[{ on := 4, ground := Ground.data }], guard := none } : Oper)) rfl (fun K5 hK5 => ?_) ?_
                  · go_simp
                    refine hK5 _ _ ?_
                    clear hK5 K5
                    try simp only [Act.put, List.setIfInBounds_toArray, List.set_cons_zero, List.set_cons_succ]
                    refine wpAnyIn_ready (rs := [6]) (by kernel_rfl) (by simp) ?_
                    refine AllReadyIn.cons (o := ({ dst := some 95, op := Op.move (Operand.tmp 94), type := 4, pos := "law.go:98", after := #[{ on := 5, ground := Ground.data }, { on := 4, ground := Ground.chain }], guard := none } : Oper)) rfl (fun K5 hK5 => ?_) ?_
                    · go_simp
                      refine hK5 _ _ ?_
                      clear hK5 K5
                      try simp only [Act.put, List.setIfInBounds_toArray, List.set_cons_zero, List.set_cons_succ]
                      refine wpAnyIn_ready (rs := [7, 9]) (by kernel_rfl) (by simp) ?_
                      refine AllReadyIn.cons (o := ({ dst := some 96, op := Op.load 40 (Operand.tmp 15), type := 40, pos := "law.go:98", after := #[{ on := 6, ground := Ground.guard }], guard := some (6, false) } : Oper)) rfl (fun K5 hK5 => ?_) ?_
                      · go_simp
                        refine hK5 _ _ ?_
                        clear hK5 K5
                        try simp only [Act.put, List.setIfInBounds_toArray, List.set_cons_zero, List.set_cons_succ]
                        refine wpAnyIn_ready (rs := [8, 9]) (by kernel_rfl) (by simp) ?_
                        refine AllReadyIn.cons (o := ({ dst := some 97, op := Op.call { callee := Callee.builtin Builtin.len, args := #[Operand.tmp 96], argTypes := #[40] }, type := 3, pos := "law.go:98", after := #[{ on := 7, ground := Ground.data }, { on := 6, ground := Ground.guard }], guard := some (6, false) } : Oper)) rfl (fun K5 hK5 => ?_) ?_
                        · go_simp
                          refine hK5 _ _ ?_
                          clear hK5 K5
                          try simp only [Act.put, List.setIfInBounds_toArray, List.set_cons_zero, List.set_cons_succ]
                          refine wpAnyIn_ready (rs := [9]) (by kernel_rfl) (by simp) ?_
                          refine AllReadyIn.cons (o := ({ dst := some 98, op := Op.move (Operand.tmp 18), type := 40, pos := "law.go:98", after := #[{ on := 6, ground := Ground.guard }], guard := some (6, false) } : Oper)) rfl (fun K5 hK5 => ?_) ?_
                          · go_simp
                            refine hK5 _ _ ?_
                            clear hK5 K5
                            try simp only [Act.put, List.setIfInBounds_toArray, List.set_cons_zero, List.set_cons_succ]
                            refine wpAnyIn_ready (rs := [10]) (by kernel_rfl) (by simp) ?_
                            refine AllReadyIn.cons (o := ({ dst := some 99, op := Op.call { callee := Callee.builtin Builtin.len, args := #[Operand.tmp 98], argTypes := #[40] }, type := 3, pos := "law.go:98", after := #[{ on := 9, ground := Ground.data }, { on := 6, ground := Ground.guard }], guard := some (6, false) } : Oper)) rfl (fun K5 hK5 => ?_) ?_
                            · go_simp
                              refine hK5 _ _ ?_
                              clear hK5 K5
                              try simp only [Act.put, List.setIfInBounds_toArray, List.set_cons_zero, List.set_cons_succ]
                              refine wpAnyIn_ready (rs := [11]) (by kernel_rfl) (by simp) ?_
                              refine AllReadyIn.cons (o := ({ dst := some 100, op := Op.binOp BinOp.neq 3 (Operand.tmp 97) (Operand.tmp 99) 3, type := 4, pos := "law.go:98", after := #[{ on := 8, ground := Ground.data }, { on := 10, ground := Ground.data }, { on := 6, ground := Ground.guard }], guard := some (6, false) } : Oper)) rfl (fun K5 hK5 => ?_) ?_
                              · go_simp
                                refine hK5 _ _ ?_
                                clear hK5 K5
                                try simp only [Act.put, List.setIfInBounds_toArray, List.set_cons_zero, List.set_cons_succ]
                                refine wpAnyIn_ready (rs := [12]) (by kernel_rfl) (by simp) ?_
                                refine AllReadyIn.cons (o := ({ dst := some 101, op := Op.pick (Operand.tmp 95) (Operand.const (Value.bool true)) (Operand.tmp 100), type := 4, pos := "law.go:98", after := #[{ on := 6, ground := Ground.data }, { on := 11, ground := Ground.data }], guard := none } : Oper)) rfl (fun K5 hK5 => ?_) ?_
                                · go_simp
                                  refine hK5 _ _ ?_
                                  clear hK5 K5
                                  try simp only [Act.put, List.setIfInBounds_toArray, List.set_cons_zero, List.set_cons_succ]
                                  refine wpAnyIn_done (by kernel_rfl) ?_ _
                                  first | gi_wp2_with fail | skip
                                  gi_meet
                                  exact ⟨rfl, HbB.out⟩
                                exact AllReadyIn.nil
                              exact AllReadyIn.nil
                            exact AllReadyIn.nil
                          exact AllReadyIn.nil
                        refine AllReadyIn.cons (o := ({ dst := some 98, op := Op.move (Operand.tmp 18), type := 40, pos := "law.go:98", after := #[{ on := 6, ground := Ground.guard }], guard := some (6, false) } : Oper)) rfl (fun K5 hK5 => ?_) ?_
                        · go_simp
                          refine hK5 _ _ ?_
                          clear hK5 K5
                          try simp only [Act.put, List.setIfInBounds_toArray, List.set_cons_zero, List.set_cons_succ]
                          refine wpAnyIn_ready (rs := [8, 10]) (by kernel_rfl) (by simp) ?_
                          refine AllReadyIn.cons (o := ({ dst := some 97, op := Op.call { callee := Callee.builtin Builtin.len, args := #[Operand.tmp 96], argTypes := #[40] }, type := 3, pos := "law.go:98", after := #[{ on := 7, ground := Ground.data }, { on := 6, ground := Ground.guard }], guard := some (6, false) } : Oper)) rfl (fun K5 hK5 => ?_) ?_
                          · go_simp
                            refine hK5 _ _ ?_
                            clear hK5 K5
                            try simp only [Act.put, List.setIfInBounds_toArray, List.set_cons_zero, List.set_cons_succ]
                            refine wpAnyIn_ready (rs := [10]) (by kernel_rfl) (by simp) ?_
                            refine AllReadyIn.cons (o := ({ dst := some 99, op := Op.call { callee := Callee.builtin Builtin.len, args := #[Operand.tmp 98], argTypes := #[40] }, type := 3, pos := "law.go:98", after := #[{ on := 9, ground := Ground.data }, { on := 6, ground := Ground.guard }], guard := some (6, false) } : Oper)) rfl (fun K5 hK5 => ?_) ?_
                            · go_simp
                              refine hK5 _ _ ?_
                              clear hK5 K5
                              try simp only [Act.put, List.setIfInBounds_toArray, List.set_cons_zero, List.set_cons_succ]
                              refine wpAnyIn_ready (rs := [11]) (by kernel_rfl) (by simp) ?_
                              refine AllReadyIn.cons (o := ({ dst := some 100, op := Op.binOp BinOp.neq 3 (Operand.tmp 97) (Operand.tmp 99) 3, type := 4, pos := "law.go:98", after := #[{ on := 8, ground := Ground.data }, { on := 10, ground := Ground.data }, { on := 6, ground := Ground.guard }], guard := some (6, false) } : Oper)) rfl (fun K5 hK5 => ?_) ?_
                              · go_simp
                                refine hK5 _ _ ?_
                                clear hK5 K5
                                try simp only [Act.put, List.setIfInBounds_toArray, List.set_cons_zero, List.set_cons_succ]
                                refine wpAnyIn_ready (rs := [12]) (by kernel_rfl) (by simp) ?_
                                refine AllReadyIn.cons (o := ({ dst := some 101, op := Op.pick (Operand.tmp 95) (Operand.const (Value.bool true)) (Operand.tmp 100), type := 4, pos := "law.go:98", after := #[{ on := 6, ground := Ground.data }, { on := 11, ground := Ground.data }], guard := none } : Oper)) rfl (fun K5 hK5 => ?_) ?_
                                · go_simp
                                  refine hK5 _ _ ?_
                                  clear hK5 K5
                                  try simp only [Act.put, List.setIfInBounds_toArray, List.set_cons_zero, List.set_cons_succ]
                                  refine wpAnyIn_done (by kernel_rfl) ?_ _
                                  first | gi_wp2_with fail | skip
                                  gi_meet
                                  exact ⟨rfl, HbB.out⟩
                                exact AllReadyIn.nil
                              exact AllReadyIn.nil
                            exact AllReadyIn.nil
                          refine AllReadyIn.cons (o := ({ dst := some 99, op := Op.call { callee := Callee.builtin Builtin.len, args := #[Operand.tmp 98], argTypes := #[40] }, type := 3, pos := "law.go:98", after := #[{ on := 9, ground := Ground.data }, { on := 6, ground := Ground.guard }], guard := some (6, false) } : Oper)) rfl (fun K5 hK5 => ?_) ?_
                          · go_simp
                            refine hK5 _ _ ?_
                            clear hK5 K5
                            try simp only [Act.put, List.setIfInBounds_toArray, List.set_cons_zero, List.set_cons_succ]
                            refine wpAnyIn_ready (rs := [8]) (by kernel_rfl) (by simp) ?_
                            refine AllReadyIn.cons (o := ({ dst := some 97, op := Op.call { callee := Callee.builtin Builtin.len, args := #[Operand.tmp 96], argTypes := #[40] }, type := 3, pos := "law.go:98", after := #[{ on := 7, ground := Ground.data }, { on := 6, ground := Ground.guard }], guard := some (6, false) } : Oper)) rfl (fun K5 hK5 => ?_) ?_
                            · go_simp
                              refine hK5 _ _ ?_
                              clear hK5 K5
                              try simp only [Act.put, List.setIfInBounds_toArray, List.set_cons_zero, List.set_cons_succ]
                              refine wpAnyIn_ready (rs := [11]) (by kernel_rfl) (by simp) ?_
                              refine AllReadyIn.cons (o := ({ dst := some 100, op := Op.binOp BinOp.neq 3 (Operand.tmp 97) (Operand.tmp 99) 3, type := 4, pos := "law.go:98", after := #[{ on := 8, ground := Ground.data }, { on := 10, ground := Ground.data }, { on := 6, ground := Ground.guard }], guard := some (6, false) } : Oper)) rfl (fun K5 hK5 => ?_) ?_
                              · go_simp
                                refine hK5 _ _ ?_
                                clear hK5 K5
                                try simp only [Act.put, List.setIfInBounds_toArray, List.set_cons_zero, List.set_cons_succ]
                                refine wpAnyIn_ready (rs := [12]) (by kernel_rfl) (by simp) ?_
                                refine AllReadyIn.cons (o := ({ dst := some 101, op := Op.pick (Operand.tmp 95) (Operand.const (Value.bool true)) (Operand.tmp 100), type := 4, pos := "law.go:98", after := #[{ on := 6, ground := Ground.data }, { on := 11, ground := Ground.data }], guard := none } : Oper)) rfl (fun K5 hK5 => ?_) ?_
                                · go_simp
                                  refine hK5 _ _ ?_
                                  clear hK5 K5
                                  try simp only [Act.put, List.setIfInBounds_toArray, List.set_cons_zero, List.set_cons_succ]
                                  refine wpAnyIn_done (by kernel_rfl) ?_ _
                                  first | gi_wp2_with fail | skip
                                  gi_meet
                                  exact ⟨rfl, HbB.out⟩
                                exact AllReadyIn.nil
                              exact AllReadyIn.nil
                            exact AllReadyIn.nil
                          exact AllReadyIn.nil
                        exact AllReadyIn.nil
                      refine AllReadyIn.cons (o := ({ dst := some 98, op := Op.move (Operand.tmp 18), type := 40, pos := "law.go:98", after := #[{ on := 6, ground := Ground.guard }], guard := some (6, false) } : Oper)) rfl (fun K5 hK5 => ?_) ?_
                      · go_simp
                        refine hK5 _ _ ?_
                        clear hK5 K5
                        try simp only [Act.put, List.setIfInBounds_toArray, List.set_cons_zero, List.set_cons_succ]
                        refine wpAnyIn_ready (rs := [7, 10]) (by kernel_rfl) (by simp) ?_
                        refine AllReadyIn.cons (o := ({ dst := some 96, op := Op.load 40 (Operand.tmp 15), type := 40, pos := "law.go:98", after := #[{ on := 6, ground := Ground.guard }], guard := some (6, false) } : Oper)) rfl (fun K5 hK5 => ?_) ?_
                        · go_simp
                          refine hK5 _ _ ?_
                          clear hK5 K5
                          try simp only [Act.put, List.setIfInBounds_toArray, List.set_cons_zero, List.set_cons_succ]
                          refine wpAnyIn_ready (rs := [8, 10]) (by kernel_rfl) (by simp) ?_
                          refine AllReadyIn.cons (o := ({ dst := some 97, op := Op.call { callee := Callee.builtin Builtin.len, args := #[Operand.tmp 96], argTypes := #[40] }, type := 3, pos := "law.go:98", after := #[{ on := 7, ground := Ground.data }, { on := 6, ground := Ground.guard }], guard := some (6, false) } : Oper)) rfl (fun K5 hK5 => ?_) ?_
                          · go_simp
                            refine hK5 _ _ ?_
                            clear hK5 K5
                            try simp only [Act.put, List.setIfInBounds_toArray, List.set_cons_zero, List.set_cons_succ]
                            refine wpAnyIn_ready (rs := [10]) (by kernel_rfl) (by simp) ?_
                            refine AllReadyIn.cons (o := ({ dst := some 99, op := Op.call { callee := Callee.builtin Builtin.len, args := #[Operand.tmp 98], argTypes := #[40] }, type := 3, pos := "law.go:98", after := #[{ on := 9, ground := Ground.data }, { on := 6, ground := Ground.guard }], guard := some (6, false) } : Oper)) rfl (fun K5 hK5 => ?_) ?_
                            · go_simp
                              refine hK5 _ _ ?_
                              clear hK5 K5
                              try simp only [Act.put, List.setIfInBounds_toArray, List.set_cons_zero, List.set_cons_succ]
                              refine wpAnyIn_ready (rs := [11]) (by kernel_rfl) (by simp) ?_
                              refine AllReadyIn.cons (o := ({ dst := some 100, op := Op.binOp BinOp.neq 3 (Operand.tmp 97) (Operand.tmp 99) 3, type := 4, pos := "law.go:98", after := #[{ on := 8, ground := Ground.data }, { on := 10, ground := Ground.data }, { on := 6, ground := Ground.guard }], guard := some (6, false) } : Oper)) rfl (fun K5 hK5 => ?_) ?_
                              · go_simp
                                refine hK5 _ _ ?_
                                clear hK5 K5
                                try simp only [Act.put, List.setIfInBounds_toArray, List.set_cons_zero, List.set_cons_succ]
                                refine wpAnyIn_ready (rs := [12]) (by kernel_rfl) (by simp) ?_
                                refine AllReadyIn.cons (o := ({ dst := some 101, op := Op.pick (Operand.tmp 95) (Operand.const (Value.bool true)) (Operand.tmp 100), type := 4, pos := "law.go:98", after := #[{ on := 6, ground := Ground.data }, { on := 11, ground := Ground.data }], guard := none } : Oper)) rfl (fun K5 hK5 => ?_) ?_
                                · go_simp
                                  refine hK5 _ _ ?_
                                  clear hK5 K5
                                  try simp only [Act.put, List.setIfInBounds_toArray, List.set_cons_zero, List.set_cons_succ]
                                  refine wpAnyIn_done (by kernel_rfl) ?_ _
                                  first | gi_wp2_with fail | skip
                                  gi_meet
                                  exact ⟨rfl, HbB.out⟩
                                exact AllReadyIn.nil
                              exact AllReadyIn.nil
                            exact AllReadyIn.nil
                          refine AllReadyIn.cons (o := ({ dst := some 99, op := Op.call { callee := Callee.builtin Builtin.len, args := #[Operand.tmp 98], argTypes := #[40] }, type := 3, pos := "law.go:98", after := #[{ on := 9, ground := Ground.data }, { on := 6, ground := Ground.guard }], guard := some (6, false) } : Oper)) rfl (fun K5 hK5 => ?_) ?_
                          · go_simp
                            refine hK5 _ _ ?_
                            clear hK5 K5
                            try simp only [Act.put, List.setIfInBounds_toArray, List.set_cons_zero, List.set_cons_succ]
                            refine wpAnyIn_ready (rs := [8]) (by kernel_rfl) (by simp) ?_
                            refine AllReadyIn.cons (o := ({ dst := some 97, op := Op.call { callee := Callee.builtin Builtin.len, args := #[Operand.tmp 96], argTypes := #[40] }, type := 3, pos := "law.go:98", after := #[{ on := 7, ground := Ground.data }, { on := 6, ground := Ground.guard }], guard := some (6, false) } : Oper)) rfl (fun K5 hK5 => ?_) ?_
                            · go_simp
                              refine hK5 _ _ ?_
                              clear hK5 K5
                              try simp only [Act.put, List.setIfInBounds_toArray, List.set_cons_zero, List.set_cons_succ]
                              refine wpAnyIn_ready (rs := [11]) (by kernel_rfl) (by simp) ?_
                              refine AllReadyIn.cons (o := ({ dst := some 100, op := Op.binOp BinOp.neq 3 (Operand.tmp 97) (Operand.tmp 99) 3, type := 4, pos := "law.go:98", after := #[{ on := 8, ground := Ground.data }, { on := 10, ground := Ground.data }, { on := 6, ground := Ground.guard }], guard := some (6, false) } : Oper)) rfl (fun K5 hK5 => ?_) ?_
                              · go_simp
                                refine hK5 _ _ ?_
                                clear hK5 K5
                                try simp only [Act.put, List.setIfInBounds_toArray, List.set_cons_zero, List.set_cons_succ]
                                refine wpAnyIn_ready (rs := [12]) (by kernel_rfl) (by simp) ?_
                                refine AllReadyIn.cons (o := ({ dst := some 101, op := Op.pick (Operand.tmp 95) (Operand.const (Value.bool true)) (Operand.tmp 100), type := 4, pos := "law.go:98", after := #[{ on := 6, ground := Ground.data }, { on := 11, ground := Ground.data }], guard := none } : Oper)) rfl (fun K5 hK5 => ?_) ?_
                                · go_simp
                                  refine hK5 _ _ ?_
                                  clear hK5 K5
                                  try simp only [Act.put, List.setIfInBounds_toArray, List.set_cons_zero, List.set_cons_succ]
                                  refine wpAnyIn_done (by kernel_rfl) ?_ _
                                  first | gi_wp2_with fail | skip
                                  gi_meet
                                  exact ⟨rfl, HbB.out⟩
                                exact AllReadyIn.nil
                              exact AllReadyIn.nil
                            exact AllReadyIn.nil
                          exact AllReadyIn.nil
                        refine AllReadyIn.cons (o := ({ dst := some 99, op := Op.call { callee := Callee.builtin Builtin.len, args := #[Operand.tmp 98], argTypes := #[40] }, type := 3, pos := "law.go:98", after := #[{ on := 9, ground := Ground.data }, { on := 6, ground := Ground.guard }], guard := some (6, false) } : Oper)) rfl (fun K5 hK5 => ?_) ?_
                        · go_simp
                          refine hK5 _ _ ?_
                          clear hK5 K5
                          try simp only [Act.put, List.setIfInBounds_toArray, List.set_cons_zero, List.set_cons_succ]
                          refine wpAnyIn_ready (rs := [7]) (by kernel_rfl) (by simp) ?_
                          refine AllReadyIn.cons (o := ({ dst := some 96, op := Op.load 40 (Operand.tmp 15), type := 40, pos := "law.go:98", after := #[{ on := 6, ground := Ground.guard }], guard := some (6, false) } : Oper)) rfl (fun K5 hK5 => ?_) ?_
                          · go_simp
                            refine hK5 _ _ ?_
                            clear hK5 K5
                            try simp only [Act.put, List.setIfInBounds_toArray, List.set_cons_zero, List.set_cons_succ]
                            refine wpAnyIn_ready (rs := [8]) (by kernel_rfl) (by simp) ?_
                            refine AllReadyIn.cons (o := ({ dst := some 97, op := Op.call { callee := Callee.builtin Builtin.len, args := #[Operand.tmp 96], argTypes := #[40] }, type := 3, pos := "law.go:98", after := #[{ on := 7, ground := Ground.data }, { on := 6, ground := Ground.guard }], guard := some (6, false) } : Oper)) rfl (fun K5 hK5 => ?_) ?_
                            · go_simp
                              refine hK5 _ _ ?_
                              clear hK5 K5
                              try simp only [Act.put, List.setIfInBounds_toArray, List.set_cons_zero, List.set_cons_succ]
                              refine wpAnyIn_ready (rs := [11]) (by kernel_rfl) (by simp) ?_
                              refine AllReadyIn.cons (o := ({ dst := some 100, op := Op.binOp BinOp.neq 3 (Operand.tmp 97) (Operand.tmp 99) 3, type := 4, pos := "law.go:98", after := #[{ on := 8, ground := Ground.data }, { on := 10, ground := Ground.data }, { on := 6, ground := Ground.guard }], guard := some (6, false) } : Oper)) rfl (fun K5 hK5 => ?_) ?_
                              · go_simp
                                refine hK5 _ _ ?_
                                clear hK5 K5
                                try simp only [Act.put, List.setIfInBounds_toArray, List.set_cons_zero, List.set_cons_succ]
                                refine wpAnyIn_ready (rs := [12]) (by kernel_rfl) (by simp) ?_
                                refine AllReadyIn.cons (o := ({ dst := some 101, op := Op.pick (Operand.tmp 95) (Operand.const (Value.bool true)) (Operand.tmp 100), type := 4, pos := "law.go:98", after := #[{ on := 6, ground := Ground.data }, { on := 11, ground := Ground.data }], guard := none } : Oper)) rfl (fun K5 hK5 => ?_) ?_
                                · go_simp
                                  refine hK5 _ _ ?_
                                  clear hK5 K5
                                  try simp only [Act.put, List.setIfInBounds_toArray, List.set_cons_zero, List.set_cons_succ]
                                  refine wpAnyIn_done (by kernel_rfl) ?_ _
                                  first | gi_wp2_with fail | skip
                                  gi_meet
                                  exact ⟨rfl, HbB.out⟩
                                exact AllReadyIn.nil
                              exact AllReadyIn.nil
                            exact AllReadyIn.nil
                          exact AllReadyIn.nil
                        exact AllReadyIn.nil
                      exact AllReadyIn.nil
                    exact AllReadyIn.nil
                  exact AllReadyIn.nil
                exact AllReadyIn.nil
              exact AllReadyIn.nil
            exact AllReadyIn.nil
          exact AllReadyIn.nil
        refine AllReadyIn.cons (o := ({ dst := some 90, op := Op.fieldAddr 24 (Operand.tmp 2) 0, type := 0, pos := "law.go:98", after := #[], guard := none } : Oper)) rfl (fun K5 hK5 => ?_) ?_
        · go_simp
          refine hK5 _ _ ?_
          clear hK5 K5
          try simp only [Act.put, List.setIfInBounds_toArray, List.set_cons_zero, List.set_cons_succ]
          refine wpAnyIn_ready (rs := [0, 2]) (by kernel_rfl) (by simp) ?_
          refine AllReadyIn.cons (o := ({ dst := some 89, op := Op.load 39 (Operand.tmp 14), type := 39, pos := "law.go:98", after := #[], guard := none } : Oper)) rfl (fun K5 hK5 => ?_) ?_
          · go_simp
            refine hK5 _ _ ?_
            clear hK5 K5
            try simp only [Act.put, List.setIfInBounds_toArray, List.set_cons_zero, List.set_cons_succ]
            refine wpAnyIn_ready (rs := [2]) (by kernel_rfl) (by simp) ?_
            refine AllReadyIn.cons (o := ({ dst := some 91, op := Op.load 9 (Operand.tmp 90), type := 9, pos := "law.go:98", after := #[{ on := 1, ground := Ground.data }], guard := none } : Oper)) rfl (fun K5 hK5 => ?_) ?_
            · go_simp
              refine hK5 _ _ ?_
              clear hK5 K5
              try simp only [Act.put, List.setIfInBounds_toArray, List.set_cons_zero, List.set_cons_succ]
              refine wpAnyIn_ready (rs := [3]) (by kernel_rfl) (by simp) ?_
              refine AllReadyIn.cons (o := ({ dst := some 92, op := Op.call { callee := Callee.value (Operand.func 16), args := #[Operand.tmp 91], argTypes := #[9] }, type := 50, pos := "law.go:98", after := #[{ on := 2, ground := Ground.data }], guard := none } : Oper)) rfl (fun K5 hK5 => ?_) ?_
              · go_simp
                refine ⟨trivial, ?_⟩
                refine (callsIn_wide.2 (HSg.out Y1.drew)).mono ?_; rintro e wA ⟨v5, rfl, own5, bA⟩; obtain ⟨o5, p5, rfl, h5⟩ := rows_at own5; rw [HN.out]; have bA : Below Y1.heap.size Y1 wA := (by first | exact ⟨bA.os, bA.tape, bA.output, bA.size, bA.block⟩ | exact bA); have kA1 := (bA.cell (p := ⟨w9.heap.size, 0, none⟩) l1).trans kB1; have kA2 := (bA.cell (p := ⟨w9.heap.size + 1, 0, none⟩) l2).trans kB2; have HbA := hideS (And.intro bA h5); clear bA own5 h5
                refine hK5 _ _ ?_
                clear hK5 K5
                try simp only [Act.put, List.setIfInBounds_toArray, List.set_cons_zero, List.set_cons_succ]
                refine wpAnyIn_ready (rs := [4]) (by kernel_rfl) (by simp) ?_
                refine AllReadyIn.cons (o := ({ dst := some 93, op := Op.call { callee := Callee.value (Operand.func 15), args := #[Operand.tmp 89, Operand.tmp 92], argTypes := #[39, 50] }, type := 4, pos := "law.go:98", after := #[{ on := 0, ground := Ground.data }, { on := 3, ground := Ground.data }, { on := 3, ground := Ground.chain }], guard := none } : Oper)) rfl (fun K5 hK5 => ?_) ?_
                · go_simp
                  refine ⟨trivial, ?_⟩
                  rw [← HN.out]; refine (callsIn_wide.2 (HAk.out wA o5 p5 (fun n hn => by obtain ⟨g, e1, e2, _, e4⟩ := HSA.out.1 n hn; exact ⟨g, e1, e4.below HbA.out.1 e2⟩) (fun n hn => by obtain ⟨g, e1, e2, _, e4⟩ := HbA.out.2 n hn; exact ⟨g, e1, e4⟩))).mono ?_; rintro e wB ⟨rfl, bB⟩; rw [HN.out]; have bB : Below Y1.heap.size Y1 wB := bupS HbA.out.1 bB; have kC2 := (bB.cell (p := ⟨w9.heap.size + 1, 0, none⟩) l2).trans kB2; have HbB := hideS bB; clear bB
                  refine hK5 _ _ ?_
                  clear hK5 K5
                  try simp only [Act.put, List.setIfInBounds_toArray, List.set_cons_zero, List.set_cons_succ]
                  refine wpAnyIn_ready (rs := [5]) (by kernel_rfl) (by simp) ?_
                  refine AllReadyIn.cons (o := ({ dst := some 94, op := Op.unOp UnOp.not 4 (Operand.tmp 93), type := 4, pos := "law.go:98", after := #[{ on := 4, ground := Ground.data }], guard := none } : Oper)) rfl (fun K5 hK5 => ?_) ?_
                  · go_simp
                    refine hK5 _ _ ?_
                    clear hK5 K5
                    try simp only [Act.put, List.setIfInBounds_toArray, List.set_cons_zero, List.set_cons_succ]
                    refine wpAnyIn_ready (rs := [6]) (by kernel_rfl) (by simp) ?_
                    refine AllReadyIn.cons (o := ({ dst := some 95, op := Op.move (Operand.tmp 94), type := 4, pos := "law.go:98", after := #[{ on := 5, ground := Ground.data }, { on := 4, ground := Ground.chain }], guard := none } : Oper)) rfl (fun K5 hK5 => ?_) ?_
                    · go_simp
                      refine hK5 _ _ ?_
                      clear hK5 K5
                      try simp only [Act.put, List.setIfInBounds_toArray, List.set_cons_zero, List.set_cons_succ]
                      refine wpAnyIn_ready (rs := [7, 9]) (by kernel_rfl) (by simp) ?_
                      refine AllReadyIn.cons (o := ({ dst := some 96, op := Op.load 40 (Operand.tmp 15), type := 40, pos := "law.go:98", after := #[{ on := 6, ground := Ground.guard }], guard := some (6, false) } : Oper)) rfl (fun K5 hK5 => ?_) ?_
                      · go_simp
                        refine hK5 _ _ ?_
                        clear hK5 K5
                        try simp only [Act.put, List.setIfInBounds_toArray, List.set_cons_zero, List.set_cons_succ]
                        refine wpAnyIn_ready (rs := [8, 9]) (by kernel_rfl) (by simp) ?_
                        refine AllReadyIn.cons (o := ({ dst := some 97, op := Op.call { callee := Callee.builtin Builtin.len, args := #[Operand.tmp 96], argTypes := #[40] }, type := 3, pos := "law.go:98", after := #[{ on := 7, ground := Ground.data }, { on := 6, ground := Ground.guard }], guard := some (6, false) } : Oper)) rfl (fun K5 hK5 => ?_) ?_
                        · go_simp
                          refine hK5 _ _ ?_
                          clear hK5 K5
                          try simp only [Act.put, List.setIfInBounds_toArray, List.set_cons_zero, List.set_cons_succ]
                          refine wpAnyIn_ready (rs := [9]) (by kernel_rfl) (by simp) ?_
                          refine AllReadyIn.cons (o := ({ dst := some 98, op := Op.move (Operand.tmp 18), type := 40, pos := "law.go:98", after := #[{ on := 6, ground := Ground.guard }], guard := some (6, false) } : Oper)) rfl (fun K5 hK5 => ?_) ?_
                          · go_simp
                            refine hK5 _ _ ?_
                            clear hK5 K5
                            try simp only [Act.put, List.setIfInBounds_toArray, List.set_cons_zero, List.set_cons_succ]
                            refine wpAnyIn_ready (rs := [10]) (by kernel_rfl) (by simp) ?_
                            refine AllReadyIn.cons (o := ({ dst := some 99, op := Op.call { callee := Callee.builtin Builtin.len, args := #[Operand.tmp 98], argTypes := #[40] }, type := 3, pos := "law.go:98", after := #[{ on := 9, ground := Ground.data }, { on := 6, ground := Ground.guard }], guard := some (6, false) } : Oper)) rfl (fun K5 hK5 => ?_) ?_
                            · go_simp
                              refine hK5 _ _ ?_
                              clear hK5 K5
                              try simp only [Act.put, List.setIfInBounds_toArray, List.set_cons_zero, List.set_cons_succ]
                              refine wpAnyIn_ready (rs := [11]) (by kernel_rfl) (by simp) ?_
                              refine AllReadyIn.cons (o := ({ dst := some 100, op := Op.binOp BinOp.neq 3 (Operand.tmp 97) (Operand.tmp 99) 3, type := 4, pos := "law.go:98", after := #[{ on := 8, ground := Ground.data }, { on := 10, ground := Ground.data }, { on := 6, ground := Ground.guard }], guard := some (6, false) } : Oper)) rfl (fun K5 hK5 => ?_) ?_
                              · go_simp
                                refine hK5 _ _ ?_
                                clear hK5 K5
                                try simp only [Act.put, List.setIfInBounds_toArray, List.set_cons_zero, List.set_cons_succ]
                                refine wpAnyIn_ready (rs := [12]) (by kernel_rfl) (by simp) ?_
                                refine AllReadyIn.cons (o := ({ dst := some 101, op := Op.pick (Operand.tmp 95) (Operand.const (Value.bool true)) (Operand.tmp 100), type := 4, pos := "law.go:98", after := #[{ on := 6, ground := Ground.data }, { on := 11, ground := Ground.data }], guard := none } : Oper)) rfl (fun K5 hK5 => ?_) ?_
                                · go_simp
                                  refine hK5 _ _ ?_
                                  clear hK5 K5
                                  try simp only [Act.put, List.setIfInBounds_toArray, List.set_cons_zero, List.set_cons_succ]
                                  refine wpAnyIn_done (by kernel_rfl) ?_ _
                                  first | gi_wp2_with fail | skip
                                  gi_meet
                                  exact ⟨rfl, HbB.out⟩
                                exact AllReadyIn.nil
                              exact AllReadyIn.nil
                            exact AllReadyIn.nil
                          exact AllReadyIn.nil
                        refine AllReadyIn.cons (o := ({ dst := some 98, op := Op.move (Operand.tmp 18), type := 40, pos := "law.go:98", after := #[{ on := 6, ground := Ground.guard }], guard := some (6, false) } : Oper)) rfl (fun K5 hK5 => ?_) ?_
                        · go_simp
                          refine hK5 _ _ ?_
                          clear hK5 K5
                          try simp only [Act.put, List.setIfInBounds_toArray, List.set_cons_zero, List.set_cons_succ]
                          refine wpAnyIn_ready (rs := [8, 10]) (by kernel_rfl) (by simp) ?_
                          refine AllReadyIn.cons (o := ({ dst := some 97, op := Op.call { callee := Callee.builtin Builtin.len, args := #[Operand.tmp 96], argTypes := #[40] }, type := 3, pos := "law.go:98", after := #[{ on := 7, ground := Ground.data }, { on := 6, ground := Ground.guard }], guard := some (6, false) } : Oper)) rfl (fun K5 hK5 => ?_) ?_
                          · go_simp
                            refine hK5 _ _ ?_
                            clear hK5 K5
                            try simp only [Act.put, List.setIfInBounds_toArray, List.set_cons_zero, List.set_cons_succ]
                            refine wpAnyIn_ready (rs := [10]) (by kernel_rfl) (by simp) ?_
                            refine AllReadyIn.cons (o := ({ dst := some 99, op := Op.call { callee := Callee.builtin Builtin.len, args := #[Operand.tmp 98], argTypes := #[40] }, type := 3, pos := "law.go:98", after := #[{ on := 9, ground := Ground.data }, { on := 6, ground := Ground.guard }], guard := some (6, false) } : Oper)) rfl (fun K5 hK5 => ?_) ?_
                            · go_simp
                              refine hK5 _ _ ?_
                              clear hK5 K5
                              try simp only [Act.put, List.setIfInBounds_toArray, List.set_cons_zero, List.set_cons_succ]
                              refine wpAnyIn_ready (rs := [11]) (by kernel_rfl) (by simp) ?_
                              refine AllReadyIn.cons (o := ({ dst := some 100, op := Op.binOp BinOp.neq 3 (Operand.tmp 97) (Operand.tmp 99) 3, type := 4, pos := "law.go:98", after := #[{ on := 8, ground := Ground.data }, { on := 10, ground := Ground.data }, { on := 6, ground := Ground.guard }], guard := some (6, false) } : Oper)) rfl (fun K5 hK5 => ?_) ?_
                              · go_simp
                                refine hK5 _ _ ?_
                                clear hK5 K5
                                try simp only [Act.put, List.setIfInBounds_toArray, List.set_cons_zero, List.set_cons_succ]
                                refine wpAnyIn_ready (rs := [12]) (by kernel_rfl) (by simp) ?_
                                refine AllReadyIn.cons (o := ({ dst := some 101, op := Op.pick (Operand.tmp 95) (Operand.const (Value.bool true)) (Operand.tmp 100), type := 4, pos := "law.go:98", after := #[{ on := 6, ground := Ground.data }, { on := 11, ground := Ground.data }], guard := none } : Oper)) rfl (fun K5 hK5 => ?_) ?_
                                · go_simp
                                  refine hK5 _ _ ?_
                                  clear hK5 K5
                                  try simp only [Act.put, List.setIfInBounds_toArray, List.set_cons_zero, List.set_cons_succ]
                                  refine wpAnyIn_done (by kernel_rfl) ?_ _
                                  first | gi_wp2_with fail | skip
                                  gi_meet
                                  exact ⟨rfl, HbB.out⟩
                                exact AllReadyIn.nil
                              exact AllReadyIn.nil
                            exact AllReadyIn.nil
                          refine AllReadyIn.cons (o := ({ dst := some 99, op := Op.call { callee := Callee.builtin Builtin.len, args := #[Operand.tmp 98], argTypes := #[40] }, type := 3, pos := "law.go:98", after := #[{ on := 9, ground := Ground.data }, { on := 6, ground := Ground.guard }], guard := some (6, false) } : Oper)) rfl (fun K5 hK5 => ?_) ?_
                          · go_simp
                            refine hK5 _ _ ?_
                            clear hK5 K5
                            try simp only [Act.put, List.setIfInBounds_toArray, List.set_cons_zero, List.set_cons_succ]
                            refine wpAnyIn_ready (rs := [8]) (by kernel_rfl) (by simp) ?_
                            refine AllReadyIn.cons (o := ({ dst := some 97, op := Op.call { callee := Callee.builtin Builtin.len, args := #[Operand.tmp 96], argTypes := #[40] }, type := 3, pos := "law.go:98", after := #[{ on := 7, ground := Ground.data }, { on := 6, ground := Ground.guard }], guard := some (6, false) } : Oper)) rfl (fun K5 hK5 => ?_) ?_
                            · go_simp
                              refine hK5 _ _ ?_
                              clear hK5 K5
                              try simp only [Act.put, List.setIfInBounds_toArray, List.set_cons_zero, List.set_cons_succ]
                              refine wpAnyIn_ready (rs := [11]) (by kernel_rfl) (by simp) ?_
                              refine AllReadyIn.cons (o := ({ dst := some 100, op := Op.binOp BinOp.neq 3 (Operand.tmp 97) (Operand.tmp 99) 3, type := 4, pos := "law.go:98", after := #[{ on := 8, ground := Ground.data }, { on := 10, ground := Ground.data }, { on := 6, ground := Ground.guard }], guard := some (6, false) } : Oper)) rfl (fun K5 hK5 => ?_) ?_
                              · go_simp
                                refine hK5 _ _ ?_
                                clear hK5 K5
                                try simp only [Act.put, List.setIfInBounds_toArray, List.set_cons_zero, List.set_cons_succ]
                                refine wpAnyIn_ready (rs := [12]) (by kernel_rfl) (by simp) ?_
                                refine AllReadyIn.cons (o := ({ dst := some 101, op := Op.pick (Operand.tmp 95) (Operand.const (Value.bool true)) (Operand.tmp 100), type := 4, pos := "law.go:98", after := #[{ on := 6, ground := Ground.data }, { on := 11, ground := Ground.data }], guard := none } : Oper)) rfl (fun K5 hK5 => ?_) ?_
                                · go_simp
                                  refine hK5 _ _ ?_
                                  clear hK5 K5
                                  try simp only [Act.put, List.setIfInBounds_toArray, List.set_cons_zero, List.set_cons_succ]
                                  refine wpAnyIn_done (by kernel_rfl) ?_ _
                                  first | gi_wp2_with fail | skip
                                  gi_meet
                                  exact ⟨rfl, HbB.out⟩
                                exact AllReadyIn.nil
                              exact AllReadyIn.nil
                            exact AllReadyIn.nil
                          exact AllReadyIn.nil
                        exact AllReadyIn.nil
                      refine AllReadyIn.cons (o := ({ dst := some 98, op := Op.move (Operand.tmp 18), type := 40, pos := "law.go:98", after := #[{ on := 6, ground := Ground.guard }], guard := some (6, false) } : Oper)) rfl (fun K5 hK5 => ?_) ?_
                      · go_simp
                        refine hK5 _ _ ?_
                        clear hK5 K5
                        try simp only [Act.put, List.setIfInBounds_toArray, List.set_cons_zero, List.set_cons_succ]
                        refine wpAnyIn_ready (rs := [7, 10]) (by kernel_rfl) (by simp) ?_
                        refine AllReadyIn.cons (o := ({ dst := some 96, op := Op.load 40 (Operand.tmp 15), type := 40, pos := "law.go:98", after := #[{ on := 6, ground := Ground.guard }], guard := some (6, false) } : Oper)) rfl (fun K5 hK5 => ?_) ?_
                        · go_simp
                          refine hK5 _ _ ?_
                          clear hK5 K5
                          try simp only [Act.put, List.setIfInBounds_toArray, List.set_cons_zero, List.set_cons_succ]
                          refine wpAnyIn_ready (rs := [8, 10]) (by kernel_rfl) (by simp) ?_
                          refine AllReadyIn.cons (o := ({ dst := some 97, op := Op.call { callee := Callee.builtin Builtin.len, args := #[Operand.tmp 96], argTypes := #[40] }, type := 3, pos := "law.go:98", after := #[{ on := 7, ground := Ground.data }, { on := 6, ground := Ground.guard }], guard := some (6, false) } : Oper)) rfl (fun K5 hK5 => ?_) ?_
                          · go_simp
                            refine hK5 _ _ ?_
                            clear hK5 K5
                            try simp only [Act.put, List.setIfInBounds_toArray, List.set_cons_zero, List.set_cons_succ]
                            refine wpAnyIn_ready (rs := [10]) (by kernel_rfl) (by simp) ?_
                            refine AllReadyIn.cons (o := ({ dst := some 99, op := Op.call { callee := Callee.builtin Builtin.len, args := #[Operand.tmp 98], argTypes := #[40] }, type := 3, pos := "law.go:98", after := #[{ on := 9, ground := Ground.data }, { on := 6, ground := Ground.guard }], guard := some (6, false) } : Oper)) rfl (fun K5 hK5 => ?_) ?_
                            · go_simp
                              refine hK5 _ _ ?_
                              clear hK5 K5
                              try simp only [Act.put, List.setIfInBounds_toArray, List.set_cons_zero, List.set_cons_succ]
                              refine wpAnyIn_ready (rs := [11]) (by kernel_rfl) (by simp) ?_
                              refine AllReadyIn.cons (o := ({ dst := some 100, op := Op.binOp BinOp.neq 3 (Operand.tmp 97) (Operand.tmp 99) 3, type := 4, pos := "law.go:98", after := #[{ on := 8, ground := Ground.data }, { on := 10, ground := Ground.data }, { on := 6, ground := Ground.guard }], guard := some (6, false) } : Oper)) rfl (fun K5 hK5 => ?_) ?_
                              · go_simp
                                refine hK5 _ _ ?_
                                clear hK5 K5
                                try simp only [Act.put, List.setIfInBounds_toArray, List.set_cons_zero, List.set_cons_succ]
                                refine wpAnyIn_ready (rs := [12]) (by kernel_rfl) (by simp) ?_
                                refine AllReadyIn.cons (o := ({ dst := some 101, op := Op.pick (Operand.tmp 95) (Operand.const (Value.bool true)) (Operand.tmp 100), type := 4, pos := "law.go:98", after := #[{ on := 6, ground := Ground.data }, { on := 11, ground := Ground.data }], guard := none } : Oper)) rfl (fun K5 hK5 => ?_) ?_
                                · go_simp
                                  refine hK5 _ _ ?_
                                  clear hK5 K5
                                  try simp only [Act.put, List.setIfInBounds_toArray, List.set_cons_zero, List.set_cons_succ]
                                  refine wpAnyIn_done (by kernel_rfl) ?_ _
                                  first | gi_wp2_with fail | skip
                                  gi_meet
                                  exact ⟨rfl, HbB.out⟩
                                exact AllReadyIn.nil
                              exact AllReadyIn.nil
                            exact AllReadyIn.nil
                          refine AllReadyIn.cons (o := ({ dst := some 99, op := Op.call { callee := Callee.builtin Builtin.len, args := #[Operand.tmp 98], argTypes := #[40] }, type := 3, pos := "law.go:98", after := #[{ on := 9, ground := Ground.data }, { on := 6, ground := Ground.guard }], guard := some (6, false) } : Oper)) rfl (fun K5 hK5 => ?_) ?_
                          · go_simp
                            refine hK5 _ _ ?_
                            clear hK5 K5
                            try simp only [Act.put, List.setIfInBounds_toArray, List.set_cons_zero, List.set_cons_succ]
                            refine wpAnyIn_ready (rs := [8]) (by kernel_rfl) (by simp) ?_
                            refine AllReadyIn.cons (o := ({ dst := some 97, op := Op.call { callee := Callee.builtin Builtin.len, args := #[Operand.tmp 96], argTypes := #[40] }, type := 3, pos := "law.go:98", after := #[{ on := 7, ground := Ground.data }, { on := 6, ground := Ground.guard }], guard := some (6, false) } : Oper)) rfl (fun K5 hK5 => ?_) ?_
                            · go_simp
                              refine hK5 _ _ ?_
                              clear hK5 K5
                              try simp only [Act.put, List.setIfInBounds_toArray, List.set_cons_zero, List.set_cons_succ]
                              refine wpAnyIn_ready (rs := [11]) (by kernel_rfl) (by simp) ?_
                              refine AllReadyIn.cons (o := ({ dst := some 100, op := Op.binOp BinOp.neq 3 (Operand.tmp 97) (Operand.tmp 99) 3, type := 4, pos := "law.go:98", after := #[{ on := 8, ground := Ground.data }, { on := 10, ground := Ground.data }, { on := 6, ground := Ground.guard }], guard := some (6, false) } : Oper)) rfl (fun K5 hK5 => ?_) ?_
                              · go_simp
                                refine hK5 _ _ ?_
                                clear hK5 K5
                                try simp only [Act.put, List.setIfInBounds_toArray, List.set_cons_zero, List.set_cons_succ]
                                refine wpAnyIn_ready (rs := [12]) (by kernel_rfl) (by simp) ?_
                                refine AllReadyIn.cons (o := ({ dst := some 101, op := Op.pick (Operand.tmp 95) (Operand.const (Value.bool true)) (Operand.tmp 100), type := 4, pos := "law.go:98", after := #[{ on := 6, ground := Ground.data }, { on := 11, ground := Ground.data }], guard := none } : Oper)) rfl (fun K5 hK5 => ?_) ?_
                                · go_simp
                                  refine hK5 _ _ ?_
                                  clear hK5 K5
                                  try simp only [Act.put, List.setIfInBounds_toArray, List.set_cons_zero, List.set_cons_succ]
                                  refine wpAnyIn_done (by kernel_rfl) ?_ _
                                  first | gi_wp2_with fail | skip
                                  gi_meet
                                  exact ⟨rfl, HbB.out⟩
                                exact AllReadyIn.nil
                              exact AllReadyIn.nil
                            exact AllReadyIn.nil
                          exact AllReadyIn.nil
                        refine AllReadyIn.cons (o := ({ dst := some 99, op := Op.call { callee := Callee.builtin Builtin.len, args := #[Operand.tmp 98], argTypes := #[40] }, type := 3, pos := "law.go:98", after := #[{ on := 9, ground := Ground.data }, { on := 6, ground := Ground.guard }], guard := some (6, false) } : Oper)) rfl (fun K5 hK5 => ?_) ?_
                        · go_simp
                          refine hK5 _ _ ?_
                          clear hK5 K5
                          try simp only [Act.put, List.setIfInBounds_toArray, List.set_cons_zero, List.set_cons_succ]
                          refine wpAnyIn_ready (rs := [7]) (by kernel_rfl) (by simp) ?_
                          refine AllReadyIn.cons (o := ({ dst := some 96, op := Op.load 40 (Operand.tmp 15), type := 40, pos := "law.go:98", after := #[{ on := 6, ground := Ground.guard }], guard := some (6, false) } : Oper)) rfl (fun K5 hK5 => ?_) ?_
                          · go_simp
                            refine hK5 _ _ ?_
                            clear hK5 K5
                            try simp only [Act.put, List.setIfInBounds_toArray, List.set_cons_zero, List.set_cons_succ]
                            refine wpAnyIn_ready (rs := [8]) (by kernel_rfl) (by simp) ?_
                            refine AllReadyIn.cons (o := ({ dst := some 97, op := Op.call { callee := Callee.builtin Builtin.len, args := #[Operand.tmp 96], argTypes := #[40] }, type := 3, pos := "law.go:98", after := #[{ on := 7, ground := Ground.data }, { on := 6, ground := Ground.guard }], guard := some (6, false) } : Oper)) rfl (fun K5 hK5 => ?_) ?_
                            · go_simp
                              refine hK5 _ _ ?_
                              clear hK5 K5
                              try simp only [Act.put, List.setIfInBounds_toArray, List.set_cons_zero, List.set_cons_succ]
                              refine wpAnyIn_ready (rs := [11]) (by kernel_rfl) (by simp) ?_
                              refine AllReadyIn.cons (o := ({ dst := some 100, op := Op.binOp BinOp.neq 3 (Operand.tmp 97) (Operand.tmp 99) 3, type := 4, pos := "law.go:98", after := #[{ on := 8, ground := Ground.data }, { on := 10, ground := Ground.data }, { on := 6, ground := Ground.guard }], guard := some (6, false) } : Oper)) rfl (fun K5 hK5 => ?_) ?_
                              · go_simp
                                refine hK5 _ _ ?_
                                clear hK5 K5
                                try simp only [Act.put, List.setIfInBounds_toArray, List.set_cons_zero, List.set_cons_succ]
                                refine wpAnyIn_ready (rs := [12]) (by kernel_rfl) (by simp) ?_
                                refine AllReadyIn.cons (o := ({ dst := some 101, op := Op.pick (Operand.tmp 95) (Operand.const (Value.bool true)) (Operand.tmp 100), type := 4, pos := "law.go:98", after := #[{ on := 6, ground := Ground.data }, { on := 11, ground := Ground.data }], guard := none } : Oper)) rfl (fun K5 hK5 => ?_) ?_
                                · go_simp
                                  refine hK5 _ _ ?_
                                  clear hK5 K5
                                  try simp only [Act.put, List.setIfInBounds_toArray, List.set_cons_zero, List.set_cons_succ]
                                  refine wpAnyIn_done (by kernel_rfl) ?_ _
                                  first | gi_wp2_with fail | skip
                                  gi_meet
                                  exact ⟨rfl, HbB.out⟩
                                exact AllReadyIn.nil
                              exact AllReadyIn.nil
                            exact AllReadyIn.nil
                          exact AllReadyIn.nil
                        exact AllReadyIn.nil
                      exact AllReadyIn.nil
                    exact AllReadyIn.nil
                  exact AllReadyIn.nil
                exact AllReadyIn.nil
              exact AllReadyIn.nil
            exact AllReadyIn.nil
          refine AllReadyIn.cons (o := ({ dst := some 91, op := Op.load 9 (Operand.tmp 90), type := 9, pos := "law.go:98", after := #[{ on := 1, ground := Ground.data }], guard := none } : Oper)) rfl (fun K5 hK5 => ?_) ?_
          · go_simp
            refine hK5 _ _ ?_
            clear hK5 K5
            try simp only [Act.put, List.setIfInBounds_toArray, List.set_cons_zero, List.set_cons_succ]
            refine wpAnyIn_ready (rs := [0, 3]) (by kernel_rfl) (by simp) ?_
            refine AllReadyIn.cons (o := ({ dst := some 89, op := Op.load 39 (Operand.tmp 14), type := 39, pos := "law.go:98", after := #[], guard := none } : Oper)) rfl (fun K5 hK5 => ?_) ?_
            · go_simp
              refine hK5 _ _ ?_
              clear hK5 K5
              try simp only [Act.put, List.setIfInBounds_toArray, List.set_cons_zero, List.set_cons_succ]
              refine wpAnyIn_ready (rs := [3]) (by kernel_rfl) (by simp) ?_
              refine AllReadyIn.cons (o := ({ dst := some 92, op := Op.call { callee := Callee.value (Operand.func 16), args := #[Operand.tmp 91], argTypes := #[9] }, type := 50, pos := "law.go:98", after := #[{ on := 2, ground := Ground.data }], guard := none } : Oper)) rfl (fun K5 hK5 => ?_) ?_
              · go_simp
                refine ⟨trivial, ?_⟩
                refine (callsIn_wide.2 (HSg.out Y1.drew)).mono ?_; rintro e wA ⟨v5, rfl, own5, bA⟩; obtain ⟨o5, p5, rfl, h5⟩ := rows_at own5; rw [HN.out]; have bA : Below Y1.heap.size Y1 wA := (by first | exact ⟨bA.os, bA.tape, bA.output, bA.size, bA.block⟩ | exact bA); have kA1 := (bA.cell (p := ⟨w9.heap.size, 0, none⟩) l1).trans kB1; have kA2 := (bA.cell (p := ⟨w9.heap.size + 1, 0, none⟩) l2).trans kB2; have HbA := hideS (And.intro bA h5); clear bA own5 h5
                refine hK5 _ _ ?_
                clear hK5 K5
                try simp only [Act.put, List.setIfInBounds_toArray, List.set_cons_zero, List.set_cons_succ]
                refine wpAnyIn_ready (rs := [4]) (by kernel_rfl) (by simp) ?_
                refine AllReadyIn.cons (o := ({ dst := some 93, op := Op.call { callee := Callee.value (Operand.func 15), args := #[Operand.tmp 89, Operand.tmp 92], argTypes := #[39, 50] }, type := 4, pos := "law.go:98", after := #[{ on := 0, ground := Ground.data }, { on := 3, ground := Ground.data }, { on := 3, ground := Ground.chain }], guard := none } : Oper)) rfl (fun K5 hK5 => ?_) ?_
                · go_simp
                  refine ⟨trivial, ?_⟩
                  rw [← HN.out]; refine (callsIn_wide.2 (HAk.out wA o5 p5 (fun n hn => by obtain ⟨g, e1, e2, _, e4⟩ := HSA.out.1 n hn; exact ⟨g, e1, e4.below HbA.out.1 e2⟩) (fun n hn => by obtain ⟨g, e1, e2, _, e4⟩ := HbA.out.2 n hn; exact ⟨g, e1, e4⟩))).mono ?_; rintro e wB ⟨rfl, bB⟩; rw [HN.out]; have bB : Below Y1.heap.size Y1 wB := bupS HbA.out.1 bB; have kC2 := (bB.cell (p := ⟨w9.heap.size + 1, 0, none⟩) l2).trans kB2; have HbB := hideS bB; clear bB
                  refine hK5 _ _ ?_
                  clear hK5 K5
                  try simp only [Act.put, List.setIfInBounds_toArray, List.set_cons_zero, List.set_cons_succ]
                  refine wpAnyIn_ready (rs := [5]) (by kernel_rfl) (by simp) ?_
                  refine AllReadyIn.cons (o := ({ dst := some 94, op := Op.unOp UnOp.not 4 (Operand.tmp 93), type := 4, pos := "law.go:98", after := #[{ on := 4, ground := Ground.data }], guard := none } : Oper)) rfl (fun K5 hK5 => ?_) ?_
                  · go_simp
                    refine hK5 _ _ ?_
                    clear hK5 K5
                    try simp only [Act.put, List.setIfInBounds_toArray, List.set_cons_zero, List.set_cons_succ]
                    refine wpAnyIn_ready (rs := [6]) (by kernel_rfl) (by simp) ?_
                    refine AllReadyIn.cons (o := ({ dst := some 95, op := Op.move (Operand.tmp 94), type := 4, pos := "law.go:98", after := #[{ on := 5, ground := Ground.data }, { on := 4, ground := Ground.chain }], guard := none } : Oper)) rfl (fun K5 hK5 => ?_) ?_
                    · go_simp
                      refine hK5 _ _ ?_
                      clear hK5 K5
                      try simp only [Act.put, List.setIfInBounds_toArray, List.set_cons_zero, List.set_cons_succ]
                      refine wpAnyIn_ready (rs := [7, 9]) (by kernel_rfl) (by simp) ?_
                      refine AllReadyIn.cons (o := ({ dst := some 96, op := Op.load 40 (Operand.tmp 15), type := 40, pos := "law.go:98", after := #[{ on := 6, ground := Ground.guard }], guard := some (6, false) } : Oper)) rfl (fun K5 hK5 => ?_) ?_
                      · go_simp
                        refine hK5 _ _ ?_
                        clear hK5 K5
                        try simp only [Act.put, List.setIfInBounds_toArray, List.set_cons_zero, List.set_cons_succ]
                        refine wpAnyIn_ready (rs := [8, 9]) (by kernel_rfl) (by simp) ?_
                        refine AllReadyIn.cons (o := ({ dst := some 97, op := Op.call { callee := Callee.builtin Builtin.len, args := #[Operand.tmp 96], argTypes := #[40] }, type := 3, pos := "law.go:98", after := #[{ on := 7, ground := Ground.data }, { on := 6, ground := Ground.guard }], guard := some (6, false) } : Oper)) rfl (fun K5 hK5 => ?_) ?_
                        · go_simp
                          refine hK5 _ _ ?_
                          clear hK5 K5
                          try simp only [Act.put, List.setIfInBounds_toArray, List.set_cons_zero, List.set_cons_succ]
                          refine wpAnyIn_ready (rs := [9]) (by kernel_rfl) (by simp) ?_
                          refine AllReadyIn.cons (o := ({ dst := some 98, op := Op.move (Operand.tmp 18), type := 40, pos := "law.go:98", after := #[{ on := 6, ground := Ground.guard }], guard := some (6, false) } : Oper)) rfl (fun K5 hK5 => ?_) ?_
                          · go_simp
                            refine hK5 _ _ ?_
                            clear hK5 K5
                            try simp only [Act.put, List.setIfInBounds_toArray, List.set_cons_zero, List.set_cons_succ]
                            refine wpAnyIn_ready (rs := [10]) (by kernel_rfl) (by simp) ?_
                            refine AllReadyIn.cons (o := ({ dst := some 99, op := Op.call { callee := Callee.builtin Builtin.len, args := #[Operand.tmp 98], argTypes := #[40] }, type := 3, pos := "law.go:98", after := #[{ on := 9, ground := Ground.data }, { on := 6, ground := Ground.guard }], guard := some (6, false) } : Oper)) rfl (fun K5 hK5 => ?_) ?_
                            · go_simp
                              refine hK5 _ _ ?_
                              clear hK5 K5
                              try simp only [Act.put, List.setIfInBounds_toArray, List.set_cons_zero, List.set_cons_succ]
                              refine wpAnyIn_ready (rs := [11]) (by kernel_rfl) (by simp) ?_
                              refine AllReadyIn.cons (o := ({ dst := some 100, op := Op.binOp BinOp.neq 3 (Operand.tmp 97) (Operand.tmp 99) 3, type := 4, pos := "law.go:98", after := #[{ on := 8, ground := Ground.data }, { on := 10, ground := Ground.data }, { on := 6, ground := Ground.guard }], guard := some (6, false) } : Oper)) rfl (fun K5 hK5 => ?_) ?_
                              · go_simp
                                refine hK5 _ _ ?_
                                clear hK5 K5
                                try simp only [Act.put, List.setIfInBounds_toArray, List.set_cons_zero, List.set_cons_succ]
                                refine wpAnyIn_ready (rs := [12]) (by kernel_rfl) (by simp) ?_
                                refine AllReadyIn.cons (o := ({ dst := some 101, op := Op.pick (Operand.tmp 95) (Operand.const (Value.bool true)) (Operand.tmp 100), type := 4, pos := "law.go:98", after := #[{ on := 6, ground := Ground.data }, { on := 11, ground := Ground.data }], guard := none } : Oper)) rfl (fun K5 hK5 => ?_) ?_
                                · go_simp
                                  refine hK5 _ _ ?_
                                  clear hK5 K5
                                  try simp only [Act.put, List.setIfInBounds_toArray, List.set_cons_zero, List.set_cons_succ]
                                  refine wpAnyIn_done (by kernel_rfl) ?_ _
                                  first | gi_wp2_with fail | skip
                                  gi_meet
                                  exact ⟨rfl, HbB.out⟩
                                exact AllReadyIn.nil
                              exact AllReadyIn.nil
                            exact AllReadyIn.nil
                          exact AllReadyIn.nil
                        refine AllReadyIn.cons (o := ({ dst := some 98, op := Op.move (Operand.tmp 18), type := 40, pos := "law.go:98", after := #[{ on := 6, ground := Ground.guard }], guard := some (6, false) } : Oper)) rfl (fun K5 hK5 => ?_) ?_
                        · go_simp
                          refine hK5 _ _ ?_
                          clear hK5 K5
                          try simp only [Act.put, List.setIfInBounds_toArray, List.set_cons_zero, List.set_cons_succ]
                          refine wpAnyIn_ready (rs := [8, 10]) (by kernel_rfl) (by simp) ?_
                          refine AllReadyIn.cons (o := ({ dst := some 97, op := Op.call { callee := Callee.builtin Builtin.len, args := #[Operand.tmp 96], argTypes := #[40] }, type := 3, pos := "law.go:98", after := #[{ on := 7, ground := Ground.data }, { on := 6, ground := Ground.guard }], guard := some (6, false) } : Oper)) rfl (fun K5 hK5 => ?_) ?_
                          · go_simp
                            refine hK5 _ _ ?_
                            clear hK5 K5
                            try simp only [Act.put, List.setIfInBounds_toArray, List.set_cons_zero, List.set_cons_succ]
                            refine wpAnyIn_ready (rs := [10]) (by kernel_rfl) (by simp) ?_
                            refine AllReadyIn.cons (o := ({ dst := some 99, op := Op.call { callee := Callee.builtin Builtin.len, args := #[Operand.tmp 98], argTypes := #[40] }, type := 3, pos := "law.go:98", after := #[{ on := 9, ground := Ground.data }, { on := 6, ground := Ground.guard }], guard := some (6, false) } : Oper)) rfl (fun K5 hK5 => ?_) ?_
                            · go_simp
                              refine hK5 _ _ ?_
                              clear hK5 K5
                              try simp only [Act.put, List.setIfInBounds_toArray, List.set_cons_zero, List.set_cons_succ]
                              refine wpAnyIn_ready (rs := [11]) (by kernel_rfl) (by simp) ?_
                              refine AllReadyIn.cons (o := ({ dst := some 100, op := Op.binOp BinOp.neq 3 (Operand.tmp 97) (Operand.tmp 99) 3, type := 4, pos := "law.go:98", after := #[{ on := 8, ground := Ground.data }, { on := 10, ground := Ground.data }, { on := 6, ground := Ground.guard }], guard := some (6, false) } : Oper)) rfl (fun K5 hK5 => ?_) ?_
                              · go_simp
                                refine hK5 _ _ ?_
                                clear hK5 K5
                                try simp only [Act.put, List.setIfInBounds_toArray, List.set_cons_zero, List.set_cons_succ]
                                refine wpAnyIn_ready (rs := [12]) (by kernel_rfl) (by simp) ?_
                                refine AllReadyIn.cons (o := ({ dst := some 101, op := Op.pick (Operand.tmp 95) (Operand.const (Value.bool true)) (Operand.tmp 100), type := 4, pos := "law.go:98", after := #[{ on := 6, ground := Ground.data }, { on := 11, ground := Ground.data }], guard := none } : Oper)) rfl (fun K5 hK5 => ?_) ?_
                                · go_simp
                                  refine hK5 _ _ ?_
                                  clear hK5 K5
                                  try simp only [Act.put, List.setIfInBounds_toArray, List.set_cons_zero, List.set_cons_succ]
                                  refine wpAnyIn_done (by kernel_rfl) ?_ _
                                  first | gi_wp2_with fail | skip
                                  gi_meet
                                  exact ⟨rfl, HbB.out⟩
                                exact AllReadyIn.nil
                              exact AllReadyIn.nil
                            exact AllReadyIn.nil
                          refine AllReadyIn.cons (o := ({ dst := some 99, op := Op.call { callee := Callee.builtin Builtin.len, args := #[Operand.tmp 98], argTypes := #[40] }, type := 3, pos := "law.go:98", after := #[{ on := 9, ground := Ground.data }, { on := 6, ground := Ground.guard }], guard := some (6, false) } : Oper)) rfl (fun K5 hK5 => ?_) ?_
                          · go_simp
                            refine hK5 _ _ ?_
                            clear hK5 K5
                            try simp only [Act.put, List.setIfInBounds_toArray, List.set_cons_zero, List.set_cons_succ]
                            refine wpAnyIn_ready (rs := [8]) (by kernel_rfl) (by simp) ?_
                            refine AllReadyIn.cons (o := ({ dst := some 97, op := Op.call { callee := Callee.builtin Builtin.len, args := #[Operand.tmp 96], argTypes := #[40] }, type := 3, pos := "law.go:98", after := #[{ on := 7, ground := Ground.data }, { on := 6, ground := Ground.guard }], guard := some (6, false) } : Oper)) rfl (fun K5 hK5 => ?_) ?_
                            · go_simp
                              refine hK5 _ _ ?_
                              clear hK5 K5
                              try simp only [Act.put, List.setIfInBounds_toArray, List.set_cons_zero, List.set_cons_succ]
                              refine wpAnyIn_ready (rs := [11]) (by kernel_rfl) (by simp) ?_
                              refine AllReadyIn.cons (o := ({ dst := some 100, op := Op.binOp BinOp.neq 3 (Operand.tmp 97) (Operand.tmp 99) 3, type := 4, pos := "law.go:98", after := #[{ on := 8, ground := Ground.data }, { on := 10, ground := Ground.data }, { on := 6, ground := Ground.guard }], guard := some (6, false) } : Oper)) rfl (fun K5 hK5 => ?_) ?_
                              · go_simp
                                refine hK5 _ _ ?_
                                clear hK5 K5
                                try simp only [Act.put, List.setIfInBounds_toArray, List.set_cons_zero, List.set_cons_succ]
                                refine wpAnyIn_ready (rs := [12]) (by kernel_rfl) (by simp) ?_
                                refine AllReadyIn.cons (o := ({ dst := some 101, op := Op.pick (Operand.tmp 95) (Operand.const (Value.bool true)) (Operand.tmp 100), type := 4, pos := "law.go:98", after := #[{ on := 6, ground := Ground.data }, { on := 11, ground := Ground.data }], guard := none } : Oper)) rfl (fun K5 hK5 => ?_) ?_
                                · go_simp
                                  refine hK5 _ _ ?_
                                  clear hK5 K5
                                  try simp only [Act.put, List.setIfInBounds_toArray, List.set_cons_zero, List.set_cons_succ]
                                  refine wpAnyIn_done (by kernel_rfl) ?_ _
                                  first | gi_wp2_with fail | skip
                                  gi_meet
                                  exact ⟨rfl, HbB.out⟩
                                exact AllReadyIn.nil
                              exact AllReadyIn.nil
                            exact AllReadyIn.nil
                          exact AllReadyIn.nil
                        exact AllReadyIn.nil
                      refine AllReadyIn.cons (o := ({ dst := some 98, op := Op.move (Operand.tmp 18), type := 40, pos := "law.go:98", after := #[{ on := 6, ground := Ground.guard }], guard := some (6, false) } : Oper)) rfl (fun K5 hK5 => ?_) ?_
                      · go_simp
                        refine hK5 _ _ ?_
                        clear hK5 K5
                        try simp only [Act.put, List.setIfInBounds_toArray, List.set_cons_zero, List.set_cons_succ]
                        refine wpAnyIn_ready (rs := [7, 10]) (by kernel_rfl) (by simp) ?_
                        refine AllReadyIn.cons (o := ({ dst := some 96, op := Op.load 40 (Operand.tmp 15), type := 40, pos := "law.go:98", after := #[{ on := 6, ground := Ground.guard }], guard := some (6, false) } : Oper)) rfl (fun K5 hK5 => ?_) ?_
                        · go_simp
                          refine hK5 _ _ ?_
                          clear hK5 K5
                          try simp only [Act.put, List.setIfInBounds_toArray, List.set_cons_zero, List.set_cons_succ]
                          refine wpAnyIn_ready (rs := [8, 10]) (by kernel_rfl) (by simp) ?_
                          refine AllReadyIn.cons (o := ({ dst := some 97, op := Op.call { callee := Callee.builtin Builtin.len, args := #[Operand.tmp 96], argTypes := #[40] }, type := 3, pos := "law.go:98", after := #[{ on := 7, ground := Ground.data }, { on := 6, ground := Ground.guard }], guard := some (6, false) } : Oper)) rfl (fun K5 hK5 => ?_) ?_
                          · go_simp
                            refine hK5 _ _ ?_
                            clear hK5 K5
                            try simp only [Act.put, List.setIfInBounds_toArray, List.set_cons_zero, List.set_cons_succ]
                            refine wpAnyIn_ready (rs := [10]) (by kernel_rfl) (by simp) ?_
                            refine AllReadyIn.cons (o := ({ dst := some 99, op := Op.call { callee := Callee.builtin Builtin.len, args := #[Operand.tmp 98], argTypes := #[40] }, type := 3, pos := "law.go:98", after := #[{ on := 9, ground := Ground.data }, { on := 6, ground := Ground.guard }], guard := some (6, false) } : Oper)) rfl (fun K5 hK5 => ?_) ?_
                            · go_simp
                              refine hK5 _ _ ?_
                              clear hK5 K5
                              try simp only [Act.put, List.setIfInBounds_toArray, List.set_cons_zero, List.set_cons_succ]
                              refine wpAnyIn_ready (rs := [11]) (by kernel_rfl) (by simp) ?_
                              refine AllReadyIn.cons (o := ({ dst := some 100, op := Op.binOp BinOp.neq 3 (Operand.tmp 97) (Operand.tmp 99) 3, type := 4, pos := "law.go:98", after := #[{ on := 8, ground := Ground.data }, { on := 10, ground := Ground.data }, { on := 6, ground := Ground.guard }], guard := some (6, false) } : Oper)) rfl (fun K5 hK5 => ?_) ?_
                              · go_simp
                                refine hK5 _ _ ?_
                                clear hK5 K5
                                try simp only [Act.put, List.setIfInBounds_toArray, List.set_cons_zero, List.set_cons_succ]
                                refine wpAnyIn_ready (rs := [12]) (by kernel_rfl) (by simp) ?_
                                refine AllReadyIn.cons (o := ({ dst := some 101, op := Op.pick (Operand.tmp 95) (Operand.const (Value.bool true)) (Operand.tmp 100), type := 4, pos := "law.go:98", after := #[{ on := 6, ground := Ground.data }, { on := 11, ground := Ground.data }], guard := none } : Oper)) rfl (fun K5 hK5 => ?_) ?_
                                · go_simp
                                  refine hK5 _ _ ?_
                                  clear hK5 K5
                                  try simp only [Act.put, List.setIfInBounds_toArray, List.set_cons_zero, List.set_cons_succ]
                                  refine wpAnyIn_done (by kernel_rfl) ?_ _
                                  first | gi_wp2_with fail | skip
                                  gi_meet
                                  exact ⟨rfl, HbB.out⟩
                                exact AllReadyIn.nil
                              exact AllReadyIn.nil
                            exact AllReadyIn.nil
                          refine AllReadyIn.cons (o := ({ dst := some 99, op := Op.call { callee := Callee.builtin Builtin.len, args := #[Operand.tmp 98], argTypes := #[40] }, type := 3, pos := "law.go:98", after := #[{ on := 9, ground := Ground.data }, { on := 6, ground := Ground.guard }], guard := some (6, false) } : Oper)) rfl (fun K5 hK5 => ?_) ?_
                          · go_simp
                            refine hK5 _ _ ?_
                            clear hK5 K5
                            try simp only [Act.put, List.setIfInBounds_toArray, List.set_cons_zero, List.set_cons_succ]
                            refine wpAnyIn_ready (rs := [8]) (by kernel_rfl) (by simp) ?_
                            refine AllReadyIn.cons (o := ({ dst := some 97, op := Op.call { callee := Callee.builtin Builtin.len, args := #[Operand.tmp 96], argTypes := #[40] }, type := 3, pos := "law.go:98", after := #[{ on := 7, ground := Ground.data }, { on := 6, ground := Ground.guard }], guard := some (6, false) } : Oper)) rfl (fun K5 hK5 => ?_) ?_
                            · go_simp
                              refine hK5 _ _ ?_
                              clear hK5 K5
                              try simp only [Act.put, List.setIfInBounds_toArray, List.set_cons_zero, List.set_cons_succ]
                              refine wpAnyIn_ready (rs := [11]) (by kernel_rfl) (by simp) ?_
                              refine AllReadyIn.cons (o := ({ dst := some 100, op := Op.binOp BinOp.neq 3 (Operand.tmp 97) (Operand.tmp 99) 3, type := 4, pos := "law.go:98", after := #[{ on := 8, ground := Ground.data }, { on := 10, ground := Ground.data }, { on := 6, ground := Ground.guard }], guard := some (6, false) } : Oper)) rfl (fun K5 hK5 => ?_) ?_
                              · go_simp
                                refine hK5 _ _ ?_
                                clear hK5 K5
                                try simp only [Act.put, List.setIfInBounds_toArray, List.set_cons_zero, List.set_cons_succ]
                                refine wpAnyIn_ready (rs := [12]) (by kernel_rfl) (by simp) ?_
                                refine AllReadyIn.cons (o := ({ dst := some 101, op := Op.pick (Operand.tmp 95) (Operand.const (Value.bool true)) (Operand.tmp 100), type := 4, pos := "law.go:98", after := #[{ on := 6, ground := Ground.data }, { on := 11, ground := Ground.data }], guard := none } : Oper)) rfl (fun K5 hK5 => ?_) ?_
                                · go_simp
                                  refine hK5 _ _ ?_
                                  clear hK5 K5
                                  try simp only [Act.put, List.setIfInBounds_toArray, List.set_cons_zero, List.set_cons_succ]
                                  refine wpAnyIn_done (by kernel_rfl) ?_ _
                                  first | gi_wp2_with fail | skip
                                  gi_meet
                                  exact ⟨rfl, HbB.out⟩
                                exact AllReadyIn.nil
                              exact AllReadyIn.nil
                            exact AllReadyIn.nil
                          exact AllReadyIn.nil
                        refine AllReadyIn.cons (o := ({ dst := some 99, op := Op.call { callee := Callee.builtin Builtin.len, args := #[Operand.tmp 98], argTypes := #[40] }, type := 3, pos := "law.go:98", after := #[{ on := 9, ground := Ground.data }, { on := 6, ground := Ground.guard }], guard := some (6, false) } : Oper)) rfl (fun K5 hK5 => ?_) ?_
                        · go_simp
                          refine hK5 _ _ ?_
                          clear hK5 K5
                          try simp only [Act.put, List.setIfInBounds_toArray, List.set_cons_zero, List.set_cons_succ]
                          refine wpAnyIn_ready (rs := [7]) (by kernel_rfl) (by simp) ?_
                          refine AllReadyIn.cons (o := ({ dst := some 96, op := Op.load 40 (Operand.tmp 15), type := 40, pos := "law.go:98", after := #[{ on := 6, ground := Ground.guard }], guard := some (6, false) } : Oper)) rfl (fun K5 hK5 => ?_) ?_
                          · go_simp
                            refine hK5 _ _ ?_
                            clear hK5 K5
                            try simp only [Act.put, List.setIfInBounds_toArray, List.set_cons_zero, List.set_cons_succ]
                            refine wpAnyIn_ready (rs := [8]) (by kernel_rfl) (by simp) ?_
                            refine AllReadyIn.cons (o := ({ dst := some 97, op := Op.call { callee := Callee.builtin Builtin.len, args := #[Operand.tmp 96], argTypes := #[40] }, type := 3, pos := "law.go:98", after := #[{ on := 7, ground := Ground.data }, { on := 6, ground := Ground.guard }], guard := some (6, false) } : Oper)) rfl (fun K5 hK5 => ?_) ?_
                            · go_simp
                              refine hK5 _ _ ?_
                              clear hK5 K5
                              try simp only [Act.put, List.setIfInBounds_toArray, List.set_cons_zero, List.set_cons_succ]
                              refine wpAnyIn_ready (rs := [11]) (by kernel_rfl) (by simp) ?_
                              refine AllReadyIn.cons (o := ({ dst := some 100, op := Op.binOp BinOp.neq 3 (Operand.tmp 97) (Operand.tmp 99) 3, type := 4, pos := "law.go:98", after := #[{ on := 8, ground := Ground.data }, { on := 10, ground := Ground.data }, { on := 6, ground := Ground.guard }], guard := some (6, false) } : Oper)) rfl (fun K5 hK5 => ?_) ?_
                              · go_simp
                                refine hK5 _ _ ?_
                                clear hK5 K5
                                try simp only [Act.put, List.setIfInBounds_toArray, List.set_cons_zero, List.set_cons_succ]
                                refine wpAnyIn_ready (rs := [12]) (by kernel_rfl) (by simp) ?_
                                refine AllReadyIn.cons (o := ({ dst := some 101, op := Op.pick (Operand.tmp 95) (Operand.const (Value.bool true)) (Operand.tmp 100), type := 4, pos := "law.go:98", after := #[{ on := 6, ground := Ground.data }, { on := 11, ground := Ground.data }], guard := none } : Oper)) rfl (fun K5 hK5 => ?_) ?_
                                · go_simp
                                  refine hK5 _ _ ?_
                                  clear hK5 K5
                                  try simp only [Act.put, List.setIfInBounds_toArray, List.set_cons_zero, List.set_cons_succ]
                                  refine wpAnyIn_done (by kernel_rfl) ?_ _
                                  first | gi_wp2_with fail | skip
                                  gi_meet
                                  exact ⟨rfl, HbB.out⟩
                                exact AllReadyIn.nil
                              exact AllReadyIn.nil
                            exact AllReadyIn.nil
                          exact AllReadyIn.nil
                        exact AllReadyIn.nil
                      exact AllReadyIn.nil
                    exact AllReadyIn.nil
                  exact AllReadyIn.nil
                exact AllReadyIn.nil
              exact AllReadyIn.nil
            refine AllReadyIn.cons (o := ({ dst := some 92, op := Op.call { callee := Callee.value (Operand.func 16), args := #[Operand.tmp 91], argTypes := #[9] }, type := 50, pos := "law.go:98", after := #[{ on := 2, ground := Ground.data }], guard := none } : Oper)) rfl (fun K5 hK5 => ?_) ?_
            · go_simp
              refine ⟨trivial, ?_⟩
              refine (callsIn_wide.2 (HSg.out Y1.drew)).mono ?_; rintro e wA ⟨v5, rfl, own5, bA⟩; obtain ⟨o5, p5, rfl, h5⟩ := rows_at own5; rw [HN.out]; have bA : Below Y1.heap.size Y1 wA := (by first | exact ⟨bA.os, bA.tape, bA.output, bA.size, bA.block⟩ | exact bA); have kA1 := (bA.cell (p := ⟨w9.heap.size, 0, none⟩) l1).trans kB1; have kA2 := (bA.cell (p := ⟨w9.heap.size + 1, 0, none⟩) l2).trans kB2; have HbA := hideS (And.intro bA h5); clear bA own5 h5
              refine hK5 _ _ ?_
              clear hK5 K5
              try simp only [Act.put, List.setIfInBounds_toArray, List.set_cons_zero, List.set_cons_succ]
              refine wpAnyIn_ready (rs := [0]) (by kernel_rfl) (by simp) ?_
              refine AllReadyIn.cons (o := ({ dst := some 89, op := Op.load 39 (Operand.tmp 14), type := 39, pos := "law.go:98", after := #[], guard := none } : Oper)) rfl (fun K5 hK5 => ?_) ?_
              · go_simp
                refine hK5 _ _ ?_
                clear hK5 K5
                try simp only [Act.put, List.setIfInBounds_toArray, List.set_cons_zero, List.set_cons_succ]
                refine wpAnyIn_ready (rs := [4]) (by kernel_rfl) (by simp) ?_
                refine AllReadyIn.cons (o := ({ dst := some 93, op := Op.call { callee := Callee.value (Operand.func 15), args := #[Operand.tmp 89, Operand.tmp 92], argTypes := #[39, 50] }, type := 4, pos := "law.go:98", after := #[{ on := 0, ground := Ground.data }, { on := 3, ground := Ground.data }, { on := 3, ground := Ground.chain }], guard := none } : Oper)) rfl (fun K5 hK5 => ?_) ?_
                · go_simp
                  refine ⟨trivial, ?_⟩
                  rw [← HN.out]; refine (callsIn_wide.2 (HAk.out wA o5 p5 (fun n hn => by obtain ⟨g, e1, e2, _, e4⟩ := HSA.out.1 n hn; exact ⟨g, e1, e4.below HbA.out.1 e2⟩) (fun n hn => by obtain ⟨g, e1, e2, _, e4⟩ := HbA.out.2 n hn; exact ⟨g, e1, e4⟩))).mono ?_; rintro e wB ⟨rfl, bB⟩; rw [HN.out]; have bB : Below Y1.heap.size Y1 wB := bupS HbA.out.1 bB; have kC2 := (bB.cell (p := ⟨w9.heap.size + 1, 0, none⟩) l2).trans kB2; have HbB := hideS bB; clear bB
                  refine hK5 _ _ ?_
                  clear hK5 K5
                  try simp only [Act.put, List.setIfInBounds_toArray, List.set_cons_zero, List.set_cons_succ]
                  refine wpAnyIn_ready (rs := [5]) (by kernel_rfl) (by simp) ?_
                  refine AllReadyIn.cons (o := ({ dst := some 94, op := Op.unOp UnOp.not 4 (Operand.tmp 93), type := 4, pos := "law.go:98", after := #[{ on := 4, ground := Ground.data }], guard := none } : Oper)) rfl (fun K5 hK5 => ?_) ?_
                  · go_simp
                    refine hK5 _ _ ?_
                    clear hK5 K5
                    try simp only [Act.put, List.setIfInBounds_toArray, List.set_cons_zero, List.set_cons_succ]
                    refine wpAnyIn_ready (rs := [6]) (by kernel_rfl) (by simp) ?_
                    refine AllReadyIn.cons (o := ({ dst := some 95, op := Op.move (Operand.tmp 94), type := 4, pos := "law.go:98", after := #[{ on := 5, ground := Ground.data }, { on := 4, ground := Ground.chain }], guard := none } : Oper)) rfl (fun K5 hK5 => ?_) ?_
                    · go_simp
                      refine hK5 _ _ ?_
                      clear hK5 K5
                      try simp only [Act.put, List.setIfInBounds_toArray, List.set_cons_zero, List.set_cons_succ]
                      refine wpAnyIn_ready (rs := [7, 9]) (by kernel_rfl) (by simp) ?_
                      refine AllReadyIn.cons (o := ({ dst := some 96, op := Op.load 40 (Operand.tmp 15), type := 40, pos := "law.go:98", after := #[{ on := 6, ground := Ground.guard }], guard := some (6, false) } : Oper)) rfl (fun K5 hK5 => ?_) ?_
                      · go_simp
                        refine hK5 _ _ ?_
                        clear hK5 K5
                        try simp only [Act.put, List.setIfInBounds_toArray, List.set_cons_zero, List.set_cons_succ]
                        refine wpAnyIn_ready (rs := [8, 9]) (by kernel_rfl) (by simp) ?_
                        refine AllReadyIn.cons (o := ({ dst := some 97, op := Op.call { callee := Callee.builtin Builtin.len, args := #[Operand.tmp 96], argTypes := #[40] }, type := 3, pos := "law.go:98", after := #[{ on := 7, ground := Ground.data }, { on := 6, ground := Ground.guard }], guard := some (6, false) } : Oper)) rfl (fun K5 hK5 => ?_) ?_
                        · go_simp
                          refine hK5 _ _ ?_
                          clear hK5 K5
                          try simp only [Act.put, List.setIfInBounds_toArray, List.set_cons_zero, List.set_cons_succ]
                          refine wpAnyIn_ready (rs := [9]) (by kernel_rfl) (by simp) ?_
                          refine AllReadyIn.cons (o := ({ dst := some 98, op := Op.move (Operand.tmp 18), type := 40, pos := "law.go:98", after := #[{ on := 6, ground := Ground.guard }], guard := some (6, false) } : Oper)) rfl (fun K5 hK5 => ?_) ?_
                          · go_simp
                            refine hK5 _ _ ?_
                            clear hK5 K5
                            try simp only [Act.put, List.setIfInBounds_toArray, List.set_cons_zero, List.set_cons_succ]
                            refine wpAnyIn_ready (rs := [10]) (by kernel_rfl) (by simp) ?_
                            refine AllReadyIn.cons (o := ({ dst := some 99, op := Op.call { callee := Callee.builtin Builtin.len, args := #[Operand.tmp 98], argTypes := #[40] }, type := 3, pos := "law.go:98", after := #[{ on := 9, ground := Ground.data }, { on := 6, ground := Ground.guard }], guard := some (6, false) } : Oper)) rfl (fun K5 hK5 => ?_) ?_
                            · go_simp
                              refine hK5 _ _ ?_
                              clear hK5 K5
                              try simp only [Act.put, List.setIfInBounds_toArray, List.set_cons_zero, List.set_cons_succ]
                              refine wpAnyIn_ready (rs := [11]) (by kernel_rfl) (by simp) ?_
                              refine AllReadyIn.cons (o := ({ dst := some 100, op := Op.binOp BinOp.neq 3 (Operand.tmp 97) (Operand.tmp 99) 3, type := 4, pos := "law.go:98", after := #[{ on := 8, ground := Ground.data }, { on := 10, ground := Ground.data }, { on := 6, ground := Ground.guard }], guard := some (6, false) } : Oper)) rfl (fun K5 hK5 => ?_) ?_
                              · go_simp
                                refine hK5 _ _ ?_
                                clear hK5 K5
                                try simp only [Act.put, List.setIfInBounds_toArray, List.set_cons_zero, List.set_cons_succ]
                                refine wpAnyIn_ready (rs := [12]) (by kernel_rfl) (by simp) ?_
                                refine AllReadyIn.cons (o := ({ dst := some 101, op := Op.pick (Operand.tmp 95) (Operand.const (Value.bool true)) (Operand.tmp 100), type := 4, pos := "law.go:98", after := #[{ on := 6, ground := Ground.data }, { on := 11, ground := Ground.data }], guard := none } : Oper)) rfl (fun K5 hK5 => ?_) ?_
                                · go_simp
                                  refine hK5 _ _ ?_
                                  clear hK5 K5
                                  try simp only [Act.put, List.setIfInBounds_toArray, List.set_cons_zero, List.set_cons_succ]
                                  refine wpAnyIn_done (by kernel_rfl) ?_ _
                                  first | gi_wp2_with fail | skip
                                  gi_meet
                                  exact ⟨rfl, HbB.out⟩
                                exact AllReadyIn.nil
                              exact AllReadyIn.nil
                            exact AllReadyIn.nil
                          exact AllReadyIn.nil
                        refine AllReadyIn.cons (o := ({ dst := some 98, op := Op.move (Operand.tmp 18), type := 40, pos := "law.go:98", after := #[{ on := 6, ground := Ground.guard }], guard := some (6, false) } : Oper)) rfl (fun K5 hK5 => ?_) ?_
                        · go_simp
                          refine hK5 _ _ ?_
                          clear hK5 K5
                          try simp only [Act.put, List.setIfInBounds_toArray, List.set_cons_zero, List.set_cons_succ]
                          refine wpAnyIn_ready (rs := [8, 10]) (by kernel_rfl) (by simp) ?_
                          refine AllReadyIn.cons (o := ({ dst := some 97, op := Op.call { callee := Callee.builtin Builtin.len, args := #[Operand.tmp 96], argTypes := #[40] }, type := 3, pos := "law.go:98", after := #[{ on := 7, ground := Ground.data }, { on := 6, ground := Ground.guard }], guard := some (6, false) } : Oper)) rfl (fun K5 hK5 => ?_) ?_
                          · go_simp
                            refine hK5 _ _ ?_
                            clear hK5 K5
                            try simp only [Act.put, List.setIfInBounds_toArray, List.set_cons_zero, List.set_cons_succ]
                            refine wpAnyIn_ready (rs := [10]) (by kernel_rfl) (by simp) ?_
                            refine AllReadyIn.cons (o := ({ dst := some 99, op := Op.call { callee := Callee.builtin Builtin.len, args := #[Operand.tmp 98], argTypes := #[40] }, type := 3, pos := "law.go:98", after := #[{ on := 9, ground := Ground.data }, { on := 6, ground := Ground.guard }], guard := some (6, false) } : Oper)) rfl (fun K5 hK5 => ?_) ?_
                            · go_simp
                              refine hK5 _ _ ?_
                              clear hK5 K5
                              try simp only [Act.put, List.setIfInBounds_toArray, List.set_cons_zero, List.set_cons_succ]
                              refine wpAnyIn_ready (rs := [11]) (by kernel_rfl) (by simp) ?_
                              refine AllReadyIn.cons (o := ({ dst := some 100, op := Op.binOp BinOp.neq 3 (Operand.tmp 97) (Operand.tmp 99) 3, type := 4, pos := "law.go:98", after := #[{ on := 8, ground := Ground.data }, { on := 10, ground := Ground.data }, { on := 6, ground := Ground.guard }], guard := some (6, false) } : Oper)) rfl (fun K5 hK5 => ?_) ?_
                              · go_simp
                                refine hK5 _ _ ?_
                                clear hK5 K5
                                try simp only [Act.put, List.setIfInBounds_toArray, List.set_cons_zero, List.set_cons_succ]
                                refine wpAnyIn_ready (rs := [12]) (by kernel_rfl) (by simp) ?_
                                refine AllReadyIn.cons (o := ({ dst := some 101, op := Op.pick (Operand.tmp 95) (Operand.const (Value.bool true)) (Operand.tmp 100), type := 4, pos := "law.go:98", after := #[{ on := 6, ground := Ground.data }, { on := 11, ground := Ground.data }], guard := none } : Oper)) rfl (fun K5 hK5 => ?_) ?_
                                · go_simp
                                  refine hK5 _ _ ?_
                                  clear hK5 K5
                                  try simp only [Act.put, List.setIfInBounds_toArray, List.set_cons_zero, List.set_cons_succ]
                                  refine wpAnyIn_done (by kernel_rfl) ?_ _
                                  first | gi_wp2_with fail | skip
                                  gi_meet
                                  exact ⟨rfl, HbB.out⟩
                                exact AllReadyIn.nil
                              exact AllReadyIn.nil
                            exact AllReadyIn.nil
                          refine AllReadyIn.cons (o := ({ dst := some 99, op := Op.call { callee := Callee.builtin Builtin.len, args := #[Operand.tmp 98], argTypes := #[40] }, type := 3, pos := "law.go:98", after := #[{ on := 9, ground := Ground.data }, { on := 6, ground := Ground.guard }], guard := some (6, false) } : Oper)) rfl (fun K5 hK5 => ?_) ?_
                          · go_simp
                            refine hK5 _ _ ?_
                            clear hK5 K5
                            try simp only [Act.put, List.setIfInBounds_toArray, List.set_cons_zero, List.set_cons_succ]
                            refine wpAnyIn_ready (rs := [8]) (by kernel_rfl) (by simp) ?_
                            refine AllReadyIn.cons (o := ({ dst := some 97, op := Op.call { callee := Callee.builtin Builtin.len, args := #[Operand.tmp 96], argTypes := #[40] }, type := 3, pos := "law.go:98", after := #[{ on := 7, ground := Ground.data }, { on := 6, ground := Ground.guard }], guard := some (6, false) } : Oper)) rfl (fun K5 hK5 => ?_) ?_
                            · go_simp
                              refine hK5 _ _ ?_
                              clear hK5 K5
                              try simp only [Act.put, List.setIfInBounds_toArray, List.set_cons_zero, List.set_cons_succ]
                              refine wpAnyIn_ready (rs := [11]) (by kernel_rfl) (by simp) ?_
                              refine AllReadyIn.cons (o := ({ dst := some 100, op := Op.binOp BinOp.neq 3 (Operand.tmp 97) (Operand.tmp 99) 3, type := 4, pos := "law.go:98", after := #[{ on := 8, ground := Ground.data }, { on := 10, ground := Ground.data }, { on := 6, ground := Ground.guard }], guard := some (6, false) } : Oper)) rfl (fun K5 hK5 => ?_) ?_
                              · go_simp
                                refine hK5 _ _ ?_
                                clear hK5 K5
                                try simp only [Act.put, List.setIfInBounds_toArray, List.set_cons_zero, List.set_cons_succ]
                                refine wpAnyIn_ready (rs := [12]) (by kernel_rfl) (by simp) ?_
                                refine AllReadyIn.cons (o := ({ dst := some 101, op := Op.pick (Operand.tmp 95) (Operand.const (Value.bool true)) (Operand.tmp 100), type := 4, pos := "law.go:98", after := #[{ on := 6, ground := Ground.data }, { on := 11, ground := Ground.data }], guard := none } : Oper)) rfl (fun K5 hK5 => ?_) ?_
                                · go_simp
                                  refine hK5 _ _ ?_
                                  clear hK5 K5
                                  try simp only [Act.put, List.setIfInBounds_toArray, List.set_cons_zero, List.set_cons_succ]
                                  refine wpAnyIn_done (by kernel_rfl) ?_ _
                                  first | gi_wp2_with fail | skip
                                  gi_meet
                                  exact ⟨rfl, HbB.out⟩
                                exact AllReadyIn.nil
                              exact AllReadyIn.nil
                            exact AllReadyIn.nil
                          exact AllReadyIn.nil
                        exact AllReadyIn.nil
                      refine AllReadyIn.cons (o := ({ dst := some 98, op := Op.move (Operand.tmp 18), type := 40, pos := "law.go:98", after := #[{ on := 6, ground := Ground.guard }], guard := some (6, false) } : Oper)) rfl (fun K5 hK5 => ?_) ?_
                      · go_simp
                        refine hK5 _ _ ?_
                        clear hK5 K5
                        try simp only [Act.put, List.setIfInBounds_toArray, List.set_cons_zero, List.set_cons_succ]
                        refine wpAnyIn_ready (rs := [7, 10]) (by kernel_rfl) (by simp) ?_
                        refine AllReadyIn.cons (o := ({ dst := some 96, op := Op.load 40 (Operand.tmp 15), type := 40, pos := "law.go:98", after := #[{ on := 6, ground := Ground.guard }], guard := some (6, false) } : Oper)) rfl (fun K5 hK5 => ?_) ?_
                        · go_simp
                          refine hK5 _ _ ?_
                          clear hK5 K5
                          try simp only [Act.put, List.setIfInBounds_toArray, List.set_cons_zero, List.set_cons_succ]
                          refine wpAnyIn_ready (rs := [8, 10]) (by kernel_rfl) (by simp) ?_
                          refine AllReadyIn.cons (o := ({ dst := some 97, op := Op.call { callee := Callee.builtin Builtin.len, args := #[Operand.tmp 96], argTypes := #[40] }, type := 3, pos := "law.go:98", after := #[{ on := 7, ground := Ground.data }, { on := 6, ground := Ground.guard }], guard := some (6, false) } : Oper)) rfl (fun K5 hK5 => ?_) ?_
                          · go_simp
                            refine hK5 _ _ ?_
                            clear hK5 K5
                            try simp only [Act.put, List.setIfInBounds_toArray, List.set_cons_zero, List.set_cons_succ]
                            refine wpAnyIn_ready (rs := [10]) (by kernel_rfl) (by simp) ?_
                            refine AllReadyIn.cons (o := ({ dst := some 99, op := Op.call { callee := Callee.builtin Builtin.len, args := #[Operand.tmp 98], argTypes := #[40] }, type := 3, pos := "law.go:98", after := #[{ on := 9, ground := Ground.data }, { on := 6, ground := Ground.guard }], guard := some (6, false) } : Oper)) rfl (fun K5 hK5 => ?_) ?_
                            · go_simp
                              refine hK5 _ _ ?_
                              clear hK5 K5
                              try simp only [Act.put, List.setIfInBounds_toArray, List.set_cons_zero, List.set_cons_succ]
                              refine wpAnyIn_ready (rs := [11]) (by kernel_rfl) (by simp) ?_
                              refine AllReadyIn.cons (o := ({ dst := some 100, op := Op.binOp BinOp.neq 3 (Operand.tmp 97) (Operand.tmp 99) 3, type := 4, pos := "law.go:98", after := #[{ on := 8, ground := Ground.data }, { on := 10, ground := Ground.data }, { on := 6, ground := Ground.guard }], guard := some (6, false) } : Oper)) rfl (fun K5 hK5 => ?_) ?_
                              · go_simp
                                refine hK5 _ _ ?_
                                clear hK5 K5
                                try simp only [Act.put, List.setIfInBounds_toArray, List.set_cons_zero, List.set_cons_succ]
                                refine wpAnyIn_ready (rs := [12]) (by kernel_rfl) (by simp) ?_
                                refine AllReadyIn.cons (o := ({ dst := some 101, op := Op.pick (Operand.tmp 95) (Operand.const (Value.bool true)) (Operand.tmp 100), type := 4, pos := "law.go:98", after := #[{ on := 6, ground := Ground.data }, { on := 11, ground := Ground.data }], guard := none } : Oper)) rfl (fun K5 hK5 => ?_) ?_
                                · go_simp
                                  refine hK5 _ _ ?_
                                  clear hK5 K5
                                  try simp only [Act.put, List.setIfInBounds_toArray, List.set_cons_zero, List.set_cons_succ]
                                  refine wpAnyIn_done (by kernel_rfl) ?_ _
                                  first | gi_wp2_with fail | skip
                                  gi_meet
                                  exact ⟨rfl, HbB.out⟩
                                exact AllReadyIn.nil
                              exact AllReadyIn.nil
                            exact AllReadyIn.nil
                          refine AllReadyIn.cons (o := ({ dst := some 99, op := Op.call { callee := Callee.builtin Builtin.len, args := #[Operand.tmp 98], argTypes := #[40] }, type := 3, pos := "law.go:98", after := #[{ on := 9, ground := Ground.data }, { on := 6, ground := Ground.guard }], guard := some (6, false) } : Oper)) rfl (fun K5 hK5 => ?_) ?_
                          · go_simp
                            refine hK5 _ _ ?_
                            clear hK5 K5
                            try simp only [Act.put, List.setIfInBounds_toArray, List.set_cons_zero, List.set_cons_succ]
                            refine wpAnyIn_ready (rs := [8]) (by kernel_rfl) (by simp) ?_
                            refine AllReadyIn.cons (o := ({ dst := some 97, op := Op.call { callee := Callee.builtin Builtin.len, args := #[Operand.tmp 96], argTypes := #[40] }, type := 3, pos := "law.go:98", after := #[{ on := 7, ground := Ground.data }, { on := 6, ground := Ground.guard }], guard := some (6, false) } : Oper)) rfl (fun K5 hK5 => ?_) ?_
                            · go_simp
                              refine hK5 _ _ ?_
                              clear hK5 K5
                              try simp only [Act.put, List.setIfInBounds_toArray, List.set_cons_zero, List.set_cons_succ]
                              refine wpAnyIn_ready (rs := [11]) (by kernel_rfl) (by simp) ?_
                              refine AllReadyIn.cons (o := ({ dst := some 100, op := Op.binOp BinOp.neq 3 (Operand.tmp 97) (Operand.tmp 99) 3, type := 4, pos := "law.go:98", after := #[{ on := 8, ground := Ground.data }, { on := 10, ground := Ground.data }, { on := 6, ground := Ground.guard }], guard := some (6, false) } : Oper)) rfl (fun K5 hK5 => ?_) ?_
                              · go_simp
                                refine hK5 _ _ ?_
                                clear hK5 K5
                                try simp only [Act.put, List.setIfInBounds_toArray, List.set_cons_zero, List.set_cons_succ]
                                refine wpAnyIn_ready (rs := [12]) (by kernel_rfl) (by simp) ?_
                                refine AllReadyIn.cons (o := ({ dst := some 101, op := Op.pick (Operand.tmp 95) (Operand.const (Value.bool true)) (Operand.tmp 100), type := 4, pos := "law.go:98", after := #[{ on := 6, ground := Ground.data }, { on := 11, ground := Ground.data }], guard := none } : Oper)) rfl (fun K5 hK5 => ?_) ?_
                                · go_simp
                                  refine hK5 _ _ ?_
                                  clear hK5 K5
                                  try simp only [Act.put, List.setIfInBounds_toArray, List.set_cons_zero, List.set_cons_succ]
                                  refine wpAnyIn_done (by kernel_rfl) ?_ _
                                  first | gi_wp2_with fail | skip
                                  gi_meet
                                  exact ⟨rfl, HbB.out⟩
                                exact AllReadyIn.nil
                              exact AllReadyIn.nil
                            exact AllReadyIn.nil
                          exact AllReadyIn.nil
                        refine AllReadyIn.cons (o := ({ dst := some 99, op := Op.call { callee := Callee.builtin Builtin.len, args := #[Operand.tmp 98], argTypes := #[40] }, type := 3, pos := "law.go:98", after := #[{ on := 9, ground := Ground.data }, { on := 6, ground := Ground.guard }], guard := some (6, false) } : Oper)) rfl (fun K5 hK5 => ?_) ?_
                        · go_simp
                          refine hK5 _ _ ?_
                          clear hK5 K5
                          try simp only [Act.put, List.setIfInBounds_toArray, List.set_cons_zero, List.set_cons_succ]
                          refine wpAnyIn_ready (rs := [7]) (by kernel_rfl) (by simp) ?_
                          refine AllReadyIn.cons (o := ({ dst := some 96, op := Op.load 40 (Operand.tmp 15), type := 40, pos := "law.go:98", after := #[{ on := 6, ground := Ground.guard }], guard := some (6, false) } : Oper)) rfl (fun K5 hK5 => ?_) ?_
                          · go_simp
                            refine hK5 _ _ ?_
                            clear hK5 K5
                            try simp only [Act.put, List.setIfInBounds_toArray, List.set_cons_zero, List.set_cons_succ]
                            refine wpAnyIn_ready (rs := [8]) (by kernel_rfl) (by simp) ?_
                            refine AllReadyIn.cons (o := ({ dst := some 97, op := Op.call { callee := Callee.builtin Builtin.len, args := #[Operand.tmp 96], argTypes := #[40] }, type := 3, pos := "law.go:98", after := #[{ on := 7, ground := Ground.data }, { on := 6, ground := Ground.guard }], guard := some (6, false) } : Oper)) rfl (fun K5 hK5 => ?_) ?_
                            · go_simp
                              refine hK5 _ _ ?_
                              clear hK5 K5
                              try simp only [Act.put, List.setIfInBounds_toArray, List.set_cons_zero, List.set_cons_succ]
                              refine wpAnyIn_ready (rs := [11]) (by kernel_rfl) (by simp) ?_
                              refine AllReadyIn.cons (o := ({ dst := some 100, op := Op.binOp BinOp.neq 3 (Operand.tmp 97) (Operand.tmp 99) 3, type := 4, pos := "law.go:98", after := #[{ on := 8, ground := Ground.data }, { on := 10, ground := Ground.data }, { on := 6, ground := Ground.guard }], guard := some (6, false) } : Oper)) rfl (fun K5 hK5 => ?_) ?_
                              · go_simp
                                refine hK5 _ _ ?_
                                clear hK5 K5
                                try simp only [Act.put, List.setIfInBounds_toArray, List.set_cons_zero, List.set_cons_succ]
                                refine wpAnyIn_ready (rs := [12]) (by kernel_rfl) (by simp) ?_
                                refine AllReadyIn.cons (o := ({ dst := some 101, op := Op.pick (Operand.tmp 95) (Operand.const (Value.bool true)) (Operand.tmp 100), type := 4, pos := "law.go:98", after := #[{ on := 6, ground := Ground.data }, { on := 11, ground := Ground.data }], guard := none } : Oper)) rfl (fun K5 hK5 => ?_) ?_
                                · go_simp
                                  refine hK5 _ _ ?_
                                  clear hK5 K5
                                  try simp only [Act.put, List.setIfInBounds_toArray, List.set_cons_zero, List.set_cons_succ]
                                  refine wpAnyIn_done (by kernel_rfl) ?_ _
                                  first | gi_wp2_with fail | skip
                                  gi_meet
                                  exact ⟨rfl, HbB.out⟩
                                exact AllReadyIn.nil
                              exact AllReadyIn.nil
                            exact AllReadyIn.nil
                          exact AllReadyIn.nil
                        exact AllReadyIn.nil
                      exact AllReadyIn.nil
                    exact AllReadyIn.nil
                  exact AllReadyIn.nil
                exact AllReadyIn.nil
              exact AllReadyIn.nil
            exact AllReadyIn.nil
          exact AllReadyIn.nil
        exact AllReadyIn.nil
      case rest =>
        obtain ⟨rfl, bc⟩ := hcut
        have hgd := at_guard
        have hcm : p3 ≤ 9223372036854775807 := hp3.2
        have hcm2 : p2 ≤ 9223372036854775807 := hp2.2
        have HW := hideS bc
        clear bc
        gi_wp2_with fail
        gi_loopw [19] (fun iv wq => ∃ i : Nat, iv = .int .i64 (i : Nat) ∧ i ≤ n ∧ Below Y1.heap.size Y1 wq) (fun iv _ => n - (intOf iv).toNat)
        case atStart => exact ⟨0, rfl, Nat.zero_le _, HW.out⟩
        case round =>
          obtain ⟨i, rfl, hiN, hb⟩ := hrel
          obtain ⟨wq, rfl⟩ : ∃ wq, wq = wr := ⟨_, rfl⟩
          by_cases hlt : i < n
          · obtain ⟨y, hy⟩ : ∃ y, (alls D (signs s).length)[i]? = some y := ⟨_, List.getElem?_eq_getElem (by rw [hal, HN.out]; exact hlt)⟩
            obtain ⟨a, rfl, ha, e0, e1, e2, e3, e4⟩ := HSA.out.2.1.keep hb i y hy
            obtain ⟨d, rfl, hd, f0, f1, f2, f3, f4⟩ := HSA.out.2.2.keep hb i y hy
            have hak : (a.add (i * 5)).block < wq.heap.size := by rw [addrS_block]; exact ha
            have hdk : (d.add (i * 5)).block < wq.heap.size := by rw [addrS_block]; exact hd
            have kq := (hb.cell (p := ⟨w9.heap.size + 1, 0, none⟩) l2).trans kB2
            have lq : w9.heap.size + 1 < wq.heap.size := Nat.lt_of_lt_of_le l2 hb.size
            have u0 : ∀ q : GrownQ wq, q.V.cell? ⟨w9.heap.size + 1, 0, none⟩ = some (.slice (some a) n p2) := fun q => (q.h.cell (p := ⟨w9.heap.size + 1, 0, none⟩) lq).trans kq
            have a0 : ∀ q : GrownQ wq, q.V.cell? (a.add (i * 5)) = some (.bool y.b) := fun q => (q.h.cell hak).trans e0
            have a1 : ∀ q : GrownQ wq, q.V.cell? ⟨(a.add (i * 5)).block, (a.add (i * 5)).off + 1, none⟩ = some (.bool y.i) := fun q => (q.h.cell (p := ⟨(a.add (i * 5)).block, _, none⟩) hak).trans e1
            have a2 : ∀ q : GrownQ wq, q.V.cell? ⟨(a.add (i * 5)).block, (a.add (i * 5)).off + 2, none⟩ = some (.bool y.u) := fun q => (q.h.cell (p := ⟨(a.add (i * 5)).block, _, none⟩) hak).trans e2
            have a3 : ∀ q : GrownQ wq, q.V.cell? ⟨(a.add (i * 5)).block, (a.add (i * 5)).off + 3, none⟩ = some (.bool y.s) := fun q => (q.h.cell (p := ⟨(a.add (i * 5)).block, _, none⟩) hak).trans e3
            have a4 : ∀ q : GrownQ wq, q.V.cell? ⟨(a.add (i * 5)).block, (a.add (i * 5)).off + 4, none⟩ = some (.int .i64 y.c) := fun q => (q.h.cell (p := ⟨(a.add (i * 5)).block, _, none⟩) hak).trans e4
            have h0 : ∀ q : GrownQ wq, q.V.cell? (d.add (i * 5)) = some (.bool y.b) := fun q => (q.h.cell hdk).trans f0
            have h1 : ∀ q : GrownQ wq, q.V.cell? ⟨(d.add (i * 5)).block, (d.add (i * 5)).off + 1, none⟩ = some (.bool y.i) := fun q => (q.h.cell (p := ⟨(d.add (i * 5)).block, _, none⟩) hdk).trans f1
            have h2 : ∀ q : GrownQ wq, q.V.cell? ⟨(d.add (i * 5)).block, (d.add (i * 5)).off + 2, none⟩ = some (.bool y.u) := fun q => (q.h.cell (p := ⟨(d.add (i * 5)).block, _, none⟩) hdk).trans f2
            have h3 : ∀ q : GrownQ wq, q.V.cell? ⟨(d.add (i * 5)).block, (d.add (i * 5)).off + 3, none⟩ = some (.bool y.s) := fun q => (q.h.cell (p := ⟨(d.add (i * 5)).block, _, none⟩) hdk).trans f3
            have h4 : ∀ q : GrownQ wq, q.V.cell? ⟨(d.add (i * 5)).block, (d.add (i * 5)).off + 4, none⟩ = some (.int .i64 y.c) := fun q => (q.h.cell (p := ⟨(d.add (i * 5)).block, _, none⟩) hdk).trans f4
            have d1 : (i : Int) < (n : Int) := by omega
            have n0 : (0 : Int) ≤ (i : Int) := by omega
            have wi : IntKind.i64.wrap ((i : Int) + 1) = ((i + 1 : Nat) : Int) := by rw [show ((i + 1 : Nat) : Int) = (i : Int) + 1 by omega]; exact IntWalk.i64_in _ ⟨by omega, by omega⟩
            have hne := fun W => at_neq y y W
            unfold At.val at hne
            simp only [decide_true, Bool.not_true] at hne
            have HB := hideS hb
            clear hb hy e0 e1 e2 e3 e4 f0 f1 f2 f3 f4 kq
            gi_upto_region 25 with fail
            refine region_grownIn wq wq (by kernel_rfl) (by kernel_rfl) (Below.refl _ _) ?_
            repeat (gi_big_quiet_step (fail))
            refine wpQuietIn_nil ?_
            rintro W3 ⟨⟨V3, hb3⟩, hv3⟩
            have hv3 : W3 = V3 := hv3
            subst hv3
            have H5 := hideS (bupS HB.out hb3)
            clear hv3 hb3 u0 a0 a1 a2 a3 a4 h0 h1 h2 h3 h4
            gi_wp2
            go_roundw
            case rel => exact ⟨i + 1, by first | rfl | simp, by omega, H5.out⟩
            case measure => simp [intOf]; omega
          · have d1 : ¬ (i : Int) < (n : Int) := by omega
            have HB := hideS hb
            clear hb
            gi_wp2_with fail
            refine ⟨trivial, ?_⟩
            have bq : Below X1.heap.size X1 wq := bupS HF.out.2.2.2 HB.out
            refine (callsIn_wide.2 (HH.out wq bq)).mono ?_
            rintro e Y ⟨rfl, bY⟩
            obtain ⟨wt, hwt, hbt⟩ := fin9.out Y (bupS bq bY)
            gi_wp2
            refine ⟨by simp, .inl ⟨_, _, rfl, hwt, ?_⟩⟩
            exact ⟨.bool true, by simp [results, Tryd.f3, go_sem], rfl, hbt⟩
    · have ecb : (cc != 0) = true := by simpa using ec
      have hL0 : (goL s D).length = 0 := by unfold goL; rw [hcc, if_neg ec]; rfl
      rw [hL0] at kb1
      gi_wp2_with fail
      refine ⟨trivial, ?_⟩
      refine (callsIn_wide.2 (HH.out X1 (Below.refl _ _))).mono ?_
      rintro e Y ⟨rfl, bY⟩
      obtain ⟨wt, hwt, hbt⟩ := fin9.out Y bY
      gi_wp2
      refine ⟨by simp, .inl ⟨_, _, rfl, hwt, ?_⟩⟩
      exact ⟨.bool true, by simp [results, Tryd.f3, go_sem], rfl, hbt⟩
  case stop => rintro D c pre W hD hpre h; exact h.elim
end Go.Proofs.YthonbeonjjhmlaaDoor
