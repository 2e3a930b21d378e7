/- Of a map, the piece that a time lies in: retime's piece (chapter 6). -/
import Derived.Test.YtipnefaggpigfaaKnJ
import Derived.Deep.RegionHeld3
import Derived.BigRegion
namespace Go.Proofs.Ytipnefaggpigfaa
open Go.RowKit Go.Shelf

/-- What piece keeps in its boxes. -/
structure PcV (W : World) (b B : Nat) (t : Rt) (fn : Value) : Prop where
  m : W.heap[b]? = some (.cells #[.pointer (some ⟨B, 0, none⟩)] 25)
  t : W.heap[b + 1]? = some (.cells #[.int .i64 t.N, .int .i64 t.D] 42)
  f : W.heap[b + 2]? = some (.cells #[fn] 79)
  k : W.heap[b + 3]? = some (.cells #[.int .i64 0, .int .i64 0, .int .i64 0, .int .i64 0] 45)
  s : W.heap[b + 4]? = some (.cells #[.int .i64 0, .int .i64 0] 42)
theorem PcV.lt {W : World} {b B : Nat} {t : Rt} {fn : Value} (h : PcV W b B t fn) : b + 4 < W.heap.size := (Array.getElem?_eq_some_iff.1 h.s).1
theorem PcV.keep {V W : World} {b B : Nat} {t : Rt} {fn : Value} (h : PcV V b B t fn) (q : Below V.heap.size V W) : PcV W b B t fn := by
  have hl := h.lt
  exact ⟨(q.block _ (by omega)).trans h.m, (q.block _ (by omega)).trans h.t, (q.block _ (by omega)).trans h.f, (q.block _ (by omega)).trans h.k, (q.block _ hl).trans h.s⟩
theorem PcV.new (w : World) (B : Nat) (t : Rt) (fn : Value) : PcV (((((w.alloc (.cells #[.pointer (some ⟨B, 0, none⟩)] 25)).alloc (.cells #[.int .i64 t.N, .int .i64 t.D] 42)).alloc (.cells #[fn] 79)).alloc (.cells #[.int .i64 0, .int .i64 0, .int .i64 0, .int .i64 0] 45)).alloc (.cells #[.int .i64 0, .int .i64 0] 42)) w.heap.size B t fn := by
  generalize h1 : w.alloc (.cells #[.pointer (some ⟨B, 0, none⟩)] 25) = w1
  generalize h2 : w1.alloc (.cells #[.int .i64 t.N, .int .i64 t.D] 42) = w2
  generalize h3 : w2.alloc (.cells #[fn] 79) = w3
  generalize h4 : w3.alloc (.cells #[.int .i64 0, .int .i64 0, .int .i64 0, .int .i64 0] 45) = w4
  have z1 : w1.heap.size = w.heap.size + 1 := by rw [← h1, World.size_alloc]
  have z2 : w2.heap.size = w.heap.size + 2 := by rw [← h2, World.size_alloc, z1]
  have z3 : w3.heap.size = w.heap.size + 3 := by rw [← h3, World.size_alloc, z2]
  have z4 : w4.heap.size = w.heap.size + 4 := by rw [← h4, World.size_alloc, z3]
  have k1 : w1.heap[w.heap.size]? = some (.cells #[.pointer (some ⟨B, 0, none⟩)] 25) := by rw [← h1]; exact World.alloc_heap_new _ _
  have k2 : w2.heap[w.heap.size + 1]? = some (.cells #[.int .i64 t.N, .int .i64 t.D] 42) := by rw [← h2, ← z1]; exact World.alloc_heap_new _ _
  have k3 : w3.heap[w.heap.size + 2]? = some (.cells #[fn] 79) := by rw [← h3, ← z2]; exact World.alloc_heap_new _ _
  have k4 : w4.heap[w.heap.size + 3]? = some (.cells #[.int .i64 0, .int .i64 0, .int .i64 0, .int .i64 0] 45) := by rw [← h4, ← z3]; exact World.alloc_heap_new _ _
  have b2 : Below w1.heap.size w1 w2 := by rw [← h2]; exact bel1 _ _
  have b3 : Below w2.heap.size w2 w3 := by rw [← h3]; exact bel1 _ _
  have b4 : Below w3.heap.size w3 w4 := by rw [← h4]; exact bel1 _ _
  have b5 := bel1 w4 (.cells #[.int .i64 0, .int .i64 0] 42)
  refine ⟨?_, ?_, ?_, ?_, ?_⟩
  · exact ((b5.block _ (by omega)).trans ((b4.block _ (by omega)).trans ((b3.block _ (by omega)).trans (b2.block _ (by omega))))).trans k1
  · exact ((b5.block _ (by omega)).trans ((b4.block _ (by omega)).trans (b3.block _ (by omega)))).trans k2
  · exact ((b5.block _ (by omega)).trans (b4.block _ (by omega))).trans k3
  · exact (b5.block _ (by omega)).trans k4
  · rw [← z4]; exact World.alloc_heap_new _ _
theorem PcV.cells {W : World} {b B : Nat} {t : Rt} {fn : Value} (h : PcV W b B t fn) : W.cell? ⟨b, 0, none⟩ = some (.pointer (some ⟨B, 0, none⟩)) ∧ W.cell? ⟨b + 1, 0, none⟩ = some (.int .i64 t.N) ∧ W.cell? ⟨b + 1, 1, none⟩ = some (.int .i64 t.D) ∧ W.cell? ⟨b + 2, 0, none⟩ = some fn ∧ W.frozen? ⟨b, 0, none⟩ = false := ⟨by simp [World.cell?, h.m], by simp [World.cell?, h.t], by simp [World.cell?, h.t], by simp [World.cell?, h.f], by simp [World.frozen?, h.m]⟩
theorem PcV.set {W : World} {b B : Nat} {t : Rt} {fn : Value} (h : PcV W b B t fn) : PcV (W.setCell ⟨b, 0, none⟩ (.pointer (some ⟨B, 0, none⟩))) b B t fn :=
  ⟨heap_setCell_same W b 0 _ _ _ h.m, (Below.heap_setCell W _ _ _ (by show b + 1 ≠ b; omega)).trans h.t, (Below.heap_setCell W _ _ _ (by show b + 2 ≠ b; omega)).trans h.f, (Below.heap_setCell W _ _ _ (by show b + 3 ≠ b; omega)).trans h.k, (Below.heap_setCell W _ _ _ (by show b + 4 ≠ b; omega)).trans h.s⟩
set_option maxRecDepth 100000 in
set_option maxHeartbeats 4000000 in
theorem piece_in (K : List Kn) (S : List Rt) (B : Nat) (t : Rt) (hK : ∀ x ∈ K, KnIn x) (ht : RtIn t) (hKS : S.length = K.length + 1) (hl : K.length ≤ 1000) (h1K : 1 ≤ K.length) (w : World) (hM : MapAt w B K S) :
    Calls Try.prog 44 #[.pointer (some ⟨B, 0, none⟩), .agg #[.int .i64 t.N, .int .i64 t.D], .func (.func 45) #[] #[]] w fun e w' => ∃ x s, PieceOf (·.i) K S t x s ∧ e = .returned (.tuple #[.agg #[.int .i64 x.i.N, .int .i64 x.i.D, .int .i64 x.o.N, .int .i64 x.o.D], .agg #[.int .i64 s.N, .int .i64 s.D]]) ∧ Below w.heap.size w w' := by
  have HM := hideK hM
  have HK := hideK hK
  have HT := hideK ht
  have HS := hideK hKS
  clear hM hK ht hKS
  obtain ⟨PO, hPO⟩ : ∃ PO : Ending → World → Prop, (fun e w' => ∃ x s, PieceOf (·.i) K S t x s ∧ e = .returned (.tuple #[.agg #[.int .i64 x.i.N, .int .i64 x.i.D, .int .i64 x.o.N, .int .i64 x.o.D], .agg #[.int .i64 s.N, .int .i64 s.D]]) ∧ Below w.heap.size w w') = PO := ⟨_, rfl⟩
  have HP := hideK hPO
  rw [hPO]
  clear hPO
  go_enter Try.func44, Try.ntmps44
  go_upto_region 1 with fail
  obtain ⟨V, hV⟩ : ∃ V, ((((w.alloc (.cells #[.pointer (some ⟨B, 0, none⟩)] 25)).alloc (.cells #[.int .i64 t.N, .int .i64 t.D] 42)).alloc (.cells #[.func (.func 45) #[] #[]] 79)).alloc (.cells #[.int .i64 0, .int .i64 0, .int .i64 0, .int .i64 0] 45)).alloc (.cells #[.int .i64 0, .int .i64 0] 42) = V := ⟨_, rfl⟩
  obtain ⟨b, hb⟩ : ∃ b, w.heap.size = b := ⟨_, rfl⟩
  have HV : Hid (Below w.heap.size w V ∧ PcV V b B t (.func (.func 45) #[] #[])) := hideK (by
    rw [← hV, ← hb]
    exact ⟨bup (bup (bup (bup (bel1 _ _) (bel1 _ _)) (bel1 _ _)) (bel1 _ _)) (bel1 _ _), PcV.new w B t _⟩)
  rw [hV]
  clear hV
  obtain ⟨k0, -, -, -, f0⟩ := HV.out.2.cells
  rw [hb]
  go_wp2_with fail
  refine (made_any K S B h1K V (HM.out.keep HV.out.1)).mono ?_
  rintro e w2 ⟨rfl, b2⟩
  have HX : Hid (Below w.heap.size w w2 ∧ PcV w2 b B t (.func (.func 45) #[] #[])) := hideK ⟨bup HV.out.1 b2, HV.out.2.keep b2⟩
  clear b2 HV k0 f0
  obtain ⟨k0, -, -, -, f0⟩ := HX.out.2.cells
  go_upto_region 2 with fail
  obtain ⟨X, hX⟩ : ∃ X, w2.setCell ⟨b, 0, none⟩ (.pointer (some ⟨B, 0, none⟩)) = X := ⟨_, rfl⟩
  have HY : Hid (Below w.heap.size w X ∧ PcV X b B t (.func (.func 45) #[] #[])) := hideK (by
    rw [← hX]
    exact ⟨HX.out.1.setCell (by show w.heap.size ≤ b; omega) _, HX.out.2.set⟩)
  rw [hX]
  clear hX HX k0 f0
  obtain ⟨k0, -, -, -, -⟩ := HY.out.2.cells
  obtain ⟨oa, c1, ob, c2, q0, q1, h1, h2, h3, h4⟩ := HM.out.open
  have hBw := HM.out.lt
  replace q0 := (HY.out.1.cell (p := ⟨B, 0, none⟩) hBw).trans q0
  replace q1 := (HY.out.1.cell (p := ⟨B, 1, none⟩) hBw).trans q1
  have HO := hideK (And.intro (h3.keep HY.out.1) (And.intro (h4.keep HY.out.1) h4))
  clear h3 h4
  obtain ⟨p, hp⟩ : ∃ p : Nat → Bool, p = (fun i => match K[i]? with | some x => decide (0 < cmpI x.i t) | none => false) := ⟨_, rfl⟩
  have hsr := hideK (search_any p K.length hl (b + 2) b (b + 1) X (fun i hi W q => by
    obtain ⟨x, hx⟩ : ∃ x, K[i]? = some x := ⟨_, List.getElem?_eq_getElem hi⟩
    have hp1 := HY.out.2.keep q
    have hpl := hp1.lt
    have hc := hp1.cells
    have e1 : p i = decide (0 < cmpI x.i t) := by rw [hp]; simp only [hx]
    rw [e1]
    exact closure_in K S B i (b + 2) b (b + 1) x t hx (HK.out x (List.mem_of_getElem? hx)) HT.out W (HM.out.keep (bup HY.out.1 q)) (by omega) hc.2.2.2.1 (by omega) hc.1 (by omega) hc.2.1 hc.2.2.1))
  have HPp := hideK hp
  clear hp
  obtain ⟨n, hn⟩ : ∃ n, K.length = n := ⟨_, rfl⟩
  have HN := hideK hn
  have hKS := HS.out
  rw [hn] at q0 h1 hl h1K hsr hKS
  rw [hKS] at q1 h2
  clear hn hKS
  have hc1 : c1 ≤ 9223372036854775807 := h1.2
  have hc2 : c2 ≤ 9223372036854775807 := h2.2
  go_wp2_with fail
  refine hsr.out.mono ?_
  rintro e w3 ⟨k, rfl, hkn, hk1, hk2, b3⟩
  have HZ : Hid (Below w.heap.size w w3 ∧ PcV w3 b B t (.func (.func 45) #[] #[])) := hideK ⟨bup HY.out.1 b3, HY.out.2.keep b3⟩
  have HQ : Hid (KnO w3 oa K ∧ RtO w3 ob S ∧ RtO w ob S) := hideK ⟨HO.out.1.keep b3, HO.out.2.1.keep b3, HO.out.2.2⟩
  have hBX : B < X.heap.size := by
    have h9 := HM.out.lt
    have h8 := HY.out.1.size
    omega
  have g0 : w3.cell? ⟨B, 0, none⟩ = some (.slice oa n c1) := (b3.cell (p := ⟨B, 0, none⟩) hBX).trans q0
  have g1 : w3.cell? ⟨B, 1, none⟩ = some (.slice ob (n + 1) c2) := (b3.cell (p := ⟨B, 1, none⟩) hBX).trans q1
  have HH := hideK (And.intro hk1 hk2)
  clear q0 q1 b3 hk1 hk2 hsr HO HY k0 hBX
  obtain ⟨x, hx⟩ : ∃ x, K[k - 1]? = some x := ⟨_, List.getElem?_eq_getElem (by rw [HN.out]; omega)⟩
  obtain ⟨s, hs⟩ : ∃ s, S[k]? = some s := ⟨_, List.getElem?_eq_getElem (by rw [HS.out, HN.out]; omega)⟩
  have HPc : Hid (PieceOf (·.i) K S t x s) := hideK ⟨k, by rw [HN.out]; exact hkn, hx, hs, fun h0 => by
      have h9 := HH.out.1 h0
      rw [HPp.out] at h9
      simp only [hx] at h9
      simpa using h9, fun y hy => by
      have h9 := HH.out.2 (by rw [← HN.out]; exact (List.getElem?_eq_some_iff.1 hy).1)
      rw [HPp.out] at h9
      simp only [hy] at h9
      simpa using h9⟩
  obtain ⟨A, rfl, hA, a0, a1, a2, a3⟩ := HQ.out.1.get hx
  obtain ⟨A2, rfl, hA2, s0, s1⟩ := HQ.out.2.1.get hs
  obtain ⟨A3, hA3, hA4, -, -⟩ := HQ.out.2.2.get hs
  obtain rfl : A2 = A3 := Option.some.inj hA3
  rw [hb] at hA4
  obtain ⟨k0, -, -, -, -⟩ := HZ.out.2.cells
  have z0 : w3.cell? ⟨b + 3, 0, none⟩ = some (.int .i64 0) := by simp [World.cell?, HZ.out.2.k]
  have z1 : w3.cell? ⟨b + 3, 1, none⟩ = some (.int .i64 0) := by simp [World.cell?, HZ.out.2.k]
  have z2 : w3.cell? ⟨b + 3, 2, none⟩ = some (.int .i64 0) := by simp [World.cell?, HZ.out.2.k]
  have z3 : w3.cell? ⟨b + 3, 3, none⟩ = some (.int .i64 0) := by simp [World.cell?, HZ.out.2.k]
  have y0 : w3.frozen? ⟨b + 3, 0, none⟩ = false := by simp [World.frozen?, HZ.out.2.k]
  have y1 : w3.frozen? ⟨b + 3, 1, none⟩ = false := by simp [World.frozen?, HZ.out.2.k]
  have y2 : w3.frozen? ⟨b + 3, 2, none⟩ = false := by simp [World.frozen?, HZ.out.2.k]
  have y3 : w3.frozen? ⟨b + 3, 3, none⟩ = false := by simp [World.frozen?, HZ.out.2.k]
  have v0 : w3.cell? ⟨b + 4, 0, none⟩ = some (.int .i64 0) := by simp [World.cell?, HZ.out.2.s]
  have v1 : w3.cell? ⟨b + 4, 1, none⟩ = some (.int .i64 0) := by simp [World.cell?, HZ.out.2.s]
  have v2 : w3.frozen? ⟨b + 4, 0, none⟩ = false := by simp [World.frozen?, HZ.out.2.s]
  have v3 : w3.frozen? ⟨b + 4, 1, none⟩ = false := by simp [World.frozen?, HZ.out.2.s]
  obtain ⟨m, hm⟩ : ∃ m, k - 1 = m := ⟨_, rfl⟩
  rw [hm] at a0 a1 a2 a3
  have hmn : (m : Int) < (n : Int) := by omega
  have hkm : (k : Int) < (n : Int) + 1 := by omega
  have hkm2 : (k : Int) < ((n + 1 : Nat) : Int) := by omega
  have wm : IntKind.i64.wrap ((k : Int) - 1) = (k : Int) - 1 := IntWalk.i64_in _ ⟨by omega, by omega⟩
  have mx : max ((k : Int) - 1) 0 = (m : Int) := by omega
  have hPBb : (A2.add (k * 2)).block < b := by rw [addrN_block]; exact hA4
  have hPAb : (A.add (m * 4)).block < w3.heap.size := by rw [addrN_block]; exact hA
  have hs0 : ∀ u0 u1 u2 u3 : Value, ((((w3.setCell ⟨b + 1 + 1 + 1, 0, none⟩ u0).setCell ⟨b + 1 + 1 + 1, 1, none⟩ u1).setCell ⟨b + 1 + 1 + 1, 2, none⟩ u2).setCell ⟨b + 1 + 1 + 1, 3, none⟩ u3).cell? (A2.add (k * 2)) = some (.int .i64 s.N) := fun u0 u1 u2 u3 => (((((Below.refl b w3).setCell (by show b ≤ b + 1 + 1 + 1; omega) u0).setCell (by show b ≤ b + 1 + 1 + 1; omega) u1).setCell (by show b ≤ b + 1 + 1 + 1; omega) u2).setCell (by show b ≤ b + 1 + 1 + 1; omega) u3).cell hPBb |>.trans s0
  have hs1 : ∀ u0 u1 u2 u3 : Value, ((((w3.setCell ⟨b + 1 + 1 + 1, 0, none⟩ u0).setCell ⟨b + 1 + 1 + 1, 1, none⟩ u1).setCell ⟨b + 1 + 1 + 1, 2, none⟩ u2).setCell ⟨b + 1 + 1 + 1, 3, none⟩ u3).cell? ⟨(A2.add (k * 2)).block, (A2.add (k * 2)).off + 1, none⟩ = some (.int .i64 s.D) := fun u0 u1 u2 u3 => ((((((Below.refl b w3).setCell (by show b ≤ b + 1 + 1 + 1; omega) u0).setCell (by show b ≤ b + 1 + 1 + 1; omega) u1).setCell (by show b ≤ b + 1 + 1 + 1; omega) u2).setCell (by show b ≤ b + 1 + 1 + 1; omega) u3).cell (p := ⟨(A2.add (k * 2)).block, (A2.add (k * 2)).off + 1, none⟩) hPBb).trans s1
  clear hx hs HQ hA hA2 hA3 hA4
  go_upto_region 3 with fail
  go_big_region
  go_wp2_with fail
  refine bodyPost_ret (v := .tuple #[.agg #[.int .i64 x.i.N, .int .i64 x.i.D, .int .i64 x.o.N, .int .i64 x.o.D], .agg #[.int .i64 s.N, .int .i64 s.D]]) (by simp [results, Try.results44, go_sem, z0, z1, z2, z3, v0, v1]) rfl ?_
  rw [← HP.out]
  refine ⟨x, s, HPc.out, rfl, ?_⟩
  exact (((((HZ.out.1.setCell (by show w.heap.size ≤ b + 1 + 1 + 1; omega) _).setCell (by show w.heap.size ≤ b + 1 + 1 + 1; omega) _).setCell (by show w.heap.size ≤ b + 1 + 1 + 1; omega) _).setCell (by show w.heap.size ≤ b + 1 + 1 + 1; omega) _).setCell (by show w.heap.size ≤ b + 1 + 1 + 1 + 1; omega) _).setCell (by show w.heap.size ≤ b + 1 + 1 + 1 + 1; omega) _ |>.drew
set_option maxRecDepth 100000 in
set_option maxHeartbeats 4000000 in
theorem piece_out (K : List Kn) (S : List Rt) (B : Nat) (t : Rt) (hK : ∀ x ∈ K, KnIn x) (ht : RtIn t) (hKS : S.length = K.length + 1) (hl : K.length ≤ 1000) (h1K : 1 ≤ K.length) (w : World) (hM : MapAt w B K S) :
    Calls Try.prog 44 #[.pointer (some ⟨B, 0, none⟩), .agg #[.int .i64 t.N, .int .i64 t.D], .func (.func 48) #[] #[]] w fun e w' => ∃ x s, PieceOf (·.o) K S t x s ∧ e = .returned (.tuple #[.agg #[.int .i64 x.i.N, .int .i64 x.i.D, .int .i64 x.o.N, .int .i64 x.o.D], .agg #[.int .i64 s.N, .int .i64 s.D]]) ∧ Below w.heap.size w w' := by
  have HM := hideK hM
  have HK := hideK hK
  have HT := hideK ht
  have HS := hideK hKS
  clear hM hK ht hKS
  obtain ⟨PO, hPO⟩ : ∃ PO : Ending → World → Prop, (fun e w' => ∃ x s, PieceOf (·.o) K S t x s ∧ e = .returned (.tuple #[.agg #[.int .i64 x.i.N, .int .i64 x.i.D, .int .i64 x.o.N, .int .i64 x.o.D], .agg #[.int .i64 s.N, .int .i64 s.D]]) ∧ Below w.heap.size w w') = PO := ⟨_, rfl⟩
  have HP := hideK hPO
  rw [hPO]
  clear hPO
  go_enter Try.func44, Try.ntmps44
  go_upto_region 1 with fail
  obtain ⟨V, hV⟩ : ∃ V, ((((w.alloc (.cells #[.pointer (some ⟨B, 0, none⟩)] 25)).alloc (.cells #[.int .i64 t.N, .int .i64 t.D] 42)).alloc (.cells #[.func (.func 48) #[] #[]] 79)).alloc (.cells #[.int .i64 0, .int .i64 0, .int .i64 0, .int .i64 0] 45)).alloc (.cells #[.int .i64 0, .int .i64 0] 42) = V := ⟨_, rfl⟩
  obtain ⟨b, hb⟩ : ∃ b, w.heap.size = b := ⟨_, rfl⟩
  have HV : Hid (Below w.heap.size w V ∧ PcV V b B t (.func (.func 48) #[] #[])) := hideK (by
    rw [← hV, ← hb]
    exact ⟨bup (bup (bup (bup (bel1 _ _) (bel1 _ _)) (bel1 _ _)) (bel1 _ _)) (bel1 _ _), PcV.new w B t _⟩)
  rw [hV]
  clear hV
  obtain ⟨k0, -, -, -, f0⟩ := HV.out.2.cells
  rw [hb]
  go_wp2_with fail
  refine (made_any K S B h1K V (HM.out.keep HV.out.1)).mono ?_
  rintro e w2 ⟨rfl, b2⟩
  have HX : Hid (Below w.heap.size w w2 ∧ PcV w2 b B t (.func (.func 48) #[] #[])) := hideK ⟨bup HV.out.1 b2, HV.out.2.keep b2⟩
  clear b2 HV k0 f0
  obtain ⟨k0, -, -, -, f0⟩ := HX.out.2.cells
  go_upto_region 2 with fail
  obtain ⟨X, hX⟩ : ∃ X, w2.setCell ⟨b, 0, none⟩ (.pointer (some ⟨B, 0, none⟩)) = X := ⟨_, rfl⟩
  have HY : Hid (Below w.heap.size w X ∧ PcV X b B t (.func (.func 48) #[] #[])) := hideK (by
    rw [← hX]
    exact ⟨HX.out.1.setCell (by show w.heap.size ≤ b; omega) _, HX.out.2.set⟩)
  rw [hX]
  clear hX HX k0 f0
  obtain ⟨k0, -, -, -, -⟩ := HY.out.2.cells
  obtain ⟨oa, c1, ob, c2, q0, q1, h1, h2, h3, h4⟩ := HM.out.open
  have hBw := HM.out.lt
  replace q0 := (HY.out.1.cell (p := ⟨B, 0, none⟩) hBw).trans q0
  replace q1 := (HY.out.1.cell (p := ⟨B, 1, none⟩) hBw).trans q1
  have HO := hideK (And.intro (h3.keep HY.out.1) (And.intro (h4.keep HY.out.1) h4))
  clear h3 h4
  obtain ⟨p, hp⟩ : ∃ p : Nat → Bool, p = (fun i => match K[i]? with | some x => decide (0 < cmpI x.o t) | none => false) := ⟨_, rfl⟩
  have hsr := hideK (search_any p K.length hl (b + 2) b (b + 1) X (fun i hi W q => by
    obtain ⟨x, hx⟩ : ∃ x, K[i]? = some x := ⟨_, List.getElem?_eq_getElem hi⟩
    have hp1 := HY.out.2.keep q
    have hpl := hp1.lt
    have hc := hp1.cells
    have e1 : p i = decide (0 < cmpI x.o t) := by rw [hp]; simp only [hx]
    rw [e1]
    exact closure_out K S B i (b + 2) b (b + 1) x t hx (HK.out x (List.mem_of_getElem? hx)) HT.out W (HM.out.keep (bup HY.out.1 q)) (by omega) hc.2.2.2.1 (by omega) hc.1 (by omega) hc.2.1 hc.2.2.1))
  have HPp := hideK hp
  clear hp
  obtain ⟨n, hn⟩ : ∃ n, K.length = n := ⟨_, rfl⟩
  have HN := hideK hn
  have hKS := HS.out
  rw [hn] at q0 h1 hl h1K hsr hKS
  rw [hKS] at q1 h2
  clear hn hKS
  have hc1 : c1 ≤ 9223372036854775807 := h1.2
  have hc2 : c2 ≤ 9223372036854775807 := h2.2
  go_wp2_with fail
  refine hsr.out.mono ?_
  rintro e w3 ⟨k, rfl, hkn, hk1, hk2, b3⟩
  have HZ : Hid (Below w.heap.size w w3 ∧ PcV w3 b B t (.func (.func 48) #[] #[])) := hideK ⟨bup HY.out.1 b3, HY.out.2.keep b3⟩
  have HQ : Hid (KnO w3 oa K ∧ RtO w3 ob S ∧ RtO w ob S) := hideK ⟨HO.out.1.keep b3, HO.out.2.1.keep b3, HO.out.2.2⟩
  have hBX : B < X.heap.size := by
    have h9 := HM.out.lt
    have h8 := HY.out.1.size
    omega
  have g0 : w3.cell? ⟨B, 0, none⟩ = some (.slice oa n c1) := (b3.cell (p := ⟨B, 0, none⟩) hBX).trans q0
  have g1 : w3.cell? ⟨B, 1, none⟩ = some (.slice ob (n + 1) c2) := (b3.cell (p := ⟨B, 1, none⟩) hBX).trans q1
  have HH := hideK (And.intro hk1 hk2)
  clear q0 q1 b3 hk1 hk2 hsr HO HY k0 hBX
  obtain ⟨x, hx⟩ : ∃ x, K[k - 1]? = some x := ⟨_, List.getElem?_eq_getElem (by rw [HN.out]; omega)⟩
  obtain ⟨s, hs⟩ : ∃ s, S[k]? = some s := ⟨_, List.getElem?_eq_getElem (by rw [HS.out, HN.out]; omega)⟩
  have HPc : Hid (PieceOf (·.o) K S t x s) := hideK ⟨k, by rw [HN.out]; exact hkn, hx, hs, fun h0 => by
      have h9 := HH.out.1 h0
      rw [HPp.out] at h9
      simp only [hx] at h9
      simpa using h9, fun y hy => by
      have h9 := HH.out.2 (by rw [← HN.out]; exact (List.getElem?_eq_some_iff.1 hy).1)
      rw [HPp.out] at h9
      simp only [hy] at h9
      simpa using h9⟩
  obtain ⟨A, rfl, hA, a0, a1, a2, a3⟩ := HQ.out.1.get hx
  obtain ⟨A2, rfl, hA2, s0, s1⟩ := HQ.out.2.1.get hs
  obtain ⟨A3, hA3, hA4, -, -⟩ := HQ.out.2.2.get hs
  obtain rfl : A2 = A3 := Option.some.inj hA3
  rw [hb] at hA4
  obtain ⟨k0, -, -, -, -⟩ := HZ.out.2.cells
  have z0 : w3.cell? ⟨b + 3, 0, none⟩ = some (.int .i64 0) := by simp [World.cell?, HZ.out.2.k]
  have z1 : w3.cell? ⟨b + 3, 1, none⟩ = some (.int .i64 0) := by simp [World.cell?, HZ.out.2.k]
  have z2 : w3.cell? ⟨b + 3, 2, none⟩ = some (.int .i64 0) := by simp [World.cell?, HZ.out.2.k]
  have z3 : w3.cell? ⟨b + 3, 3, none⟩ = some (.int .i64 0) := by simp [World.cell?, HZ.out.2.k]
  have y0 : w3.frozen? ⟨b + 3, 0, none⟩ = false := by simp [World.frozen?, HZ.out.2.k]
  have y1 : w3.frozen? ⟨b + 3, 1, none⟩ = false := by simp [World.frozen?, HZ.out.2.k]
  have y2 : w3.frozen? ⟨b + 3, 2, none⟩ = false := by simp [World.frozen?, HZ.out.2.k]
  have y3 : w3.frozen? ⟨b + 3, 3, none⟩ = false := by simp [World.frozen?, HZ.out.2.k]
  have v0 : w3.cell? ⟨b + 4, 0, none⟩ = some (.int .i64 0) := by simp [World.cell?, HZ.out.2.s]
  have v1 : w3.cell? ⟨b + 4, 1, none⟩ = some (.int .i64 0) := by simp [World.cell?, HZ.out.2.s]
  have v2 : w3.frozen? ⟨b + 4, 0, none⟩ = false := by simp [World.frozen?, HZ.out.2.s]
  have v3 : w3.frozen? ⟨b + 4, 1, none⟩ = false := by simp [World.frozen?, HZ.out.2.s]
  obtain ⟨m, hm⟩ : ∃ m, k - 1 = m := ⟨_, rfl⟩
  rw [hm] at a0 a1 a2 a3
  have hmn : (m : Int) < (n : Int) := by omega
  have hkm : (k : Int) < (n : Int) + 1 := by omega
  have hkm2 : (k : Int) < ((n + 1 : Nat) : Int) := by omega
  have wm : IntKind.i64.wrap ((k : Int) - 1) = (k : Int) - 1 := IntWalk.i64_in _ ⟨by omega, by omega⟩
  have mx : max ((k : Int) - 1) 0 = (m : Int) := by omega
  have hPBb : (A2.add (k * 2)).block < b := by rw [addrN_block]; exact hA4
  have hPAb : (A.add (m * 4)).block < w3.heap.size := by rw [addrN_block]; exact hA
  have hs0 : ∀ u0 u1 u2 u3 : Value, ((((w3.setCell ⟨b + 1 + 1 + 1, 0, none⟩ u0).setCell ⟨b + 1 + 1 + 1, 1, none⟩ u1).setCell ⟨b + 1 + 1 + 1, 2, none⟩ u2).setCell ⟨b + 1 + 1 + 1, 3, none⟩ u3).cell? (A2.add (k * 2)) = some (.int .i64 s.N) := fun u0 u1 u2 u3 => (((((Below.refl b w3).setCell (by show b ≤ b + 1 + 1 + 1; omega) u0).setCell (by show b ≤ b + 1 + 1 + 1; omega) u1).setCell (by show b ≤ b + 1 + 1 + 1; omega) u2).setCell (by show b ≤ b + 1 + 1 + 1; omega) u3).cell hPBb |>.trans s0
  have hs1 : ∀ u0 u1 u2 u3 : Value, ((((w3.setCell ⟨b + 1 + 1 + 1, 0, none⟩ u0).setCell ⟨b + 1 + 1 + 1, 1, none⟩ u1).setCell ⟨b + 1 + 1 + 1, 2, none⟩ u2).setCell ⟨b + 1 + 1 + 1, 3, none⟩ u3).cell? ⟨(A2.add (k * 2)).block, (A2.add (k * 2)).off + 1, none⟩ = some (.int .i64 s.D) := fun u0 u1 u2 u3 => ((((((Below.refl b w3).setCell (by show b ≤ b + 1 + 1 + 1; omega) u0).setCell (by show b ≤ b + 1 + 1 + 1; omega) u1).setCell (by show b ≤ b + 1 + 1 + 1; omega) u2).setCell (by show b ≤ b + 1 + 1 + 1; omega) u3).cell (p := ⟨(A2.add (k * 2)).block, (A2.add (k * 2)).off + 1, none⟩) hPBb).trans s1
  clear hx hs HQ hA hA2 hA3 hA4
  go_upto_region 3 with fail
  go_big_region
  go_wp2_with fail
  refine bodyPost_ret (v := .tuple #[.agg #[.int .i64 x.i.N, .int .i64 x.i.D, .int .i64 x.o.N, .int .i64 x.o.D], .agg #[.int .i64 s.N, .int .i64 s.D]]) (by simp [results, Try.results44, go_sem, z0, z1, z2, z3, v0, v1]) rfl ?_
  rw [← HP.out]
  refine ⟨x, s, HPc.out, rfl, ?_⟩
  exact (((((HZ.out.1.setCell (by show w.heap.size ≤ b + 1 + 1 + 1; omega) _).setCell (by show w.heap.size ≤ b + 1 + 1 + 1; omega) _).setCell (by show w.heap.size ≤ b + 1 + 1 + 1; omega) _).setCell (by show w.heap.size ≤ b + 1 + 1 + 1; omega) _).setCell (by show w.heap.size ≤ b + 1 + 1 + 1 + 1; omega) _).setCell (by show w.heap.size ≤ b + 1 + 1 + 1 + 1; omega) _ |>.drew
end Go.Proofs.Ytipnefaggpigfaa
