/- The map without what is no bend: retime's pared is walked (chapter 6). -/
import Derived.Test.YtipnefaggpigfaaKnH
namespace Go.Proofs.Ytipnefaggpigfaa
open Go.RowKit Go.Shelf

set_option maxRecDepth 100000 in
set_option maxHeartbeats 4000000 in
theorem pared_any (K : List Kn) (S : List Rt) (B : Nat) (hKS : S.length = K.length + 1) (hK : K.length ≤ 1000) (h1K : 1 ≤ K.length) (w : World) (hM : MapAt w B K S) :
    Calls Try.prog 24 #[.pointer (some ⟨B, 0, none⟩)] w fun e w' => ∃ R, e = .returned (.pointer (some ⟨R, 0, none⟩)) ∧ w.heap.size ≤ R ∧ MapAt w' R (prdK K S) (prdS K S) ∧ Below w.heap.size w w' := by
  obtain ⟨i0, hI, hz0, hz1, hz2⟩ := info_partsK infoRtK
  obtain ⟨j0, hJ, hy0, hy1, hy2⟩ := info_partsK infoKnK
  have hmx : maxLen ≤ 9223372036854775807 := by decide
  obtain ⟨oa, c1, ob, c2, k0, k1, h1, h2, h3, h4⟩ := hM.open
  obtain ⟨s0, hs0⟩ : ∃ x, S[0]? = some x := ⟨_, List.getElem?_eq_getElem (by omega)⟩
  obtain ⟨A0, rfl, hA0, q0, q1⟩ := h4 0 s0 hs0
  rw [addK0] at q0 q1
  have HM := hideK hM
  have HO := hideK h3
  have HR := hideK h4
  have hBz := hM.lt
  obtain ⟨n, hn⟩ : ∃ n, K.length = n := ⟨_, rfl⟩
  have HN := hideK hn
  have HS := hideK hKS
  rw [hn] at k0 h1 hK h1K hKS
  rw [hKS] at k1 h2
  have HS0 := hideK hs0
  have HK0 := hideK (And.intro k0 k1)
  clear hM h3 h4 hn hKS hs0
  obtain ⟨PO, hPO⟩ : ∃ PO : Ending → World → Prop, (fun e w' => ∃ R, e = .returned (.pointer (some ⟨R, 0, none⟩)) ∧ w.heap.size ≤ R ∧ MapAt w' R (prdK K S) (prdS K S) ∧ Below w.heap.size w w') = PO := ⟨_, rfl⟩
  have HP := hideK hPO
  rw [hPO]
  clear hPO
  have d0 : (0 : Int) < ((n + 1 : Nat) : Int) := by omega
  have d1 : (0 : Int) < (n : Int) + 1 := by omega
  go_enter Try.func24, Try.ntmps24
  go_upto_region 2 with fail
  obtain ⟨R, hRd⟩ : ∃ R, w.heap.size + 1 = R := ⟨_, rfl⟩
  obtain ⟨V, hV⟩ : ∃ V, (w.alloc (.cells #[.int .i64 s0.N, .int .i64 s0.D] 42)).alloc (.cells #[.slice none 0 0, .slice (some ⟨w.heap.size, 0, none⟩) 1 1] 83) = V := ⟨_, rfl⟩
  have HV : Hid (Below w.heap.size w V ∧ ∃ v u, MapO V w.heap.size R v u [] [s0]) := hideK (by
    rw [← hV]
    have b2 := bel1 (w.alloc (.cells #[.int .i64 s0.N, .int .i64 s0.D] 42)) (.cells #[.slice none 0 0, .slice (some ⟨w.heap.size, 0, none⟩) 1 1] 83)
    refine ⟨bup (bel1 _ _) b2, .slice none 0 0, .slice (some ⟨w.heap.size, 0, none⟩) 1 1, ?_, World.ownsRow_nil _ _ _ _, ?_⟩
    · rw [← hRd]
      have h := World.alloc_heap_new (w.alloc (.cells #[.int .i64 s0.N, .int .i64 s0.D] 42)) (.cells #[.slice none 0 0, .slice (some ⟨w.heap.size, 0, none⟩) 1 1] 83)
      rw [World.size_alloc] at h
      exact h
    · exact own_growK (World.ownsRow_lit (base := w.heap.size) (size := 2) (e := 42) w #[.int .i64 s0.N, .int .i64 s0.D] 1 (Nat.le_refl _) (by unfold maxLen; omega) rfl) b2)
  rw [hV, hRd]
  clear hV q0 q1 k0 k1
  have hRw : w.heap.size ≤ R := by omega
  have HB : Hid (∀ W, Below w.heap.size w W → W.cell? ⟨B, 0, none⟩ = some (.slice oa n c1) ∧ W.cell? ⟨B, 1, none⟩ = some (.slice (some A0) (n + 1) c2)) := hideK (fun W q => ⟨(q.cell (p := ⟨B, 0, none⟩) hBz).trans HK0.out.1, (q.cell (p := ⟨B, 1, none⟩) hBz).trans HK0.out.2⟩)
  obtain ⟨k0, -⟩ := HB.out V HV.out.1
  go_wp2_with fail
  clear k0
  go_loopw [20] (fun iv wq => ∃ (i : Nat) (M : List (Kn × Rt)) (v u : Value), iv = .int .i64 (i : Nat) ∧ i ≤ n ∧ M.length ≤ i ∧ MapO wq w.heap.size R v u (M.map (·.1)) (s0 :: M.map (·.2)) ∧ M ++ bntK (K.drop i) (S.drop i) = bntK K S ∧ Below w.heap.size w wq) (fun iv _ => n - (intOf iv).toNat)
  case atStart =>
    obtain ⟨v, u, hm⟩ := HV.out.2
    exact ⟨0, [], v, u, rfl, Nat.zero_le _, Nat.le_refl _, hm, rfl, HV.out.1⟩
  case round =>
    obtain ⟨i, M, v, u, rfl, hi, hMi, hmo, hs, hb⟩ := hrel
    obtain ⟨wq, rfl⟩ : ∃ wq, wq = wr := ⟨_, rfl⟩
    by_cases hlt : i < n
    · obtain ⟨x, hx⟩ : ∃ x, K[i]? = some x := ⟨_, List.getElem?_eq_getElem (by rw [HN.out]; omega)⟩
      obtain ⟨a, ha⟩ : ∃ a, S[i]? = some a := ⟨_, List.getElem?_eq_getElem (by rw [HS.out, HN.out]; omega)⟩
      obtain ⟨b, hb'⟩ : ∃ b, S[i + 1]? = some b := ⟨_, List.getElem?_eq_getElem (by rw [HS.out, HN.out]; omega)⟩
      have HT := hideK (bntK_step hx ha hb')
      obtain ⟨A, rfl, hA, a0, a1, a2, a3⟩ := HO.out.keep hb i x hx
      obtain ⟨A1, hA1, hAb, b0, b1⟩ := HR.out (i + 1) b hb'
      obtain rfl : A0 = A1 := Option.some.inj hA1
      have HG : Hid (∀ W, Below w.heap.size w W → W.cell? (A0.add ((i + 1) * 2)) = some (.int .i64 b.N) ∧ W.cell? ⟨(A0.add ((i + 1) * 2)).block, (A0.add ((i + 1) * 2)).off + 1, none⟩ = some (.int .i64 b.D)) := hideK (fun W q => by
        have k : (A0.add ((i + 1) * 2)).block < w.heap.size := by rw [addrN_block]; exact hAb
        exact ⟨(q.cell k).trans b0, (q.cell (p := ⟨(A0.add ((i + 1) * 2)).block, (A0.add ((i + 1) * 2)).off + 1, none⟩) k).trans b1⟩)
      clear b0 b1 hA1 hAb
      have HC := hideK (show ∀ W : World, Below w.heap.size w W → Calls Try.prog 57 #[.pointer (some ⟨B, 0, none⟩), .int .i64 (i : Nat)] W fun e w' => e = .returned (.bool (bentB a b)) ∧ Below W.heap.size W w' from fun W q => bent_any K S B i a b ha hb' (by omega) W (HM.out.keep q))
      obtain ⟨r, hr⟩ : ∃ r, bentB a b = r := ⟨_, rfl⟩
      rw [hr] at HC HT
      have HA := hideK (And.intro hmo (And.intro hs hb))
      clear hr hmo hs hb ha hb' hx
      have di : (i : Int) < (n : Int) := by omega
      have wk : IntKind.i64.wrap ((i : Int) + 1) = ((i + 1 : Nat) : Int) := by rw [show ((i + 1 : Nat) : Int) = (i : Int) + 1 by omega]; exact IntWalk.i64_in _ ⟨by omega, by omega⟩
      have dj : ((i + 1 : Nat) : Int) < (n : Int) + 1 := by omega
      go_wp2_with fail
      obtain ⟨V2, hV2⟩ : ∃ V2, wq.alloc (.cells #[.int .i64 x.i.N, .int .i64 x.i.D, .int .i64 x.o.N, .int .i64 x.o.D] 45) = V2 := ⟨_, rfl⟩
      have HV2 : Hid (Below wq.heap.size wq V2 ∧ V2.heap[wq.heap.size]? = some (.cells #[.int .i64 x.i.N, .int .i64 x.i.D, .int .i64 x.o.N, .int .i64 x.o.D] 45)) := hideK (by
        rw [← hV2]
        exact ⟨bel1 _ _, World.alloc_heap_new _ _⟩)
      rw [hV2]
      clear hV2 a0 a1 a2 a3
      refine (HC.out V2 (bup HA.out.2.2 HV2.out.1)).mono ?_
      rintro e w2 ⟨rfl, b2⟩
      have HX : Hid (Below w.heap.size w w2 ∧ MapO w2 w.heap.size R v u (M.map (·.1)) (s0 :: M.map (·.2)) ∧ w2.heap[wq.heap.size]? = some (.cells #[.int .i64 x.i.N, .int .i64 x.i.D, .int .i64 x.o.N, .int .i64 x.o.D] 45) ∧ M ++ bntK (K.drop i) (S.drop i) = bntK K S) := hideK ⟨bup HA.out.2.2 (bup HV2.out.1 b2), HA.out.1.keep (bup HV2.out.1 b2), (b2.block _ (Array.getElem?_eq_some_iff.1 HV2.out.2).1).trans HV2.out.2, HA.out.2.1⟩
      clear b2 HV2 HC HA
      generalize wq.heap.size = D at *
      cases r with
      | true =>
        have hDz : D < w2.heap.size := (Array.getElem?_eq_some_iff.1 HX.out.2.2.1).1
        have hwz := HX.out.1.size
        have hRz := HX.out.2.1.lt
        obtain ⟨KL, hKL⟩ : ∃ KL, M.map (·.1) = KL := ⟨_, rfl⟩
        obtain ⟨SL, hSL⟩ : ∃ SL, s0 :: M.map (·.2) = SL := ⟨_, rfl⟩
        have hkl : KL.length ≤ i := by rw [← hKL, List.length_map]; exact hMi
        have hsl : SL.length ≤ i + 1 := by rw [← hSL, List.length_cons, List.length_map]; omega
        rw [hKL, hSL] at HX
        have HLL := hideK (And.intro hKL hSL)
        clear hKL hSL
        have x0 : w2.cell? ⟨D, 0, none⟩ = some (.int .i64 x.i.N) := by simp [World.cell?, HX.out.2.2.1]
        have x1 : w2.cell? ⟨D, 1, none⟩ = some (.int .i64 x.i.D) := by simp [World.cell?, HX.out.2.2.1]
        have x2 : w2.cell? ⟨D, 2, none⟩ = some (.int .i64 x.o.N) := by simp [World.cell?, HX.out.2.2.1]
        have x3 : w2.cell? ⟨D, 3, none⟩ = some (.int .i64 x.o.D) := by simp [World.cell?, HX.out.2.2.1]
        obtain ⟨r0, r1, f0, f1⟩ := HX.out.2.1.cells
        have r0' : (w2.alloc (.cells #[.int .i64 x.i.N, .int .i64 x.i.D, .int .i64 x.o.N, .int .i64 x.o.D] 45)).cell? ⟨R, 0, none⟩ = some v := (World.cell?_of_block (Below.heap_alloc w2 _ R hRz)).trans r0
        go_upto_region 6 with fail
        go_cut [] (fun wx => ∃ v1, MapO wx w.heap.size R v1 u (KL ++ [x]) SL ∧ Below w.heap.size w wx)
        case first =>
          go_region_law
            ((refine step_append_lies _ (by rfl) _ _ 22 (by rfl) w.heap.size 45 j0 _ 4 32 Try.underlying22 hJ hy0 hy1 hy2 rfl (by decide) v KL.length (flatKn KL) (by rfl) ((own_growK HX.out.2.1.kn (bel1 w2 _)).drew) ⟨w2.heap.size, 0, none⟩ 1 1 [.int .i64 x.i.N, .int .i64 x.i.D, .int .i64 x.o.N, .int .i64 x.o.D] (by rfl) rfl (World.news_of_block (cs := #[.int .i64 x.i.N, .int .i64 x.i.D, .int .i64 x.o.N, .int .i64 x.o.D]) (t := 45) (fr := (0, 0)) (World.alloc_heap_new w2 _)) (by simp [Value.oneCell']) (by omega) (by unfold maxLen; omega) (by omega) (by simp; omega) (w2.heap.size + 1) (by simp) ?_; intro gg cap5 w5 hown5 hgrow hat5 hlt5;
              obtain ⟨k0, k1, g0, g1⟩ := cells_of (HX.out.2.1.grew ((bel1 w2 (.cells #[.int .i64 x.i.N, .int .i64 x.i.D, .int .i64 x.o.N, .int .i64 x.o.D] 45)).drew) hgrow (.inl rfl))))
          all_goals
            have HF := hideK (And.intro hown5 hgrow)
            first | go_wp2_with fail | skip
            go_meet
            refine ⟨_, HX.out.2.1.put0 (bel1 w2 _).drew HF.out.2 HF.out.1, below_put HX.out.1 (bel1 w2 _).drew HF.out.2 (fun k hk => (HX.out.2.1.kn.lt k hk).1) hwz hRw _⟩
        case rest =>
          obtain ⟨v1, hm1, hb1⟩ := hcut
          generalize wc = X at *
          have HY := hideK (And.intro hm1 (And.intro hb1 HX.out.2.2.2))
          obtain ⟨r0, r1, f0, f1⟩ := hm1.cells
          have hRz := hm1.lt
          have hwz := hb1.size
          obtain ⟨-, k1⟩ := HB.out X hb1
          obtain ⟨s1, s2⟩ := HG.out X hb1
          have r1' : (X.alloc (.cells #[.int .i64 b.N, .int .i64 b.D] 42)).cell? ⟨R, 1, none⟩ = some u := (World.cell?_of_block (Below.heap_alloc X _ R hRz)).trans r1
          obtain ⟨j, hj⟩ : ∃ j, i + 1 = j := ⟨_, rfl⟩
          rw [hj] at s1 s2 wk dj
          clear hm1 hb1 HX HG
          go_upto_region 7 with fail
          go_region_law
            ((refine step_append_lies _ (by rfl) _ _ 23 (by rfl) w.heap.size 42 i0 _ 2 16 Try.underlying23 hI hz0 hz1 hz2 rfl (by decide) u SL.length (flatRt SL) (by rfl) ((own_growK HY.out.1.rt (bel1 X _)).drew) ⟨X.heap.size, 0, none⟩ 1 1 [.int .i64 b.N, .int .i64 b.D] (by rfl) rfl (World.news_of_block (cs := #[.int .i64 b.N, .int .i64 b.D]) (t := 42) (fr := (0, 0)) (World.alloc_heap_new X _)) (by simp [Value.oneCell']) (by omega) (by unfold maxLen; omega) (by omega) (by simp; omega) (X.heap.size + 1) (by simp) ?_; intro gg cap5 w5 hown5 hgrow hat5 hlt5;
              obtain ⟨k0, k1, g0, g1⟩ := cells_of (HY.out.1.grew ((bel1 X (.cells #[.int .i64 b.N, .int .i64 b.D] 42)).drew) hgrow (.inr rfl))))
          all_goals
            have HF := hideK (And.intro hown5 hgrow)
            have HZ : Hid (∃ u1, MapO (w5.setCell ⟨R, 1, none⟩ (.slice (some ⟨gg, 0, none⟩) (SL.length + 1) cap5)) w.heap.size R v1 u1 (KL ++ [x]) (SL ++ [b]) ∧ Below w.heap.size w (w5.setCell ⟨R, 1, none⟩ (.slice (some ⟨gg, 0, none⟩) (SL.length + 1) cap5))) := hideK ⟨_, HY.out.1.put1 (bel1 X _).drew HF.out.2 HF.out.1, below_put HY.out.2.1 (bel1 X _).drew HF.out.2 (fun k hk => (HY.out.1.rt.lt k hk).1) hwz hRw _⟩
            first | go_wp2_with fail | skip
            go_roundw
            case rel =>
              obtain ⟨u1, hz1', hz2'⟩ := HZ.out
              refine ⟨j, M ++ [(x, b)], v1, u1, by first | rfl | simp, by omega, by simp; omega, ?_, ?_, hz2'⟩
              · rw [List.map_append, List.map_append, HLL.out.1, ← List.cons_append, HLL.out.2]
                exact hz1'
              · rw [List.append_assoc, List.singleton_append, ← HY.out.2.2, HT.out, ← hj]
                rfl
            case measure => simp [intOf]; omega
      | false =>
        go_wp2_with fail
        go_roundw
        case rel =>
          refine ⟨i + 1, M, v, u, by first | rfl | simp, by omega, by omega, HX.out.2.1, ?_, HX.out.1⟩
          rw [← HX.out.2.2.2, HT.out]
          rfl
        case measure => simp [intOf]; omega
    · obtain rfl : i = n := by omega
      rw [bntK_end (by rw [HN.out]; exact Nat.le_refl _), List.append_nil] at hs
      subst hs
      have di : ¬ (i : Int) < (i : Int) := by omega
      obtain ⟨r0, r1, f0, f1⟩ := hmo.cells
      have hwz := hb.size
      have hRz := hmo.lt
      cases hbn : bntK K S with
      | cons y T =>
        have hmo2 := hmo
        rw [hbn] at hmo2
        obtain ⟨g, cap, rfl, -, -⟩ := World.ownsRow.form hmo2.kn (by simp)
        have HZ := hideK (And.intro hmo2.map hb)
        have hl : ((List.map (fun x : Kn × Rt => x.1) (y :: T)).length : Int) = (T.length : Int) + 1 := by simp
        have hl2 : ¬ (T.length : Int) + 1 = 0 := by omega
        have hE1 : prdK K S = (y :: T).map (·.1) := by unfold prdK; rw [hbn, if_neg (by simp)]
        have hE2 : prdS K S = s0 :: (y :: T).map (·.2) := by
          unfold prdS
          rw [hbn, if_neg (by simp)]
          have h9 := HS0.out
          cases S with
          | nil => cases h9
          | cons z Z => cases h9; rfl
        have HEE := hideK (And.intro hE1 hE2)
        clear hmo hmo2 hb hE1 hE2 r1 f0 f1
        rw [List.length_map, List.length_cons] at r0
        go_wp2_with fail
        rw [← HP.out]
        refine ⟨R, rfl, hRw, ?_, HZ.out.2⟩
        rw [HEE.out.1, HEE.out.2]
        exact HZ.out.1
      | nil =>
        have hmo2 := hmo
        rw [hbn] at hmo2
        obtain ⟨o1, d1, rfl, -, -, -⟩ := own_kn hmo2.kn
        obtain ⟨x, hx⟩ : ∃ x, K[0]? = some x := ⟨_, List.getElem?_eq_getElem (by rw [HN.out]; omega)⟩
        obtain ⟨A, rfl, hA, a0, a1, a2, a3⟩ := HO.out.keep hb 0 x hx
        rw [addK4] at a0 a1 a2 a3
        obtain ⟨A1, hA1, hAb, b0, b1⟩ := HR.out 0 s0 HS0.out
        obtain rfl : A0 = A1 := Option.some.inj hA1
        rw [addK0] at b0 b1
        have HG : Hid (∀ W, Below w.heap.size w W → W.cell? A0 = some (.int .i64 s0.N) ∧ W.cell? ⟨A0.block, A0.off + 1, none⟩ = some (.int .i64 s0.D)) := hideK (fun W q => ⟨(q.cell hAb).trans b0, (q.cell (p := ⟨A0.block, A0.off + 1, none⟩) hAb).trans b1⟩)
        have hE1 : prdK K S = [x] := by
          unfold prdK
          rw [hbn, if_pos rfl]
          cases K with
          | nil => cases hx
          | cons z Z => cases hx; rfl
        have hE2 : prdS K S = [s0, s0] := by
          unfold prdS
          rw [hbn, if_pos rfl]
          have h9 := HS0.out
          cases S with
          | nil => cases h9
          | cons z Z => cases h9; rfl
        have HEE := hideK (And.intro hE1 hE2)
        obtain ⟨k0, k1⟩ := HB.out wq hb
        have HX := hideK (And.intro hmo2 hb)
        clear hmo hmo2 hE1 hE2 b0 b1 hx hA1
        have dn : (0 : Int) < (i : Int) := by omega
        have dn2 : 0 < i := by omega
        have r0' : (wq.alloc (.cells #[.int .i64 x.i.N, .int .i64 x.i.D, .int .i64 x.o.N, .int .i64 x.o.D] 45)).cell? ⟨R, 0, none⟩ = some (.slice o1 (List.map (fun x : Kn × Rt => x.1) []).length d1) := (World.cell?_of_block (Below.heap_alloc wq _ R hRz)).trans r0
        simp only [List.map_nil, List.length_nil] at r0 r0'
        go_upto_region 10 with fail
        go_cut [] (fun wx => ∃ v1, MapO wx w.heap.size R v1 u ([] ++ [x]) [s0] ∧ Below w.heap.size w wx)
        case first =>
          go_region_law
            ((refine step_append_lies _ (by rfl) _ _ 22 (by rfl) w.heap.size 45 j0 _ 4 32 Try.underlying22 hJ hy0 hy1 hy2 rfl (by decide) (.slice o1 0 d1) 0 (flatKn []) (by rfl) ((own_growK HX.out.1.kn (bel1 wq _)).drew) ⟨wq.heap.size, 0, none⟩ 1 1 [.int .i64 x.i.N, .int .i64 x.i.D, .int .i64 x.o.N, .int .i64 x.o.D] (by rfl) rfl (World.news_of_block (cs := #[.int .i64 x.i.N, .int .i64 x.i.D, .int .i64 x.o.N, .int .i64 x.o.D]) (t := 45) (fr := (0, 0)) (World.alloc_heap_new wq _)) (by simp [Value.oneCell']) (by omega) (by unfold maxLen; omega) (by omega) (by simp; omega) (wq.heap.size + 1) (by simp) ?_; intro gg cap5 w5 hown5 hgrow hat5 hlt5;
              obtain ⟨k50, k51, g0, g1⟩ := cells_of (HX.out.1.grew ((bel1 wq (.cells #[.int .i64 x.i.N, .int .i64 x.i.D, .int .i64 x.o.N, .int .i64 x.o.D] 45)).drew) hgrow (.inl rfl))))
          all_goals
            have HF := hideK (And.intro hown5 hgrow)
            first | go_wp2_with fail | skip
            go_meet
            exact ⟨_, HX.out.1.put0 (bel1 wq _).drew HF.out.2 HF.out.1, below_put HX.out.2 (bel1 wq _).drew HF.out.2 (fun k hk => (HX.out.1.kn.lt k hk).1) hwz hRw _⟩
        case rest =>
          obtain ⟨v1, hm1, hb1⟩ := hcut
          generalize wc = X at *
          have HY := hideK (And.intro hm1 hb1)
          clear k0 k1 r0 r1 f0 f1 r0' hwz hRz a0 a1 a2 a3
          obtain ⟨r0, r1, f0, f1⟩ := hm1.cells
          have hRz := hm1.lt
          have hwz := hb1.size
          obtain ⟨-, k1⟩ := HB.out X hb1
          obtain ⟨s1, s2⟩ := HG.out X hb1
          have r1' : (X.alloc (.cells #[.int .i64 s0.N, .int .i64 s0.D] 42)).cell? ⟨R, 1, none⟩ = some u := (World.cell?_of_block (Below.heap_alloc X _ R hRz)).trans r1
          clear hm1 hb1 HX HG
          go_upto_region 11 with fail
          go_region_law
            ((refine step_append_lies _ (by rfl) _ _ 23 (by rfl) w.heap.size 42 i0 _ 2 16 Try.underlying23 hI hz0 hz1 hz2 rfl (by decide) u 1 (flatRt [s0]) (by rfl) ((own_growK HY.out.1.rt (bel1 X _)).drew) ⟨X.heap.size, 0, none⟩ 1 1 [.int .i64 s0.N, .int .i64 s0.D] (by rfl) rfl (World.news_of_block (cs := #[.int .i64 s0.N, .int .i64 s0.D]) (t := 42) (fr := (0, 0)) (World.alloc_heap_new X _)) (by simp [Value.oneCell']) (by omega) (by unfold maxLen; omega) (by omega) (by simp; omega) (X.heap.size + 1) (by simp) ?_; intro gg cap5 w5 hown5 hgrow hat5 hlt5;
              obtain ⟨k50, k51, g0, g1⟩ := cells_of (HY.out.1.grew ((bel1 X (.cells #[.int .i64 s0.N, .int .i64 s0.D] 42)).drew) hgrow (.inr rfl))))
          all_goals
            have HF := hideK (And.intro hown5 hgrow)
            have HZ : Hid (MapO (w5.setCell ⟨R, 1, none⟩ (.slice (some ⟨gg, 0, none⟩) (1 + 1) cap5)) w.heap.size R v1 (.slice (some ⟨gg, 0, none⟩) (1 + 1) cap5) [x] [s0, s0] ∧ Below w.heap.size w (w5.setCell ⟨R, 1, none⟩ (.slice (some ⟨gg, 0, none⟩) (1 + 1) cap5))) := hideK ⟨HY.out.1.put1 (bel1 X _).drew HF.out.2 HF.out.1, below_put HY.out.2 (bel1 X _).drew HF.out.2 (fun k hk => (HY.out.1.rt.lt k hk).1) hwz hRw _⟩
            first | go_wp2_with fail | skip
            rw [← HP.out]
            refine ⟨R, rfl, hRw, ?_, HZ.out.2⟩
            rw [HEE.out.1, HEE.out.2]
            exact HZ.out.1.map
end Go.Proofs.Ytipnefaggpigfaa
