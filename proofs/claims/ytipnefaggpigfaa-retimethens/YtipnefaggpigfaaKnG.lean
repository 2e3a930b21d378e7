/- A map's bends: retime's bends is walked (chapter 6). -/
import Derived.Test.YtipnefaggpigfaaKnF
namespace Go.Proofs.Ytipnefaggpigfaa
open Go.RowKit Go.Shelf

def bndI (L : List (Kn × Rt)) : List Rt := L.map fun x => x.1.i
set_option maxRecDepth 100000 in
set_option maxHeartbeats 2000000 in
theorem bends_any (K : List Kn) (S : List Rt) (B : Nat) (hKS : S.length = K.length + 1) (hK : K.length ≤ 1000) (w : World) (hM : MapAt w B K S) :
    Calls Try.prog 23 #[.pointer (some ⟨B, 0, none⟩)] w fun e w' => ∃ v, e = .returned v ∧ w'.ownsRow w.heap.size 42 2 v (bntK K S).length (flatRt (bndI (bntK K S))) ∧ Below w.heap.size w w' := by
  obtain ⟨i0, hI, hz0, hz1, hz2⟩ := info_partsK infoRtK
  have hmx : maxLen ≤ 9223372036854775807 := by decide
  obtain ⟨oa, c1, ob, c2, k0, k1, h1, h2, h3, h4⟩ := hM.open
  have HM := hideK hM
  have HO := hideK h3
  have hBz := hM.lt
  obtain ⟨n, hn⟩ : ∃ n, K.length = n := ⟨_, rfl⟩
  have HN := hideK hn
  have HS := hideK hKS
  rw [hn] at k0 h1 hK
  clear hM k1 h2 h3 h4 hn hKS
  obtain ⟨PO, hPO⟩ : ∃ PO : Ending → World → Prop, (fun e w' => ∃ v, e = .returned v ∧ w'.ownsRow w.heap.size 42 2 v (bntK K S).length (flatRt (bndI (bntK K S))) ∧ Below w.heap.size w w') = PO := ⟨_, rfl⟩
  have HP := hideK hPO
  rw [hPO]
  clear hPO
  go_enter Try.func23, Try.ntmps23
  go_wp2_with fail
  go_loopw [3, 11] (fun lv iv wq => ∃ (i : Nat) (M : List (Kn × Rt)), iv = .int .i64 (i : Nat) ∧ i ≤ n ∧ M.length ≤ i ∧ wq.ownsRow w.heap.size 42 2 lv M.length (flatRt (bndI M)) ∧ M ++ bntK (K.drop i) (S.drop i) = bntK K S ∧ Below w.heap.size w wq) (fun _ iv _ => n - (intOf iv).toNat)
  case atStart => exact ⟨0, [], rfl, Nat.zero_le _, Nat.le_refl _, World.ownsRow_nil _ _ _ _, rfl, Below.refl _ _⟩
  case round =>
    obtain ⟨i, M, rfl, hi, hMi, hown, hs, hb⟩ := hrel
    obtain ⟨wq, rfl⟩ : ∃ wq, wq = wr := ⟨_, rfl⟩
    by_cases hlt : i < n
    · obtain ⟨x, hx⟩ : ∃ x, K[i]? = some x := ⟨_, List.getElem?_eq_getElem (by rw [HN.out]; omega)⟩
      obtain ⟨a, ha⟩ : ∃ a, S[i]? = some a := ⟨_, List.getElem?_eq_getElem (by rw [HS.out, HN.out]; omega)⟩
      obtain ⟨b, hb'⟩ : ∃ b, S[i + 1]? = some b := ⟨_, List.getElem?_eq_getElem (by rw [HS.out, HN.out]; omega)⟩
      have HT := hideK (bntK_step hx ha hb')
      obtain ⟨A, rfl, hA, a0, a1, a2, a3⟩ := HO.out.keep hb i x hx
      have HC := hideK (show ∀ W : World, Below w.heap.size w W → Calls Try.prog 57 #[.pointer (some ⟨B, 0, none⟩), .int .i64 (i : Nat)] W fun e w' => e = .returned (.bool (bentB a b)) ∧ Below W.heap.size W w' from fun W q => bent_any K S B i a b ha hb' (by omega) W (HM.out.keep q))
      obtain ⟨r, hr⟩ : ∃ r, bentB a b = r := ⟨_, rfl⟩
      rw [hr] at HC HT
      have HA := hideK (And.intro hown (And.intro hs hb))
      clear hr hown hs hb ha hb' hx
      have di : (i : Int) < (n : Int) := by omega
      have wk : IntKind.i64.wrap ((i : Int) + 1) = ((i + 1 : Nat) : Int) := by rw [show ((i + 1 : Nat) : Int) = (i : Int) + 1 by omega]; exact IntWalk.i64_in _ ⟨by omega, by omega⟩
      go_wp2_with fail
      obtain ⟨V, hV⟩ : ∃ V, wq.alloc (.cells #[.int .i64 x.i.N, .int .i64 x.i.D, .int .i64 x.o.N, .int .i64 x.o.D] 45) = V := ⟨_, rfl⟩
      have HV : Hid (Below wq.heap.size wq V ∧ V.heap[wq.heap.size]? = some (.cells #[.int .i64 x.i.N, .int .i64 x.i.D, .int .i64 x.o.N, .int .i64 x.o.D] 45)) := hideK (by
        rw [← hV]
        exact ⟨bel1 _ _, World.alloc_heap_new _ _⟩)
      rw [hV]
      clear hV a0 a1 a2 a3
      refine (HC.out V (bup HA.out.2.2 HV.out.1)).mono ?_
      rintro e w2 ⟨rfl, b2⟩
      have HX : Hid (Below wq.heap.size wq w2 ∧ w2.heap[wq.heap.size]? = some (.cells #[.int .i64 x.i.N, .int .i64 x.i.D, .int .i64 x.o.N, .int .i64 x.o.D] 45)) := hideK ⟨bup HV.out.1 b2, (b2.block _ (Array.getElem?_eq_some_iff.1 HV.out.2).1).trans HV.out.2⟩
      clear b2 HV HC
      have hzq := HA.out.2.2.size
      have hz2 := HX.out.1.size
      cases r with
      | true =>
        have k0 : w2.cell? ⟨wq.heap.size, 0, none⟩ = some (.int .i64 x.i.N) := by simp [World.cell?, HX.out.2]
        have k1 : w2.cell? ⟨wq.heap.size, 1, none⟩ = some (.int .i64 x.i.D) := by simp [World.cell?, HX.out.2]
        have hownX := own_growK HA.out.1 HX.out.1
        go_wp2_with (at_builtin; refine wpList_append_lies _ rfl _ _ 23 rfl w.heap.size 42 i0 _ 2 16 Try.underlying23 hI hz0 hz1 ‹_› rfl (by decide) _ M.length (flatRt (bndI M)) rfl (hownX.alloc _) ⟨w2.heap.size, 0, none⟩ 1 1 [.int .i64 x.i.N, .int .i64 x.i.D] rfl rfl (World.news_of_block (cs := #[.int .i64 x.i.N, .int .i64 x.i.D]) (t := 42) (fr := (0, 0)) (World.alloc_heap_new w2 _)) (by simp [Value.oneCell']) (by omega) (by unfold maxLen; omega) (by omega) (by simp; omega) (w2.heap.size + 1) (by simp) ?_; intro gg cap2 w6 hown6 hgrow6 hat6 hlt6)
        go_roundw
        case rel =>
          refine ⟨i + 1, M ++ [(x, b)], by first | rfl | simp, by omega, by simp; omega, ?_, ?_, ?_⟩
          · rw [show bndI (M ++ [(x, b)]) = bndI M ++ [x.i] by simp [bndI], flatRt_app, List.length_append]
            exact hown6
          · rw [List.append_assoc, List.singleton_append, ← HA.out.2.1, HT.out]
            rfl
          · exact Below.grown ((HA.out.2.2.trans (HX.out.1.mono hzq)).alloc (by omega) _) hgrow6 (by rw [World.size_alloc]; omega) (fun k hk => (hownX.lt k hk).1)
        case measure => simp [intOf]; omega
      | false =>
        go_wp2_with fail
        go_roundw
        case rel =>
          refine ⟨i + 1, M, by first | rfl | simp, by omega, by omega, own_growK HA.out.1 HX.out.1, ?_, bup HA.out.2.2 HX.out.1⟩
          rw [← HA.out.2.1, HT.out]
          rfl
        case measure => simp [intOf]; omega
    · obtain rfl : i = n := by omega
      have d1 : ¬ (i : Int) < (i : Int) := by omega
      rw [bntK_end (by rw [HN.out]; exact Nat.le_refl _), List.append_nil] at hs
      have HA := hideK (And.intro hown (And.intro hs hb))
      clear hown hs hb
      go_wp2_with fail
      rw [← HP.out]
      refine ⟨_, rfl, ?_, HA.out.2.2⟩
      rw [← HA.out.2.1]
      exact HA.out.1
end Go.Proofs.Ytipnefaggpigfaa
