/- bidi: fill, replace (chapter 4). -/
import Derived.Test.YtbehlaclffjkbaaDoorBdG
namespace Go.Proofs.YtbehlaclffjkbaaDoor
open Go.RowKit Go.Shelf

theorem own_butB {A B : World} {M : Nat → Prop} {base e size n : Nat} {v : Value} {xs : List Value} (h : A.ownsRow base e size v n xs) (hb : But M A B) (hne : ∀ k, v.ownBlock = some k → ¬ M k) : B.ownsRow base e size v n xs := by
  refine ⟨h.1, ?_⟩
  rcases h.2 with hn | ⟨g, cap, cur, rfl, hb', hgg, rest⟩
  · exact .inl hn
  · exact .inr ⟨g, cap, cur, rfl, hb', (hb.same g (Array.getElem?_eq_some_iff.1 hgg).1 (hne g rfl)).trans hgg, rest⟩
theorem replC_step {K : Nat} {b : Int} {C : List Int} {i : Nat} {c : Int} (h : C[i]? = some c) : replC K b (C.take (i + 1)) ++ C.drop (i + 1) = (replC K b (C.take i) ++ C.drop i).set i (if K.testBit c.toNat = true then b else c) := by
  obtain ⟨h1, e1⟩ := List.getElem?_eq_some_iff.1 h
  have hl : (replC K b (C.take i)).length = i := by unfold replC; rw [List.length_map, List.length_take]; omega
  rw [List.set_append, if_neg (by omega), hl, Nat.sub_self, List.drop_eq_getElem_cons h1, e1, List.set_cons_zero]
  unfold replC
  rw [List.take_add_one, h, List.map_append, List.append_assoc]
  rfl
theorem replC_same {K : Nat} {b : Int} {C : List Int} {i : Nat} {c : Int} (h : C[i]? = some c) (hf : K.testBit c.toNat = false) : replC K b (C.take (i + 1)) ++ C.drop (i + 1) = replC K b (C.take i) ++ C.drop i := by
  obtain ⟨h1, e1⟩ := List.getElem?_eq_some_iff.1 h
  rw [List.drop_eq_getElem_cons h1, e1]
  unfold replC
  rw [List.take_add_one, h, List.map_append, List.append_assoc]
  show _ ++ ([if K.testBit c.toNat = true then b else c] ++ _) = _
  rw [if_neg (by simp [hf])]
  rfl
set_option maxRecDepth 100000 in
set_option maxHeartbeats 2000000 in
theorem fill_any (C : List Int) (side c : Int) (a b : Nat) (hab : a ≤ b) (hbn : b ≤ C.length) (hn : C.length ≤ 1000000000000) (base : Nat) (v : Value) (w : World) (h : w.ownsRow base 3 1 v C.length (flatJ C)) :
    Calls Tryd.prog 83 #[.agg #[v, .int .i64 side], .int .i64 (a : Nat), .int .i64 (b : Nat), .int .i64 c] w fun e w' => (∃ u, e = .returned u) ∧ w'.ownsRow base 3 1 v C.length (flatJ (fillC C a b c)) ∧ But (fun k => v.ownBlock = some k) w w' := by
  obtain ⟨n, hn'⟩ : ∃ n, C.length = n := ⟨_, rfl⟩
  have HN := hideB hn'
  rw [hn'] at hbn hn h ⊢
  obtain ⟨oa, cap, rfl⟩ : ∃ oa cap, v = .slice oa n cap := by
    rcases own_formB h with ⟨rfl, rfl⟩ | ⟨g, cap, rfl⟩
    · exact ⟨none, 0, rfl⟩
    · exact ⟨_, cap, rfl⟩
  obtain ⟨PO, hPO⟩ : ∃ PO : Ending → World → Prop, (fun e w' => (∃ u, e = .returned u) ∧ w'.ownsRow base 3 1 (.slice oa n cap) n (flatJ (fillC C a b c)) ∧ But (fun k => (Value.slice oa n cap).ownBlock = some k) w w') = PO := ⟨_, rfl⟩
  have HP := hideB hPO
  rw [hPO]
  clear hPO
  have HH := hideB h
  clear hn' h
  go_enter Tryd.func83, Tryd.ntmps83
  go_upto_region 1 with fail
  obtain ⟨V, hV⟩ : ∃ V, w.alloc (.cells #[.slice oa n cap, .int .i64 side] 80) = V := ⟨_, rfl⟩
  have HV : Hid (Below w.heap.size w V ∧ V.ownsRow base 3 1 (.slice oa n cap) n (flatJ C) ∧ V.heap[w.heap.size]? = some (.cells #[.slice oa n cap, .int .i64 side] 80)) := hideB (by
    rw [← hV]
    exact ⟨bel1B _ _, own_keepB HH.out (bel1B _ _), World.alloc_heap_new _ _⟩)
  rw [hV]
  clear hV
  have hDg : ∀ k, (Value.slice oa n cap).ownBlock = some k → k < w.heap.size := fun k hk => (HH.out.lt k hk).2
  have HDg := hideB hDg
  obtain ⟨D, hD⟩ : ∃ D, w.heap.size = D := ⟨_, rfl⟩
  have HDe := hideB hD
  rw [hD] at HV HDg ⊢
  clear hD hDg
  go_wp2_with fail
  go_loopw [8] (fun iv wq => ∃ i : Nat, iv = .int .i64 (i : Nat) ∧ a ≤ i ∧ i ≤ b ∧ wq.ownsRow base 3 1 (.slice oa n cap) n (flatJ (fillC C a i c)) ∧ But (fun k => (Value.slice oa n cap).ownBlock = some k) V wq) (fun iv _ => b - (intOf iv).toNat)
  case atStart => exact ⟨a, rfl, Nat.le_refl _, hab, by rw [fillC_none]; exact HV.out.2.1, But.refl _ _⟩
  case round =>
    obtain ⟨i, rfl, hai, hib, hown, hbt⟩ := hrel
    obtain ⟨wq, rfl⟩ : ∃ wq, wq = wr := ⟨_, rfl⟩
    by_cases hlt : i < b
    · obtain ⟨g, cap2, e2⟩ : ∃ g cap2, Value.slice oa n cap = .slice (some ⟨g, 0, none⟩) n cap2 := by
        rcases own_formB hown with ⟨e, _⟩ | ⟨g, cap, e⟩
        · omega
        · exact ⟨g, cap, e⟩
      cases e2
      have hgD := HDg.out g rfl
      have hb0 : wq.heap[D]? = some (.cells #[.slice (some ⟨g, 0, none⟩) n cap, .int .i64 side] 80) := (hbt.same D (Array.getElem?_eq_some_iff.1 HV.out.2.2).1 (fun e => by simp [Value.ownBlock] at e; omega)).trans HV.out.2.2
      have k0 : wq.cell? ⟨D, 0, none⟩ = some (.slice (some ⟨g, 0, none⟩) n cap) := by simp [World.cell?, hb0]
      obtain ⟨x, hx⟩ : ∃ x, (fillC C a i c)[i]? = some x := ⟨_, List.getElem?_eq_getElem (by rw [fillC_len, HN.out]; omega)⟩
      have k1 := hown.cellAt i (by omega)
      rw [flatJ_get hx] at k1
      have k2 := hown.frozenAt i
      have HA := hideB (And.intro hown hbt)
      have di : (i : Int) < (b : Int) := by omega
      have dn : (i : Int) < (n : Int) := by omega
      have wk : IntKind.i64.wrap ((i : Int) + 1) = ((i + 1 : Nat) : Int) := by rw [show ((i + 1 : Nat) : Int) = (i : Int) + 1 by omega]; exact IntWalk.i64_in _ ⟨by omega, by omega⟩
      clear hown hbt hb0 hx
      go_wp2_with fail
      go_roundw
      case rel =>
        refine ⟨i + 1, by first | rfl | simp, by omega, by omega, ?_, HA.out.2.setCell (p := ⟨g, i, none⟩) rfl _⟩
        rw [← fillC_step C a i c hai (by rw [HN.out]; omega), flatJ_set]
        exact (HA.out.1.stored i _).1
      case measure => simp [intOf]; omega
    · obtain rfl : i = b := by omega
      have d2 : ¬ (i : Int) < (i : Int) := by omega
      have hres : ∀ u, PO (.returned u) wq := fun u => by
        rw [← HP.out]
        exact ⟨⟨u, rfl⟩, hown, (But.grown (by rw [HDe.out]; exact HV.out.1)).trans hbt⟩
      have HR := hideB hres
      clear hown hbt hres
      go_wp2_with fail
      first | exact HR.out _ | (refine bodyPost_ret (v := .tuple #[]) (by simp [results, Tryd.results83, go_sem]) rfl ?_; exact HR.out _)
set_option maxRecDepth 100000 in
set_option maxHeartbeats 2000000 in
theorem repl_any (C : List Int) (hC : ClsB C) (side : Int) (K : Nat) (hK : K < 262144) (b : Int) (hn : C.length ≤ 1000000000000) (base : Nat) (v : Value) (w : World) (h : w.ownsRow base 3 1 v C.length (flatJ C)) :
    Calls Tryd.prog 69 #[.agg #[v, .int .i64 side], .int .u32 (K : Int), .int .i64 b] w fun e w' => (∃ u, e = .returned u) ∧ w'.ownsRow base 3 1 v C.length (flatJ (replC K b C)) ∧ But (fun k => v.ownBlock = some k) w w' := by
  obtain ⟨n, hn'⟩ : ∃ n, C.length = n := ⟨_, rfl⟩
  have HN := hideB hn'
  rw [hn'] at hn h ⊢
  obtain ⟨oa, cap, rfl⟩ : ∃ oa cap, v = .slice oa n cap := by
    rcases own_formB h with ⟨rfl, rfl⟩ | ⟨g, cap, rfl⟩
    · exact ⟨none, 0, rfl⟩
    · exact ⟨_, cap, rfl⟩
  obtain ⟨PO, hPO⟩ : ∃ PO : Ending → World → Prop, (fun e w' => (∃ u, e = .returned u) ∧ w'.ownsRow base 3 1 (.slice oa n cap) n (flatJ (replC K b C)) ∧ But (fun k => (Value.slice oa n cap).ownBlock = some k) w w') = PO := ⟨_, rfl⟩
  have HP := hideB hPO
  rw [hPO]
  clear hPO
  have HH := hideB h
  have HCl := hideB hC
  clear hn' h hC
  go_enter Tryd.func69, Tryd.ntmps69
  go_upto_region 1 with fail
  obtain ⟨V, hV⟩ : ∃ V, w.alloc (.cells #[.slice oa n cap, .int .i64 side] 80) = V := ⟨_, rfl⟩
  have HV : Hid (Below w.heap.size w V ∧ V.ownsRow base 3 1 (.slice oa n cap) n (flatJ C) ∧ V.heap[w.heap.size]? = some (.cells #[.slice oa n cap, .int .i64 side] 80)) := hideB (by
    rw [← hV]
    exact ⟨bel1B _ _, own_keepB HH.out (bel1B _ _), World.alloc_heap_new _ _⟩)
  rw [hV]
  clear hV
  have hDg : ∀ k, (Value.slice oa n cap).ownBlock = some k → k < w.heap.size := fun k hk => (HH.out.lt k hk).2
  have HDg := hideB hDg
  obtain ⟨D, hD⟩ : ∃ D, w.heap.size = D := ⟨_, rfl⟩
  have HDe := hideB hD
  rw [hD] at HV HDg ⊢
  clear hD hDg
  have HBx : Hid (∀ wq, But (fun k => (Value.slice oa n cap).ownBlock = some k) V wq → wq.cell? ⟨D, 0, none⟩ = some (.slice oa n cap)) := hideB (fun wq hbt => by
    have hb0 : wq.heap[D]? = some (.cells #[.slice oa n cap, .int .i64 side] 80) := (hbt.same D (Array.getElem?_eq_some_iff.1 HV.out.2.2).1 (fun e => by have := HDg.out D e; omega)).trans HV.out.2.2
    simp [World.cell?, hb0])
  have k0 := HBx.out V (But.refl _ _)
  go_wp2_with fail
  clear k0
  go_loopw [11] (fun iv wq => ∃ i : Nat, iv = .int .i64 (i : Nat) ∧ i ≤ n ∧ wq.ownsRow base 3 1 (.slice oa n cap) n (flatJ (replC K b (C.take i) ++ C.drop i)) ∧ But (fun k => (Value.slice oa n cap).ownBlock = some k) V wq) (fun iv _ => n - (intOf iv).toNat)
  case atStart => exact ⟨0, rfl, Nat.zero_le _, HV.out.2.1, But.refl _ _⟩
  case round =>
    obtain ⟨i, rfl, hi, hown, hbt⟩ := hrel
    obtain ⟨wq, rfl⟩ : ∃ wq, wq = wr := ⟨_, rfl⟩
    by_cases hlt : i < n
    · obtain ⟨g, cap2, e2⟩ : ∃ g cap2, Value.slice oa n cap = .slice (some ⟨g, 0, none⟩) n cap2 := by
        rcases own_formB hown with ⟨e, _⟩ | ⟨g, cap, e⟩
        · omega
        · exact ⟨g, cap, e⟩
      cases e2
      have k0 := HBx.out wq hbt
      obtain ⟨x, hx⟩ : ∃ x, C[i]? = some x := ⟨_, List.getElem?_eq_getElem (by rw [HN.out]; omega)⟩
      have hxx : (replC K b (C.take i) ++ C.drop i)[i]? = some x := by
        have hl : (replC K b (C.take i)).length = i := by unfold replC; rw [List.length_map, List.length_take, HN.out]; omega
        rw [List.getElem?_append_right (by omega), hl, Nat.sub_self, List.getElem?_drop]
        exact hx
      have k1 := hown.cellAt i (by omega)
      rw [flatJ_get hxx] at k1
      have k2 := hown.frozenAt i
      have hxb := HCl.out x (List.mem_of_getElem? hx)
      obtain ⟨y, rfl⟩ : ∃ y : Nat, x = (y : Int) := ⟨x.toNat, by omega⟩
      have HSt := hideB (fun (hf : K.testBit (y : Int).toNat = true) => (replC_step (K := K) (b := b) hx).trans (by rw [if_pos hf]))
      have HSm := hideB (fun hf => replC_same (K := K) (b := b) hx hf)
      have HC := hideB (fun (W : World) => has_any K y (by omega) hK W)
      rw [Int.toNat_natCast] at HSt HSm
      have HA := hideB (And.intro hown hbt)
      obtain ⟨z, hz⟩ : ∃ z, K.testBit y = z := ⟨_, rfl⟩
      rw [hz] at HC HSt HSm
      have di : (i : Int) < (n : Int) := by omega
      have wk : IntKind.i64.wrap ((i : Int) + 1) = ((i + 1 : Nat) : Int) := by rw [show ((i + 1 : Nat) : Int) = (i : Int) + 1 by omega]; exact IntWalk.i64_in _ ⟨by omega, by omega⟩
      clear hown hbt hx hxx hz hxb
      go_wp2_with fail
      refine (HC.out wq).mono ?_
      rintro e w2 ⟨rfl, rfl⟩
      clear HC
      cases z with
      | true =>
        go_wp2_with fail
        go_roundw
        case rel =>
          refine ⟨i + 1, by first | rfl | simp, by omega, ?_, HA.out.2.setCell (p := ⟨g, i, none⟩) rfl _⟩
          rw [HSt.out (by simp), flatJ_set]
          exact (HA.out.1.stored i _).1
        case measure => simp [intOf]; omega
      | false =>
        go_wp2_with fail
        go_roundw
        case rel => exact ⟨i + 1, by first | rfl | simp, by omega, by rw [HSm.out (by simp)]; exact HA.out.1, HA.out.2⟩
        case measure => simp [intOf]; omega
    · obtain rfl : i = n := by omega
      have d2 : ¬ (i : Int) < (i : Int) := by omega
      have e1 : C.take i = C := List.take_of_length_le (by rw [HN.out]; exact Nat.le_refl _)
      have e2 : C.drop i = [] := List.drop_eq_nil_of_le (by rw [HN.out]; exact Nat.le_refl _)
      rw [e1, e2, List.append_nil] at hown
      have hres : ∀ u, PO (.returned u) wq := fun u => by
        rw [← HP.out]
        exact ⟨⟨u, rfl⟩, hown, (But.grown (by rw [HDe.out]; exact HV.out.1)).trans hbt⟩
      have HR := hideB hres
      clear hown hbt hres e1 e2
      go_wp2_with fail
      first | exact HR.out _ | (refine bodyPost_ret (v := .tuple #[]) (by simp [results, Tryd.results69, go_sem]) rfl ?_; exact HR.out _)
end Go.Proofs.YtbehlaclffjkbaaDoor
