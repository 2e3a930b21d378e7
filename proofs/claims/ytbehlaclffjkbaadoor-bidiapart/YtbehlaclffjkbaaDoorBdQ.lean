/- bidi: the rules, one behind the other (chapter 4). -/
import Derived.Test.YtbehlaclffjkbaaDoorBdP
namespace Go.Proofs.YtbehlaclffjkbaaDoor
open Go.RowKit Go.Shelf

theorem replC_len (K : Nat) (b : Int) (C : List Int) : (replC K b C).length = C.length := List.length_map _
theorem replC_cls {K : Nat} {b : Int} (hb : 1 ≤ b ∧ b ≤ 17) {C : List Int} (hC : ClsB C) : ClsB (replC K b C) := by
  intro x hx
  obtain ⟨y, hy, rfl⟩ := List.mem_map.1 hx
  split
  · exact hb
  · exact hC y hy
theorem atC_in {C : List Int} {side : Int} (hs : 1 ≤ side ∧ side ≤ 17) (hC : ClsB C) (i : Int) : 1 ≤ atC C side i ∧ atC C side i ≤ 17 := by
  unfold atC
  split
  · exact hs
  · cases h : C[i.toNat]? with
    | none => exact hs
    | some x => exact hC x (List.mem_of_getElem? h)
theorem set_cls {C : List Int} {x : Int} (hx : 1 ≤ x ∧ x ≤ 17) (hC : ClsB C) (i : Nat) : ClsB (C.set i x) := by
  intro y hy
  rcases List.mem_or_eq_of_mem_set hy with h | h
  · exact hC y h
  · rw [h]; exact hx
theorem partN_cls {side : Int} (hs : 1 ≤ side ∧ side ≤ 17) {C : List Int} (hC : ClsB C) (i : Nat) : ClsB (partN side C i) := by
  induction i with
  | zero => exact hC
  | succ i ih =>
    show ClsB (partS side (partN side C i) i)
    unfold partS
    split
    · exact set_cls (atC_in hs ih _) ih i
    · exact ih
theorem fillC_cls {C : List Int} {c : Int} (hc : 1 ≤ c ∧ c ≤ 17) (hC : ClsB C) (a b : Nat) : ClsB (fillC C a b c) := by
  intro y hy
  obtain ⟨k, hk⟩ := List.getElem?_of_mem hy
  unfold fillC at hk
  rw [List.getElem?_mapIdx] at hk
  cases h : C[k]? with
  | none => rw [h] at hk; cases hk
  | some x =>
    rw [h] at hk
    have e : (if a ≤ k ∧ k < b then c else x) = y := by simpa using hk
    rw [← e]
    split
    · exact hc
    · exact hC x (List.mem_of_getElem? h)
theorem fold_len {step : List Int → Nat × Nat → List Int} (h : ∀ L x, (step L x).length = L.length) : ∀ (l : List (Nat × Nat)) (C : List Int), (l.foldl step C).length = C.length
  | [], _ => rfl
  | x :: l, C => (fold_len h l (step C x)).trans (h C x)
theorem fold_cls {step : List Int → Nat × Nat → List Int} (h : ∀ L x, ClsB L → ClsB (step L x)) : ∀ (l : List (Nat × Nat)) (C : List Int), ClsB C → ClsB (l.foldl step C)
  | [], _, hC => hC
  | x :: l, C, hC => fold_cls h l (step C x) (h C x hC)
theorem besN_len (side : Int) (C : List Int) : (besN side C).length = C.length := fold_len (fun L x => by unfold besS; split; exact fillC_len _ _ _ _; rfl) _ _
theorem besN_cls {side : Int} {C : List Int} (hC : ClsB C) : ClsB (besN side C) := fold_cls (fun L x hL => by
  unfold besS
  split
  · exact fillC_cls (by omega) hL _ _
  · exact hL) _ _ hC
theorem neuN_len (side : Int) (C : List Int) : (neuN side C).length = C.length := fold_len (fun L x => by unfold neuS; split <;> exact fillC_len _ _ _ _) _ _
/-- All rules. -/
def resN (side : Int) (C : List Int) : List Int :=
  let C1 := runJ nmF 262143 side C
  let C2 := runJ (digF 14 5) 180224 side C1
  let C3 := replC 16384 15 C2
  let C4 := partN side C3 C3.length
  let C5 := besN side C4
  let C6 := replC 448 16 C5
  let C7 := runJ (digF 17 17) 180224 side C6
  neuN side C7
theorem resN_len (side : Int) (C : List Int) : (resN side C).length = C.length := by
  unfold resN
  simp only [neuN_len, runJ_len, replC_len, besN_len, partN_len]
theorem RsP.step {L L' : List Int} {n base : Nat} {v : Value} {side : Int} {w : World} {W X : World} (h : RsP L n base v side w w.heap.size W) (hg : ∀ k, v.ownBlock = some k → k < w.heap.size) (ho : X.ownsRow base 3 1 v n (flatJ L')) (hl : L'.length = n) (hb : But (fun k => v.ownBlock = some k) W X) : RsP L' n base v side w w.heap.size X :=
  ⟨ho, hl, (hb.same _ (Array.getElem?_eq_some_iff.1 h.box).1 (fun e => by have := hg _ e; omega)).trans h.box, h.but.trans hb⟩
set_option maxRecDepth 100000 in
set_option maxHeartbeats 4000000 in
theorem resolve_any (C : List Int) (hC : ClsB C) (side : Int) (hs : 1 ≤ side ∧ side ≤ 17) (hn : C.length ≤ 1000000000000) (base : Nat) (v : Value) (w : World) (h : w.ownsRow base 3 1 v C.length (flatJ C)) :
    Calls Tryd.prog 50 #[.agg #[v, .int .i64 side]] w fun e w' => (∃ u, e = .returned u) ∧ w'.ownsRow base 3 1 v C.length (flatJ (resN side C)) ∧ But (fun k => v.ownBlock = some k) w w' := by
  obtain ⟨n, hn'⟩ : ∃ n, C.length = n := ⟨_, rfl⟩
  obtain ⟨C1, h1⟩ : ∃ X, runJ nmF 262143 side C = X := ⟨_, rfl⟩
  obtain ⟨C2, h2⟩ : ∃ X, runJ (digF 14 5) 180224 side C1 = X := ⟨_, rfl⟩
  obtain ⟨C3, h3⟩ : ∃ X, replC 16384 15 C2 = X := ⟨_, rfl⟩
  obtain ⟨C4, h4⟩ : ∃ X, partN side C3 C3.length = X := ⟨_, rfl⟩
  obtain ⟨C5, h5⟩ : ∃ X, besN side C4 = X := ⟨_, rfl⟩
  obtain ⟨C6, h6⟩ : ∃ X, replC 448 16 C5 = X := ⟨_, rfl⟩
  obtain ⟨C7, h7⟩ : ∃ X, runJ (digF 17 17) 180224 side C6 = X := ⟨_, rfl⟩
  have hR : resN side C = neuN side C7 := by
    show neuN side (runJ (digF 17 17) 180224 side (replC 448 16 (besN side (partN side (replC 16384 15 (runJ (digF 14 5) 180224 side (runJ nmF 262143 side C))) (replC 16384 15 (runJ (digF 14 5) 180224 side (runJ nmF 262143 side C))).length)))) = _
    rw [h1, h2, h3, h4, h5, h6, h7]
  have k1 : ClsB C1 ∧ C1.length = n := ⟨h1 ▸ runJ_cls nmF_in hs hC, by rw [← h1, runJ_len, hn']⟩
  have k2 : ClsB C2 ∧ C2.length = n := ⟨h2 ▸ runJ_cls (digF_in (by omega)) hs k1.1, by rw [← h2, runJ_len, k1.2]⟩
  have k3 : ClsB C3 ∧ C3.length = n := ⟨h3 ▸ replC_cls (by omega) k2.1, by rw [← h3, replC_len, k2.2]⟩
  have k4 : ClsB C4 ∧ C4.length = n := ⟨h4 ▸ partN_cls hs k3.1 _, by rw [← h4, partN_len, k3.2]⟩
  have k5 : ClsB C5 ∧ C5.length = n := ⟨h5 ▸ besN_cls k4.1, by rw [← h5, besN_len, k4.2]⟩
  have k6 : ClsB C6 ∧ C6.length = n := ⟨h6 ▸ replC_cls (by omega) k5.1, by rw [← h6, replC_len, k5.2]⟩
  have k7 : ClsB C7 ∧ C7.length = n := ⟨h7 ▸ runJ_cls (digF_in (by omega)) hs k6.1, by rw [← h7, runJ_len, k6.2]⟩
  rw [hR]
  rw [hn'] at h hn ⊢
  obtain ⟨oa, cap, rfl⟩ : ∃ oa cap, v = .slice oa n cap := by
    rcases own_formB h with ⟨rfl, rfl⟩ | ⟨g, cap, rfl⟩
    · exact ⟨none, 0, rfl⟩
    · exact ⟨_, cap, rfl⟩
  have HDg : Hid (∀ k, (Value.slice oa n cap).ownBlock = some k → k < w.heap.size) := hideB (fun k hk => (h.lt k hk).2)
  have S1 : Hid (∀ W, RsP C n base (.slice oa n cap) side w w.heap.size W → Calls Tryd.prog 67 #[.agg #[.slice oa n cap, .int .i64 side]] W fun e w' => (∃ u, e = .returned u) ∧ RsP C1 n base (.slice oa n cap) side w w.heap.size w') := hideB (fun W hW => by
    refine ((marks_any C hC side hs) (by rw [hn']; exact hn) base (.slice oa n cap) W (by rw [hn']; exact hW.own)).mono ?_
    rintro e w' ⟨he, a, b⟩
    rw [h1, hn'] at a
    exact ⟨he, hW.step HDg.out a k1.2 b⟩)
  have S2 : Hid (∀ W, RsP C1 n base (.slice oa n cap) side w w.heap.size W → Calls Tryd.prog 68 #[.agg #[.slice oa n cap, .int .i64 side]] W fun e w' => (∃ u, e = .returned u) ∧ RsP C2 n base (.slice oa n cap) side w w.heap.size w') := hideB (fun W hW => by
    refine ((digA_any C1 k1.1 side hs) (by rw [k1.2]; exact hn) base (.slice oa n cap) W (by rw [k1.2]; exact hW.own)).mono ?_
    rintro e w' ⟨he, a, b⟩
    rw [h2, k1.2] at a
    exact ⟨he, hW.step HDg.out a k2.2 b⟩)
  have S3 : Hid (∀ W, RsP C2 n base (.slice oa n cap) side w w.heap.size W → Calls Tryd.prog 69 #[.agg #[.slice oa n cap, .int .i64 side], .int .u32 16384, .int .i64 15] W fun e w' => (∃ u, e = .returned u) ∧ RsP C3 n base (.slice oa n cap) side w w.heap.size w') := hideB (fun W hW => by
    refine ((repl_any C2 k2.1 side 16384 (by omega) 15) (by rw [k2.2]; exact hn) base (.slice oa n cap) W (by rw [k2.2]; exact hW.own)).mono ?_
    rintro e w' ⟨he, a, b⟩
    rw [h3, k2.2] at a
    exact ⟨he, hW.step HDg.out a k3.2 b⟩)
  have S4 : Hid (∀ W, RsP C3 n base (.slice oa n cap) side w w.heap.size W → Calls Tryd.prog 70 #[.agg #[.slice oa n cap, .int .i64 side]] W fun e w' => (∃ u, e = .returned u) ∧ RsP C4 n base (.slice oa n cap) side w w.heap.size w') := hideB (fun W hW => by
    refine ((part_any C3 side) (by rw [k3.2]; exact hn) base (.slice oa n cap) W (by rw [k3.2]; exact hW.own)).mono ?_
    rintro e w' ⟨he, a, b⟩
    rw [h4, k3.2] at a
    exact ⟨he, hW.step HDg.out a k4.2 b⟩)
  have S5 : Hid (∀ W, RsP C4 n base (.slice oa n cap) side w w.heap.size W → Calls Tryd.prog 71 #[.agg #[.slice oa n cap, .int .i64 side]] W fun e w' => (∃ u, e = .returned u) ∧ RsP C5 n base (.slice oa n cap) side w w.heap.size w') := hideB (fun W hW => by
    refine ((beside_any C4 k4.1 side) (by rw [k4.2]; exact hn) base (.slice oa n cap) W (by rw [k4.2]; exact hW.own)).mono ?_
    rintro e w' ⟨he, a, b⟩
    rw [h5, k4.2] at a
    exact ⟨he, hW.step HDg.out a k5.2 b⟩)
  have S6 : Hid (∀ W, RsP C5 n base (.slice oa n cap) side w w.heap.size W → Calls Tryd.prog 69 #[.agg #[.slice oa n cap, .int .i64 side], .int .u32 448, .int .i64 16] W fun e w' => (∃ u, e = .returned u) ∧ RsP C6 n base (.slice oa n cap) side w w.heap.size w') := hideB (fun W hW => by
    refine ((repl_any C5 k5.1 side 448 (by omega) 16) (by rw [k5.2]; exact hn) base (.slice oa n cap) W (by rw [k5.2]; exact hW.own)).mono ?_
    rintro e w' ⟨he, a, b⟩
    rw [h6, k5.2] at a
    exact ⟨he, hW.step HDg.out a k6.2 b⟩)
  have S7 : Hid (∀ W, RsP C6 n base (.slice oa n cap) side w w.heap.size W → Calls Tryd.prog 72 #[.agg #[.slice oa n cap, .int .i64 side]] W fun e w' => (∃ u, e = .returned u) ∧ RsP C7 n base (.slice oa n cap) side w w.heap.size w') := hideB (fun W hW => by
    refine ((digL_any C6 k6.1 side hs) (by rw [k6.2]; exact hn) base (.slice oa n cap) W (by rw [k6.2]; exact hW.own)).mono ?_
    rintro e w' ⟨he, a, b⟩
    rw [h7, k6.2] at a
    exact ⟨he, hW.step HDg.out a k7.2 b⟩)
  have S8 : Hid (∀ W, RsP C7 n base (.slice oa n cap) side w w.heap.size W → Calls Tryd.prog 73 #[.agg #[.slice oa n cap, .int .i64 side]] W fun e w' => (∃ u, e = .returned u) ∧ RsP (neuN side C7) n base (.slice oa n cap) side w w.heap.size w') := hideB (fun W hW => by
    refine ((sides_any C7 k7.1 side) (by rw [k7.2]; exact hn) base (.slice oa n cap) W (by rw [k7.2]; exact hW.own)).mono ?_
    rintro e w' ⟨he, a, b⟩
    rw [k7.2] at a
    exact ⟨he, hW.step HDg.out a (by rw [neuN_len]; exact k7.2) b⟩)
  have HH := hideB (RsP.new (side := side) hn' h)
  clear k1 k2 k3 k4 k5 k6 k7 h1 h2 h3 h4 h5 h6 h7 h hn' hC hR
  obtain ⟨PO, hPO⟩ : ∃ PO : Ending → World → Prop, (fun e w' => (∃ u, e = .returned u) ∧ w'.ownsRow base 3 1 (.slice oa n cap) n (flatJ (neuN side C7)) ∧ But (fun k => (Value.slice oa n cap).ownBlock = some k) w w') = PO := ⟨_, rfl⟩
  have HP := hideB hPO
  rw [hPO]
  clear hPO
  go_enter Tryd.func50, Tryd.ntmps50
  go_upto_region 1 with fail
  obtain ⟨V, hV⟩ : ∃ V, w.alloc (.cells #[.slice oa n cap, .int .i64 side] 80) = V := ⟨_, rfl⟩
  rw [hV] at HH ⊢
  clear hV
  have a1 := HH.out.cell
  have b1 := HH.out.cell1
  go_wp2_with fail
  refine (S1.out _ HH.out).mono ?_
  rintro e W1 ⟨⟨u1, rfl⟩, r1⟩
  have R1 := hideB r1
  clear r1 a1 b1 HH
  have a2 := R1.out.cell
  have b2 := R1.out.cell1
  go_wp2_with fail
  refine (S2.out _ R1.out).mono ?_
  rintro e W2 ⟨⟨u2, rfl⟩, r2⟩
  have R2 := hideB r2
  clear r2 a2 b2 R1
  have a3 := R2.out.cell
  have b3 := R2.out.cell1
  go_wp2_with fail
  refine (S3.out _ R2.out).mono ?_
  rintro e W3 ⟨⟨u3, rfl⟩, r3⟩
  have R3 := hideB r3
  clear r3 a3 b3 R2
  have a4 := R3.out.cell
  have b4 := R3.out.cell1
  go_wp2_with fail
  refine (S4.out _ R3.out).mono ?_
  rintro e W4 ⟨⟨u4, rfl⟩, r4⟩
  have R4 := hideB r4
  clear r4 a4 b4 R3
  have a5 := R4.out.cell
  have b5 := R4.out.cell1
  go_wp2_with fail
  refine (S5.out _ R4.out).mono ?_
  rintro e W5 ⟨⟨u5, rfl⟩, r5⟩
  have R5 := hideB r5
  clear r5 a5 b5 R4
  have a6 := R5.out.cell
  have b6 := R5.out.cell1
  go_wp2_with fail
  refine (S6.out _ R5.out).mono ?_
  rintro e W6 ⟨⟨u6, rfl⟩, r6⟩
  have R6 := hideB r6
  clear r6 a6 b6 R5
  have a7 := R6.out.cell
  have b7 := R6.out.cell1
  go_wp2_with fail
  refine (S7.out _ R6.out).mono ?_
  rintro e W7 ⟨⟨u7, rfl⟩, r7⟩
  have R7 := hideB r7
  clear r7 a7 b7 R6
  have a8 := R7.out.cell
  have b8 := R7.out.cell1
  go_wp2_with fail
  refine (S8.out _ R7.out).mono ?_
  rintro e W8 ⟨⟨u8, rfl⟩, r8⟩
  have R8 := hideB r8
  clear r8 a8 b8 R7
  have HRes : Hid (∀ u, PO (.returned u) W8) := hideB (fun u => by
    rw [← HP.out]
    exact ⟨⟨u, rfl⟩, R8.out.own, R8.out.but⟩)
  clear R8
  go_wp2_with fail
  first | exact HRes.out _ | (refine bodyPost_ret (v := .tuple #[]) (by simp [results, Tryd.results50, go_sem]) rfl ?_; exact HRes.out _)
end Go.Proofs.YtbehlaclffjkbaaDoor
