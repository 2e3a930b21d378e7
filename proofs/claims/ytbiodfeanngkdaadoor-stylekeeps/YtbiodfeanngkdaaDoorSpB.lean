/- slices.Clone over spans; rows of ints of one's own as a stack (chapter 7). -/
import Derived.Test.YtbiodfeanngkdaaDoorSpA
namespace Go.Proofs.YtbiodfeanngkdaaDoor
open Go.RowKit Go.Shelf
attribute [local go_sem] Oper.semAt_some

def flat4 (Q : List Sp) : List Value := Q.flatMap fun p => [.int .i64 p.fr, .int .i64 p.tt, .int .i64 p.kd, .int .i64 p.vl]
theorem flat4_len (Q : List Sp) : (flat4 Q).length = Q.length * 4 := by
  induction Q with
  | nil => rfl
  | cons x Q ih =>
    show ([_, _, _, _] ++ flat4 Q).length = _
    rw [List.length_append, ih]
    simp
    omega
theorem flat4_snoc (Q : List Sp) (x : Sp) : flat4 (Q ++ [x]) = flat4 Q ++ [.int .i64 x.fr, .int .i64 x.tt, .int .i64 x.kd, .int .i64 x.vl] := by simp [flat4]
theorem flat4_at : ∀ (Q : List Sp) (i : Nat) (p : Sp), Q[i]? = some p → (flat4 Q)[i * 4]? = some (.int .i64 p.fr) ∧ (flat4 Q)[i * 4 + 1]? = some (.int .i64 p.tt) ∧ (flat4 Q)[i * 4 + 2]? = some (.int .i64 p.kd) ∧ (flat4 Q)[i * 4 + 3]? = some (.int .i64 p.vl)
  | [], i, p, h => by simp at h
  | x :: Q, 0, p, h => by
    obtain rfl : x = p := by simpa using h
    exact ⟨rfl, rfl, rfl, rfl⟩
  | x :: Q, i + 1, p, h => by
    have ih := flat4_at Q i p (by simpa using h)
    have e : ∀ j, (flat4 (x :: Q))[(i + 1) * 4 + j]? = (flat4 Q)[i * 4 + j]? := fun j => by
      show ([_, _, _, _] ++ flat4 Q)[(i + 1) * 4 + j]? = _
      rw [List.getElem?_append_right (by simp; omega)]
      congr 1
      simp
      omega
    exact ⟨(e 0).trans ih.1, (e 1).trans ih.2.1, (e 2).trans ih.2.2.1, (e 3).trans ih.2.2.2⟩
/-- Each cell of a flat row is one of its spans'. -/
theorem flat4_cell {Q : List Sp} {j : Nat} {u : Value} (h : (flat4 Q)[j]? = some u) : ∃ p, Q[j / 4]? = some p ∧ ((j % 4 = 0 ∧ u = .int .i64 p.fr) ∨ (j % 4 = 1 ∧ u = .int .i64 p.tt) ∨ (j % 4 = 2 ∧ u = .int .i64 p.kd) ∨ (j % 4 = 3 ∧ u = .int .i64 p.vl)) := by
  have hj := (List.getElem?_eq_some_iff.1 h).1
  rw [flat4_len] at hj
  obtain ⟨p, hp⟩ : ∃ p, Q[j / 4]? = some p := ⟨_, List.getElem?_eq_getElem (by omega)⟩
  obtain ⟨h0, h1, h2, h3⟩ := flat4_at Q (j / 4) p hp
  refine ⟨p, hp, ?_⟩
  have hr : j % 4 = 0 ∨ j % 4 = 1 ∨ j % 4 = 2 ∨ j % 4 = 3 := by omega
  rcases hr with r | r | r | r
  · rw [show j / 4 * 4 = j by omega, h] at h0
    exact .inl ⟨r, by simpa using h0⟩
  · rw [show j / 4 * 4 + 1 = j by omega, h] at h1
    exact .inr (.inl ⟨r, by simpa using h1⟩)
  · rw [show j / 4 * 4 + 2 = j by omega, h] at h2
    exact .inr (.inr (.inl ⟨r, by simpa using h2⟩))
  · rw [show j / 4 * 4 + 3 = j by omega, h] at h3
    exact .inr (.inr (.inr ⟨r, by simpa using h3⟩))
theorem flat4_one (Q : List Sp) : ∀ u ∈ flat4 Q, u.oneCell' = true := fun u hu => by
  obtain ⟨j, hj⟩ := List.mem_iff_getElem?.1 hu
  obtain ⟨p, _, h⟩ := flat4_cell hj
  rcases h with ⟨_, rfl⟩ | ⟨_, rfl⟩ | ⟨_, rfl⟩ | ⟨_, rfl⟩ <;> rfl
theorem addrS_next (a : Addr) (n k : Nat) : a.add (n + (k + 1)) = ⟨(a.add n).block, (a.add n).off + (k + 1), none⟩ := by
  unfold Addr.add
  by_cases h : n = 0
  · subst h; simp
  · simp [h]; omega
theorem SpO.flat {V : World} {a : Addr} {Q : List Sp} (h : SpO V (some a) Q) : ∀ j u, (flat4 Q)[j]? = some u → V.cell? (a.add j) = some u := fun j u hj => by
  obtain ⟨p, hp, hc⟩ := flat4_cell hj
  obtain ⟨a', ha, _, c0, c1, c2, c3⟩ := h _ p hp
  obtain rfl : a = a' := by simpa using ha
  rw [← addrS_next] at c1 c2 c3
  rcases hc with ⟨r, rfl⟩ | ⟨r, rfl⟩ | ⟨r, rfl⟩ | ⟨r, rfl⟩
  · rw [show j / 4 * 4 = j by omega] at c0
    exact c0
  · rw [show j / 4 * 4 + (0 + 1) = j by omega] at c1
    exact c1
  · rw [show j / 4 * 4 + (1 + 1) = j by omega] at c2
    exact c2
  · rw [show j / 4 * 4 + (2 + 1) = j by omega] at c3
    exact c3
/-- A row of spans of one's own, as it may be written. -/
theorem own_sc {W : World} {base n : Nat} {v : Value} {Q : List Sp} (h : W.ownsRow base 45 4 v n (flat4 Q)) (hn : Q.length = n) : ∃ o cap, v = .slice o n cap ∧ (n ≤ cap ∧ cap ≤ maxLen) ∧ (o = none → cap = 0) ∧ (∀ a, o = some a → ∃ g, a = ⟨g, 0, none⟩ ∧ base ≤ g ∧ SC (cap * 4) W g Q) ∧ (o = none → Q = []) := by
  rcases h.2 with ⟨rfl, rfl⟩ | ⟨g, cap, cur, rfl, hb, hg, hcn, hcm, hs, h4⟩
  · exact ⟨none, 0, rfl, ⟨Nat.le_refl _, Nat.zero_le _⟩, fun _ => rfl, fun a ha => (nomatch ha), fun _ => List.eq_nil_of_length_eq_zero hn⟩
  · refine ⟨_, cap, rfl, ⟨hcn, hcm⟩, fun e => (nomatch e), fun a ha => ⟨g, (Option.some.inj ha).symm, hb, cur, hg, hs, fun i p hp => ?_⟩, fun e => (nomatch e)⟩
    obtain ⟨c0, c1, c2, c3⟩ := flat4_at Q i p hp
    have hi := (List.getElem?_eq_some_iff.1 hp).1
    rw [← h4] at c0 c1 c2 c3
    rw [List.getElem?_take, if_pos (by omega)] at c0 c1 c2 c3
    simp only [Array.getElem?_toList] at c0 c1 c2 c3
    exact ⟨c0, c1, c2, c3⟩
theorem own_empty (w : World) (t : TypeId) (size : Nat) : (w.alloc (.cells #[] t)).ownsRow w.heap.size t size (.slice (some ⟨w.heap.size, 0, none⟩) 0 0) 0 [] :=
  ⟨by simp, .inr ⟨w.heap.size, 0, #[], rfl, Nat.le_refl _, World.alloc_heap_new w _, Nat.le_refl _, Nat.zero_le _, by simp, by simp⟩⟩
theorem infoSp : (Tryd.prog.info? 45).map (fun i => (i.zero, i.size, i.bytes)) = some (some (.agg #[.int .i64 0, .int .i64 0, .int .i64 0, .int .i64 0]), 4, 32) := by kernel_rfl

set_option maxRecDepth 100000 in
set_option maxHeartbeats 400000 in
theorem spclone_nil7 (w : World) : Calls Tryd.prog 38 #[.slice none 0 0] w fun e w' => e = .returned (.slice none 0 0) ∧ w' = w := by
  have he : ∀ W, (binOp .eql 22 (.slice none 0 0) (.slice none 0 0)).run Tryd.prog W = .ok (.bool true) W := fun W => by kernel_rfl
  go_enter Tryd.func38, Tryd.ntmps38
  go_wp2
  go_ret
  exact ⟨rfl, rfl⟩
set_option maxRecDepth 100000 in
set_option maxHeartbeats 1000000 in
theorem spclone_some (D : List Sp) (a : Addr) (cap : Nat) (hl : D.length ≤ 1048576) (w : World) (hR : SpO w (some a) D) :
    Calls Tryd.prog 38 #[.slice (some a) D.length cap] w fun e w' => ∃ v, e = .returned v ∧ w'.ownsRow w.heap.size 45 4 v D.length (flat4 D) ∧ Below w.heap.size w w' := by
  obtain ⟨i0, hi, hz0, hz1, hz2⟩ := info_parts infoSp
  have he : ∀ W, (binOp .eql 22 (.slice (some a) D.length cap) (.slice none 0 0)).run Tryd.prog W = .ok (.bool false) W := fun W => by
    first | rfl | kernel_rfl
  have HFl := hideS hR.flat
  have HBk : Hid (∀ j u, (flat4 D)[j]? = some u → (a.add j).block < w.heap.size) := hideS fun j u hj => by
    obtain ⟨p, hp, _⟩ := flat4_cell hj
    obtain ⟨a', ha, hb, _⟩ := hR _ p hp
    obtain rfl : a = a' := by simpa using ha
    rw [addrS_block]
    exact hb
  have HO := hideS (flat4_one D)
  have HL := hideS (flat4_len D)
  clear hR
  obtain ⟨N, hN⟩ : ∃ N, D.length = N := ⟨_, rfl⟩
  rw [hN] at hl HL he ⊢
  clear hN
  go_enter Tryd.func38, Tryd.ntmps38
  go_wp2_with (at_builtin; refine wpList_append_own _ rfl _ _ 22 rfl w.heap.size 45 i0 (.agg #[.int .i64 0, .int .i64 0, .int .i64 0, .int .i64 0]) 4 32 Tryd.underlying22 hi hz0 hz1 hz2 rfl (by decide) _ 0 [] rfl (own_empty w _ 4) a N cap (flat4 D) rfl HL.out (fun j u hj => (Below.cell (bel1S w _) (HBk.out j u hj)).trans (HFl.out j u hj)) HO.out (by unfold maxLen; omega) (by omega) (by simp) ?_; intro v' w3 hown' hgrow _)
  have hB := Below.grown (bel1S w (.cells #[] 45)) hgrow (by simp) (fun j hj => by cases hj; exact Nat.le_refl _)
  rw [List.nil_append, Nat.zero_add] at hown'
  have HF := hideS (And.intro hown' hB)
  clear hown' hB hgrow
  go_wp2_with fail
  go_ret
  exact ⟨_, rfl, HF.out.1, HF.out.2⟩
/-- A slice of spans that may be handed in. -/
theorem spclone_any (D : List Sp) (oa : Option Addr) (cap : Nat) (hl : D.length ≤ 1048576) (hn : oa = none → D = [] ∧ cap = 0) (w : World) (hR : SpO w oa D) :
    Calls Tryd.prog 38 #[.slice oa D.length cap] w fun e w' => ∃ v, e = .returned v ∧ w'.ownsRow w.heap.size 45 4 v D.length (flat4 D) ∧ Below w.heap.size w w' := by
  cases oa with
  | none =>
    obtain ⟨rfl, rfl⟩ := hn rfl
    refine (spclone_nil7 w).mono ?_
    rintro e w' ⟨rfl, rfl⟩
    exact ⟨_, rfl, World.ownsRow_nil _ _ _ _, Below.refl _ _⟩
  | some a => exact spclone_some D a cap hl w hR
end Go.Proofs.YtbiodfeanngkdaaDoor
