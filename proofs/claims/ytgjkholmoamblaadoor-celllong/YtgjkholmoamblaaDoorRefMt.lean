/- The document's own clusters are the package's: the mathematics. -/
import Derived.Test.YtgjkholmoamblaaDoorRefCl
namespace Go.Proofs.YtgjkholmoamblaaDoor
open Go.RowKit

theorem takes_join (g : Gr) (r : Int) : g.takes r = joinB g.first g.last r (g.to - g.fr == 1) := by
  unfold Gr.takes joinB
  have hb := widthI_bd r
  by_cases h0 : widthI r = 0
  · have hf : flagB r = false := by
      cases h : flagB r
      · rfl
      · have := flag_width r h; omega
    simp [h0, hf]
  · by_cases h2 : widthI r = 2
    · have hf : flagB r = false := by
        cases h : flagB r
        · rfl
        · have := flag_width r h; omega
      simp [h2, hf]
    · rw [if_neg h0, if_neg h2]
      have e0 : (widthI r == 0) = false := by simpa using h0
      have e2 : (widthI r == 2) = false := by simpa using h2
      rw [e0, e2]
      cases flagB r <;> cases flagB g.first <;> simp
theorem cells_step (R : Nat → Int) (fr k : Nat) (h : fr < k) (hj : joinB (R fr) (R (k - 1)) (R k) (k == fr + 1) = true) :
    cellsR R fr (k + 1) = if (flagB (R k) || (R k == 65039 && symB (R fr))) = true then 2 else cellsR R fr k := by
  obtain ⟨d, rfl⟩ : ∃ d, k = fr + 1 + d := ⟨k - fr - 1, by omega⟩
  unfold cellsR
  have e1 : fr + 1 + d + 1 - fr - 1 = d + 1 := by omega
  have e2 : fr + 1 + d - fr - 1 = d := by omega
  rw [e1, e2, asksB]
  cases hf : flagB (R (fr + 1 + d))
  · cases d with
    | zero =>
      have hf' : flagB (R (fr + 1)) = false := hf
      rw [hf']
      simp only [asksB, Bool.and_false, Bool.false_or, Bool.false_eq_true, if_false, Nat.add_zero]
      rw [Bool.and_comm]
    | succ d =>
      have h1 : decide (1 < fr + 1 + (d + 1) + 1 - fr) = true := decide_eq_true (by omega)
      have h2 : decide (1 < fr + 1 + (d + 1) - fr) = true := decide_eq_true (by omega)
      rw [h1, h2]
      cases flagB (R fr) <;> cases flagB (R (fr + 1)) <;> cases symB (R fr) <;> cases asksB R fr (d + 1) <;> cases (R (fr + 1 + (d + 1)) == 65039) <;> simp
  · have hw := flag_width _ hf
    unfold joinB at hj
    simp [hw, hf] at hj
    obtain ⟨hd, hff⟩ := hj
    have hd0 : d = 0 := by omega
    subst hd0
    have h1 : decide (1 < fr + 1 + 0 + 1 - fr) = true := decide_eq_true (by omega)
    have hf' : flagB (R (fr + 1)) = true := hf
    rw [h1, hff, hf']
    simp
theorem sgF2_at (s : ByteArray) : ∀ b pos, s.size ≤ pos + b → pos ≤ s.size → ((sgF2 s b pos).length = 0 → pos = s.size) ∧ (0 < (sgF2 s b pos).length → ((sgF2 s b pos).getD 0 (0, 0)).1 = pos) ∧
    ∀ i, i < (sgF2 s b pos).length → ((sgF2 s b pos).getD i (0, 0)).1 < s.size ∧ ((sgF2 s b pos).getD i (0, 0)).2 = (Utf8.decode s ((sgF2 s b pos).getD i (0, 0)).1).1 ∧
      (if i + 1 < (sgF2 s b pos).length then ((sgF2 s b pos).getD (i + 1) (0, 0)).1 else s.size) = ((sgF2 s b pos).getD i (0, 0)).1 + (Utf8.decode s ((sgF2 s b pos).getD i (0, 0)).1).2
  | 0, pos, hb, hp => ⟨fun _ => by omega, fun h => by simp [sgF2] at h, fun i h => by simp [sgF2] at h⟩
  | b + 1, pos, hb, hp => by
    unfold sgF2
    by_cases h : pos < s.size
    · rw [if_pos h]
      have hd := decode_fit s pos h
      have hw := Lib.decode_width_pos s pos h
      obtain ⟨i1, i2, i3⟩ := sgF2_at s b (pos + (Utf8.decode s pos).2) (by omega) (by omega)
      refine ⟨fun e => by simp at e, fun _ => by simp [List.getD], fun i hi => ?_⟩
      cases i with
      | zero =>
        refine ⟨by simpa [List.getD] using h, by simp [List.getD], ?_⟩
        rw [List.length_cons]
        have ez : ((pos, (Utf8.decode s pos).1) :: sgF2 s b (pos + (Utf8.decode s pos).2)).getD 0 (0, 0) = (pos, (Utf8.decode s pos).1) := rfl
        have es : ((pos, (Utf8.decode s pos).1) :: sgF2 s b (pos + (Utf8.decode s pos).2)).getD (0 + 1) (0, 0) = (sgF2 s b (pos + (Utf8.decode s pos).2)).getD 0 (0, 0) := rfl
        rw [ez, es]
        split
        · rename_i hh
          exact i2 (by omega)
        · rename_i hh
          exact (i1 (by omega)).symm
      | succ i =>
        rw [List.length_cons] at hi ⊢
        obtain ⟨a1, a2, a3⟩ := i3 i (by omega)
        have es : ∀ j, ((pos, (Utf8.decode s pos).1) :: sgF2 s b (pos + (Utf8.decode s pos).2)).getD (j + 1) (0, 0) = (sgF2 s b (pos + (Utf8.decode s pos).2)).getD j (0, 0) := fun _ => rfl
        rw [es, es]
        refine ⟨a1, a2, ?_⟩
        rw [← a3]
        by_cases hh : i + 1 < (sgF2 s b (pos + (Utf8.decode s pos).2)).length
        · rw [if_pos hh, if_pos (by omega)]
        · rw [if_neg hh, if_neg (by omega)]
    · rw [if_neg h]
      exact ⟨fun _ => by omega, fun e => by simp at e, fun i e => by simp at e⟩
theorem at_next (s : ByteArray) (k : Nat) (hk : k < (sgs s).length) : placeAt s k < s.size ∧ runeAt s k = (Utf8.decode s (placeAt s k)).1 ∧ placeAt s (k + 1) = placeAt s k + (Utf8.decode s (placeAt s k)).2 := by
  obtain ⟨_, _, h3⟩ := sgF2_at s s.size 0 (by omega) (by omega)
  obtain ⟨a1, a2, a3⟩ := h3 k hk
  have e : placeAt s k = ((sgs s).getD k (0, 0)).1 := by unfold placeAt; rw [if_pos hk]
  refine ⟨by rw [e]; exact a1, ?_, ?_⟩
  · rw [e]
    unfold runeAt
    exact congrArg Int.ofNat a2
  · rw [e]
    unfold placeAt
    exact a3
theorem at_first (s : ByteArray) : placeAt s 0 = 0 := by
  obtain ⟨h1, h2, _⟩ := sgF2_at s s.size 0 (by omega) (by omega)
  unfold placeAt
  split
  · rename_i h
    exact h2 h
  · rename_i h
    exact (h1 (by unfold sgs at h; omega)).symm
theorem at_mono (s : ByteArray) (k : Nat) (h1 : 1 ≤ k) (hk : k ≤ (sgs s).length) : 0 < placeAt s k := by
  obtain ⟨j, rfl⟩ : ∃ j, k = j + 1 := ⟨k - 1, by omega⟩
  obtain ⟨a1, _, a3⟩ := at_next s j (by omega)
  have := Lib.decode_width_pos s (placeAt s j) a1
  omega
theorem at_last (s : ByteArray) : placeAt s (sgs s).length = s.size := by unfold placeAt; rw [if_neg (by omega)]
theorem rclF_done (R : Nat → Int) (A : Nat → Nat) (n : Nat) : ∀ b, rclF R A n b n = []
  | 0 => rfl
  | b + 1 => by unfold rclF; rw [if_neg (by omega)]
/-- The clusters that are told from the sign k on, the one that began at fr growing. -/
theorem clusF_rcl (s : ByteArray) : ∀ (m b f f' fr k : Nat) (g : Gr), (sgs s).length = k + m → m + 1 ≤ b → m ≤ f → m ≤ f' → fr < k → g.loc = placeAt s fr → g.fr = fr → g.to = k → g.cells = cellsR (runeAt s) fr k → g.first = runeAt s fr → g.last = runeAt s (k - 1) →
    clusF s b (placeAt s k) g = ⟨placeAt s fr, (placeAt s (toF (runeAt s) (sgs s).length fr f k) : Int) - placeAt s fr, fr, toF (runeAt s) (sgs s).length fr f k, cellsR (runeAt s) fr (toF (runeAt s) (sgs s).length fr f k)⟩ :: rclF (runeAt s) (placeAt s) (sgs s).length f' (toF (runeAt s) (sgs s).length fr f k) := by
  intro m
  induction m with
  | zero =>
    intro b f f' fr k g hn hb hf hf' hfr g1 g2 g3 g4 g5 g6
    obtain ⟨b, rfl⟩ : ∃ j, b = j + 1 := ⟨b - 1, by omega⟩
    have hk : k = (sgs s).length := by omega
    subst hk
    have hT : toF (runeAt s) (sgs s).length fr f (sgs s).length = (sgs s).length := by
      cases f with
      | zero => rfl
      | succ f => unfold toF; rw [if_neg (by omega)]
    rw [hT, rclF_done]
    have hp := at_mono s (sgs s).length (by omega) (by omega)
    rw [at_last] at hp ⊢
    unfold clusF
    rw [if_neg (by omega), if_neg (by omega)]
    unfold Gr.upTo
    rw [g1, g2, g3, g4]
  | succ m ih =>
    intro b f f' fr k g hn hb hf hf' hfr g1 g2 g3 g4 g5 g6
    obtain ⟨b, rfl⟩ : ∃ j, b = j + 1 := ⟨b - 1, by omega⟩
    obtain ⟨f, rfl⟩ : ∃ j, f = j + 1 := ⟨f - 1, by omega⟩
    obtain ⟨a1, a2, a3⟩ := at_next s k (by omega)
    have hp := at_mono s k (by omega) (by omega)
    have htk : g.takes (runeAt s k) = joinB (runeAt s fr) (runeAt s (k - 1)) (runeAt s k) (k == fr + 1) := by
      rw [takes_join, g5, g6, g2, g3]
      congr 1
      by_cases h : k = fr + 1
      · subst h
        simp
        omega
      · have e1 : (k == fr + 1) = false := by simpa using h
        have e2 : ((k : Int) - fr == 1) = false := by simp; omega
        rw [e1, e2]
    unfold clusF toF
    rw [if_pos a1, if_pos hp, ← a2, ← a3, htk]
    cases hj : joinB (runeAt s fr) (runeAt s (k - 1)) (runeAt s k) (k == fr + 1)
    · rw [if_neg (by simp), if_neg (by simp)]
      obtain ⟨f', rfl⟩ : ∃ j, f' = j + 1 := ⟨f' - 1, by omega⟩
      rw [rclF, if_pos (by omega)]
      have h1 : g.upTo (placeAt s k) = ⟨placeAt s fr, (placeAt s k : Int) - placeAt s fr, fr, k, cellsR (runeAt s) fr k⟩ := by
        unfold Gr.upTo
        rw [g1, g2, g3, g4]
      rw [h1]
      congr 1
      refine ih b (sgs s).length f' k (k + 1) _ (by omega) (by omega) (by omega) (by omega) (by omega) rfl ?_ ?_ ?_ rfl ?_
      · simp [Gr.begin, g3]
      · simp [Gr.begin, g3]
      · have e : k + 1 - k - 1 = 0 := by omega
        have e' : decide (1 < k + 1 - k) = false := decide_eq_false (by omega)
        simp [Gr.begin, cellsR, asksB]
      · simp [Gr.begin]
    · rw [if_pos rfl, if_pos ⟨by omega, rfl⟩]
      refine ih b f f' fr (k + 1) _ (by omega) (by omega) (by omega) (by omega) (by omega) ?_ ?_ ?_ ?_ ?_ ?_
      · simpa [Gr.add] using g1
      · simpa [Gr.add] using g2
      · simp [Gr.add, g3]
      · rw [cells_step _ _ _ hfr hj, ← g4, ← g5]
        rfl
      · simpa [Gr.add] using g5
      · simp [Gr.add]
theorem rcl_clusters (s : ByteArray) : rcl s = clusters s := by
  unfold rcl clusters
  by_cases h0 : (sgs s).length = 0
  · rw [h0]
    have : s.size = 0 := by
      have := at_last s
      rw [h0, at_first] at this
      omega
    unfold clusF
    rw [if_neg (by omega), if_pos this]
    rfl
  · obtain ⟨n, hn⟩ : ∃ n, (sgs s).length = n + 1 := ⟨(sgs s).length - 1, by omega⟩
    obtain ⟨a1, a2, a3⟩ := at_next s 0 (by omega)
    rw [at_first] at a1 a2 a3
    have hle : (sgs s).length ≤ s.size := by
      have h1 := sgF2_length s s.size 0
      have h2 := cntF_le s s.size 0
      unfold sgs
      omega
    unfold clusF
    rw [if_pos a1, if_neg (by omega), ← a2, ← a3]
    rw [clusF_rcl s n s.size (sgs s).length n 0 1 _ (by omega) (by omega) (by omega) (by omega) (by omega) (by simp [Gr.begin, at_first]) (by simp [Gr.begin, Gr.zero]) (by simp [Gr.begin, Gr.zero]) (by simp [Gr.begin, cellsR, asksB]) rfl rfl]
    conv => lhs; arg 4; rw [hn]
    rw [rclF, if_pos (by omega)]

end Go.Proofs.YtgjkholmoamblaaDoor
