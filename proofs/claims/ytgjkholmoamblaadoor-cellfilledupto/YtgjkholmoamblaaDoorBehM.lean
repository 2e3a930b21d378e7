/- What stands behind a text changes no cluster of it but the last, where the two do not melt. -/
import Derived.Test.YtgjkholmoamblaaDoorCellM5
import Derived.Test.YtgjkholmoamblaaDoorMltM
namespace Go.Proofs.YtgjkholmoamblaaDoor

theorem app_front (s t : ByteArray) : (s ++ t).extract 0 s.size = s := by
  refine ba_ext ?_
  rw [Lib.extract_data, List.drop_zero, Nat.sub_zero, ByteArray.data_append, Array.toList_append, Lib.size_eq, List.take_left]
/-- A sign of both that lies whole in the first is one of the first. -/
theorem agree {s t : ByteArray} {p : Nat} {l : List Sg} (h : Lies (s ++ t) p l s.size) (hp : p < s.size) : Utf8.decode s p = Utf8.decode (s ++ t) p ∧ ∃ m, Lies (s ++ t) (p + (Utf8.decode (s ++ t) p).2) m s.size := by
  cases l with
  | nil => simp only [Lies] at h; omega
  | cons x r =>
    obtain ⟨h1, h2, h3⟩ := h
    have hx : x.len = (Utf8.decode (s ++ t) p).2 := by rw [h2]; exact (sgn_dec _ p h1).2.1
    have hle := lies_le h3
    rw [hx] at h3 hle
    refine ⟨?_, r, h3⟩
    have hsz : (s ++ t).size = s.size + t.size := ByteArray.size_append
    have := decode_front (s ++ t) s.size p (by omega) hp (by omega)
    rw [app_front] at this
    exact this
theorem decode_in (u : ByteArray) (p : Nat) (hp : p < u.size) : p + (Utf8.decode u p).2 ≤ u.size := by
  have h := sgns_lies u u.size p (by omega) (by omega)
  cases hl : sgns u u.size p with
  | nil => rw [hl] at h; simp only [Lies] at h; omega
  | cons x r =>
    rw [hl] at h
    obtain ⟨h1, h2, h3⟩ := h
    have := lies_le h3
    rw [h2, (sgn_dec u p h1).2.1] at this
    omega
theorem clusF_some (u : ByteArray) : ∀ (b pos : Nat) (g : Gr), 0 < pos → u.size + 1 ≤ pos + b → pos ≤ u.size → clusF u b pos g ≠ []
  | 0, pos, g, h0, h1, h2 => by omega
  | b + 1, pos, g, h0, h1, h2 => by
    unfold clusF
    by_cases hp : pos < u.size
    · rw [if_pos hp, if_pos h0]
      have hw := Lib.decode_width_pos u pos hp
      split
      · by_cases hq : pos + (Utf8.decode u pos).2 ≤ u.size
        · exact clusF_some u b _ _ (by omega) (by omega) hq
        · have hd := decode_in u pos hp
          omega
      · simp
    · rw [if_neg hp, if_neg (by omega)]
      simp
theorem behind_clus (s t : ByteArray) : ∀ (b pos : Nat) (g : Gr) (b' : Nat) (l : List Sg), Lies (s ++ t) pos l s.size → 0 < pos → pos ≤ s.size → s.size + 1 ≤ pos + b → (s ++ t).size + 1 ≤ pos + b' → ∃ L last R, clusF s b pos g = L ++ [last] ∧ clusF (s ++ t) b' pos g = L ++ R ∧ R ≠ []
  | 0, pos, g, b', l, hl, h0, h1, h2, h3 => by omega
  | b + 1, pos, g, b', l, hl, h0, h1, h2, h3 => by
    have hsz : (s ++ t).size = s.size + t.size := ByteArray.size_append
    by_cases hp : pos < s.size
    · obtain ⟨hd, m, hm⟩ := agree hl hp
      have hw := Lib.decode_width_pos s pos hp
      have hle := lies_le hm
      rw [← hd] at hm hle
      cases b' with
      | zero => omega
      | succ b' =>
        unfold clusF
        rw [if_pos hp, if_pos h0, if_pos (show pos < (s ++ t).size by omega), if_pos h0, ← hd]
        by_cases ht : g.takes (Utf8.decode s pos).1 = true
        · rw [if_pos ht, if_pos ht]
          exact behind_clus s t b _ _ b' m hm (by omega) (by omega) (by omega) (by omega)
        · rw [if_neg ht, if_neg ht]
          obtain ⟨L, la, R, e1, e2, e3⟩ := behind_clus s t b _ (.begin pos g.to (Utf8.decode s pos).1) b' m hm (by omega) (by omega) (by omega) (by omega)
          exact ⟨g.upTo pos :: L, la, R, by rw [e1]; rfl, by rw [e2]; rfl, e3⟩
    · refine ⟨[], g.upTo s.size, clusF (s ++ t) b' pos g, ?_, by simp, clusF_some _ _ _ _ h0 h3 (by omega)⟩
      unfold clusF
      rw [if_neg hp, if_neg (by omega)]
      rfl
theorem behind (s t : ByteArray) (hm : meltsB s t = false) : (clusters s).length ≤ (clusters (s ++ t)).length ∧ ∀ i, i + 1 < (clusters s).length → (clusters (s ++ t))[i]? = (clusters s)[i]? := by
  by_cases h0 : s.size = 0
  · rw [clusters_zero s h0]
    exact ⟨by simp, fun i h => by simp at h⟩
  · have hsz : (s ++ t).size = s.size + t.size := ByteArray.size_append
    have hex : ∃ l, Lies (s ++ t) 0 l s.size := by
      rcases Classical.em (∃ l, Lies (s ++ t) 0 l s.size) with h | h
      · exact h
      · have := (melts_iff s t).2 h
        rw [hm] at this
        cases this
    obtain ⟨l, hl⟩ := hex
    obtain ⟨hd, m, hmm⟩ := agree hl (by omega)
    have hle := lies_le hmm
    have hw := Lib.decode_width_pos s 0 (by omega)
    rw [← hd] at hmm hle
    rw [clusters_go s (by omega), clusters_go (s ++ t) (by omega), ← hd]
    obtain ⟨L, la, R, e1, e2, e3⟩ := behind_clus s t s.size (0 + (Utf8.decode s 0).2) (.begin (0 : Nat) 0 (Utf8.decode s 0).1) (s ++ t).size m hmm (by omega) (by omega) (by omega) (by omega)
    rw [e1, e2]
    have hR : 0 < R.length := List.length_pos_iff.2 e3
    refine ⟨by simp; omega, fun i hi => ?_⟩
    simp at hi
    rw [List.getElem?_append_left (by omega), List.getElem?_append_left (by omega)]
end Go.Proofs.YtgjkholmoamblaaDoor
