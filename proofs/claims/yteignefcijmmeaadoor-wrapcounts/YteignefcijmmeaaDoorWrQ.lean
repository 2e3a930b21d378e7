/- Where clusters begin, as a text is gone through sign by sign: mathematics for wrap.classify. -/
import Derived.Test.YteignefcijmmeaaDoorCellM3
namespace Go.Proofs.YteignefcijmmeaaDoor
open Go.RowKit

theorem clus_head (s : ByteArray) : ∀ (b pos : Nat) (g : Gr), 0 < pos → s.size + 1 ≤ pos + b → pos ≤ s.size → ∃ c l, clusF s b pos g = c :: l ∧ c.loc = g.loc
  | 0, pos, g, h0, hb, hp => by omega
  | b + 1, pos, g, h0, hb, hp => by
    unfold clusF
    by_cases h : pos < s.size
    · have k := decode_fit s pos h
      have k2 := Lib.decode_width_pos s pos h
      rw [if_pos h, if_pos h0]
      split
      · obtain ⟨c, l, e1, e2⟩ := clus_head s b (pos + (Utf8.decode s pos).2) (g.add (Utf8.decode s pos).1) (by omega) (by omega) (by omega)
        exact ⟨c, l, e1, e2⟩
      · exact ⟨_, _, rfl, rfl⟩
    · rw [if_neg h, if_neg (by omega)]
      exact ⟨_, _, rfl, rfl⟩
theorem clus_tail_ge (s : ByteArray) : ∀ (b pos : Nat) (g : Gr), 0 < pos → s.size + 1 ≤ pos + b → pos ≤ s.size → ∀ c ∈ (clusF s b pos g).tail, (pos : Int) ≤ c.loc
  | 0, pos, g, h0, hb, hp => by omega
  | b + 1, pos, g, h0, hb, hp => by
    intro c hc
    unfold clusF at hc
    by_cases h : pos < s.size
    · have k := decode_fit s pos h
      have k2 := Lib.decode_width_pos s pos h
      rw [if_pos h, if_pos h0] at hc
      split at hc
      · have := clus_tail_ge s b (pos + (Utf8.decode s pos).2) (g.add (Utf8.decode s pos).1) (by omega) (by omega) (by omega) c hc
        omega
      · obtain ⟨d, l, e1, e2⟩ := clus_head s b (pos + (Utf8.decode s pos).2) (.begin pos g.to (Utf8.decode s pos).1) (by omega) (by omega) (by omega)
        have t := clus_tail_ge s b (pos + (Utf8.decode s pos).2) (.begin pos g.to (Utf8.decode s pos).1) (by omega) (by omega) (by omega)
        rw [List.tail_cons, e1] at hc
        rw [e1] at t
        rcases List.mem_cons.1 hc with rfl | hc
        · rw [e2]
          exact Int.le_refl _
        · have := t c hc
          omega
    · rw [if_neg h, if_neg (by omega)] at hc
      simp at hc
/-- One sign on: it is taken by the cluster that grows, or begins the next one. -/
theorem clus_take (s : ByteArray) (b pos : Nat) (g : Gr) (h0 : 0 < pos) (hb : s.size + 1 ≤ pos + (b + 1)) (h : pos < s.size) (ht : g.takes (Utf8.decode s pos).1 = true) :
    (clusF s (b + 1) pos g).tail = (clusF s b (pos + (Utf8.decode s pos).2) (g.add (Utf8.decode s pos).1)).tail ∧ ∀ c ∈ (clusF s (b + 1) pos g).tail, (pos : Int) < c.loc := by
  have k := decode_fit s pos h
  have k2 := Lib.decode_width_pos s pos h
  have e : clusF s (b + 1) pos g = clusF s b (pos + (Utf8.decode s pos).2) (g.add (Utf8.decode s pos).1) := by
    conv => lhs; unfold clusF
    rw [if_pos h, if_pos h0, if_pos ht]
  rw [e]
  refine ⟨rfl, fun c hc => ?_⟩
  have := clus_tail_ge s b (pos + (Utf8.decode s pos).2) (g.add (Utf8.decode s pos).1) (by omega) (by omega) (by omega) c hc
  omega
theorem clus_next (s : ByteArray) (b pos : Nat) (g : Gr) (h0 : 0 < pos) (hb : s.size + 1 ≤ pos + (b + 1)) (h : pos < s.size) (ht : ¬ g.takes (Utf8.decode s pos).1 = true) :
    ∃ c, (clusF s (b + 1) pos g).tail = c :: (clusF s b (pos + (Utf8.decode s pos).2) (.begin pos g.to (Utf8.decode s pos).1)).tail ∧ c.loc = (pos : Int) := by
  have k := decode_fit s pos h
  have k2 := Lib.decode_width_pos s pos h
  have e : clusF s (b + 1) pos g = g.upTo pos :: clusF s b (pos + (Utf8.decode s pos).2) (.begin pos g.to (Utf8.decode s pos).1) := by
    conv => lhs; unfold clusF
    rw [if_pos h, if_pos h0, if_neg ht]
  obtain ⟨c, l, e1, e2⟩ := clus_head s b (pos + (Utf8.decode s pos).2) (.begin pos g.to (Utf8.decode s pos).1) (by omega) (by omega) (by omega)
  rw [e, List.tail_cons, e1]
  exact ⟨c, rfl, e2⟩
theorem clus_first (s : ByteArray) (h : 0 < s.size) : ∃ c, clusters s = c :: (clusF s s.size (0 + (Utf8.decode s 0).2) (.begin (0 : Nat) 0 (Utf8.decode s 0).1)).tail ∧ c.loc = 0 := by
  have k := decode_fit s 0 h
  have k2 := Lib.decode_width_pos s 0 h
  have e : clusters s = clusF s s.size (0 + (Utf8.decode s 0).2) (.begin (0 : Nat) 0 (Utf8.decode s 0).1) := by
    unfold clusters
    rw [clusF, if_pos h, if_neg (by omega)]
    rfl
  obtain ⟨c, l, e1, e2⟩ := clus_head s s.size (0 + (Utf8.decode s 0).2) (.begin (0 : Nat) 0 (Utf8.decode s 0).1) (by omega) (by omega) (by omega)
  rw [e, e1]
  exact ⟨c, rfl, e2⟩
theorem clus_end (s : ByteArray) (b pos : Nat) (g : Gr) (h : ¬ pos < s.size) : (clusF s b pos g).tail = [] := by
  cases b with
  | zero => rfl
  | succ b =>
    unfold clusF
    rw [if_neg h]
    split <;> rfl
end Go.Proofs.YteignefcijmmeaaDoor
