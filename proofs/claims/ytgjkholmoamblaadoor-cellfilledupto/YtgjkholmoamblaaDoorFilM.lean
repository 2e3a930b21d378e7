/- Blanks ahead of a text and behind it: each has one cell, and the cells of the text stay. -/
import Derived.Test.YtgjkholmoamblaaDoorBehM
import Derived.Test.YtgjkholmoamblaaDoorCFirM
import Derived.Test.YtgjkholmoamblaaDoorPadW
namespace Go.Proofs.YtgjkholmoamblaaDoor

theorem decode_blank (u : ByteArray) (p : Nat) (h : (u.get! p).toNat = 32) : Utf8.decode u p = (32, 1) := by
  unfold Utf8.decode
  dsimp only
  have h' : (u.get! (p + 0)).toNat = 32 := h
  rw [if_pos (by show (u.get! (p + 0)).toNat < 128; omega)]
  exact Prod.ext h' rfl
theorem takes_blank (g : Gr) : g.takes 32 = false := by
  unfold Gr.takes
  rw [if_neg (by decide), if_neg (by decide)]
  rfl
theorem cellsOf_cons (c : Cl) (l : List Cl) : cellsOf (c :: l) = c.cells + cellsOf l := rfl
theorem cellsOf_nil : cellsOf [] = 0 := rfl
/-- From the end of a text on, blanks alone: one cell each. -/
theorem blanks_behind (u : ByteArray) (n : Nat) : ∀ (b j : Nat) (g : Gr) (e : Nat), 0 < e → e + n = u.size → j ≤ n → u.size + 1 ≤ e + j + b → (∀ k, e ≤ k → k < u.size → (u.get! k).toNat = 32) → cellsOf (clusF u b (e + j) g) = g.cells + ((n - j : Nat) : Int)
  | 0, j, g, e, h0, h1, h2, h3, h4 => by omega
  | b + 1, j, g, e, h0, h1, h2, h3, h4 => by
    unfold clusF
    by_cases hj : j < n
    · rw [if_pos (by omega), if_pos (by omega), decode_blank u (e + j) (h4 _ (by omega) (by omega))]
      rw [if_neg (by rw [show ((32 : Nat) : Int) = 32 from rfl, takes_blank]; simp), cellsOf_cons]
      have := blanks_behind u n b (j + 1) (.begin ((e + j : Nat) : Int) g.to ((32 : Nat) : Int)) e h0 h1 (by omega) (by omega) h4
      rw [show e + j + 1 = e + (j + 1) by omega, this]
      show g.cells + (widthI 32 + _) = _
      rw [show widthI 32 = 1 by decide]
      omega
    · rw [if_neg (by omega), if_neg (by omega), cellsOf_cons, cellsOf_nil]
      show g.cells + 0 = _
      omega

theorem blk_get (n k : Nat) (hk : k < n) : ((blk n).get! k).toNat = 32 := by
  rw [← Lib.getD_get!']
  simp [blk, hk]
/-- Blanks behind: the text's own signs stay. -/
theorem lies_blanks (s : ByteArray) (n : Nat) (h0 : 0 < s.size) : ∃ l, Lies (s ++ blk n) 0 l s.size := by
  have hsz : (s ++ blk n).size = s.size + n := by rw [ByteArray.size_append, blk_size]
  by_cases hn : n = 0
  · subst hn
    rw [blk_zero]
    exact ⟨_, signs_lies s⟩
  · have hg : ((s ++ blk n).get! s.size).toNat = 32 := by
      rw [get_app_r s (blk n) s.size (Nat.le_refl _), Nat.sub_self]
      exact blk_get n 0 (by omega)
    obtain ⟨f, g, _, hf, _⟩ := lies_lead (signs_lies (s ++ blk n)) (q := s.size) (by omega) (by omega) (by omega)
    exact ⟨f, hf⟩
theorem cells_behind (s : ByteArray) (n : Nat) : ∀ (b pos : Nat) (g : Gr) (b' : Nat) (l : List Sg), Lies (s ++ blk n) pos l s.size → 0 < pos → pos ≤ s.size → s.size + 1 ≤ pos + b → (s ++ blk n).size + 1 ≤ pos + b' → cellsOf (clusF (s ++ blk n) b' pos g) = cellsOf (clusF s b pos g) + (n : Int)
  | 0, pos, g, b', l, hl, h0, h1, h2, h3 => by omega
  | b + 1, pos, g, b', l, hl, h0, h1, h2, h3 => by
    have hsz : (s ++ blk n).size = s.size + n := by rw [ByteArray.size_append, blk_size]
    by_cases hp : pos < s.size
    · obtain ⟨hd, m, hm⟩ := agree hl hp
      have hw := Lib.decode_width_pos s pos hp
      have hle := lies_le hm
      rw [← hd] at hm hle
      cases b' with
      | zero => omega
      | succ b' =>
        unfold clusF
        rw [if_pos hp, if_pos h0, if_pos (show pos < (s ++ blk n).size by omega), if_pos h0, ← hd]
        by_cases ht : g.takes (Utf8.decode s pos).1 = true
        · rw [if_pos ht, if_pos ht]
          exact cells_behind s n b _ _ b' m hm (by omega) (by omega) (by omega) (by omega)
        · rw [if_neg ht, if_neg ht, cellsOf_cons, cellsOf_cons, cells_behind s n b _ (.begin pos g.to (Utf8.decode s pos).1) b' m hm (by omega) (by omega) (by omega) (by omega)]
          omega
    · obtain rfl : pos = s.size := by omega
      have h4 := blanks_behind (s ++ blk n) n b' 0 g s.size h0 (by omega) (by omega) (by omega) (fun k k1 k2 => by
        rw [get_app_r s (blk n) k k1]
        exact blk_get n _ (by omega))
      rw [Nat.add_zero, Nat.sub_zero] at h4
      rw [h4]
      unfold clusF
      rw [if_neg hp, if_neg (by omega), cellsOf_cons, cellsOf_nil]
      show g.cells + _ = g.cells + 0 + _
      omega
theorem of_behind (s : ByteArray) (n : Nat) (h0 : 0 < s.size) : ofI (s ++ blk n) = ofI s + n := by
  have hsz : (s ++ blk n).size = s.size + n := by rw [ByteArray.size_append, blk_size]
  obtain ⟨l, hl⟩ := lies_blanks s n h0
  obtain ⟨hd, m, hmm⟩ := agree hl h0
  have hle := lies_le hmm
  have hw := Lib.decode_width_pos s 0 h0
  rw [← hd] at hmm hle
  unfold ofI
  rw [clusters_go s h0, clusters_go (s ++ blk n) (by omega), ← hd]
  exact cells_behind s n s.size _ _ (s ++ blk n).size m hmm (by omega) (by omega) (by omega) (by omega)

theorem flag_all : ((List.range 26).all fun i => decide (widthI (127462 + (i : Int)) ≠ 0)) = true := by kernel_rfl
theorem flag_width {r : Int} (h : flagB r = true) : widthI r ≠ 0 := by
  unfold flagB at h
  simp only [Bool.and_eq_true, decide_eq_true_eq] at h
  have := List.all_eq_true.1 flag_all (r - 127462).toNat (List.mem_range.2 (by omega))
  rw [show (127462 : Int) + ((r - 127462).toNat : Nat) = r by omega] at this
  simpa using this
theorem sym_all : ((List.range 2672).all fun i => decide (widthI (8592 + (i : Int)) ≠ 0)) = true := by kernel_rfl
theorem sym_width {r : Int} (h : symB r = true) : widthI r ≠ 0 := by
  unfold symB at h
  simp only [Bool.and_eq_true, decide_eq_true_eq] at h
  have := List.all_eq_true.1 sym_all (r - 8592).toNat (List.mem_range.2 (by omega))
  rw [show (8592 : Int) + ((r - 8592).toNat : Nat) = r by omega] at this
  simpa using this
/-- Two first signs that take the same. -/
structure AlikeF (a b : Int) : Prop where
  ctl : ctlB a = ctlB b
  wa : widthI a ≠ 2
  wb : widthI b ≠ 2
  fa : flagB a = false
  fb : flagB b = false
  sa : symB a = false
  sb : symB b = false
theorem alike_takes {g1 g2 : Gr} (h : AlikeF g1.first g2.first) (r : Int) : g1.takes r = g2.takes r := by
  unfold Gr.takes
  rw [h.ctl, h.fa, h.fb, beq_eq_false_iff_ne.2 h.wa, beq_eq_false_iff_ne.2 h.wb]
  simp
theorem alike_width {g1 g2 : Gr} (h : AlikeF g1.first g2.first) {r : Int} (ht : g1.takes r = true) : widthI r = 0 := by
  unfold Gr.takes at ht
  rw [h.fa, beq_eq_false_iff_ne.2 h.wa] at ht
  by_cases hw : widthI r = 0
  · exact hw
  · rw [if_neg hw] at ht
    simp at ht
theorem alike_add {g : Gr} {r : Int} (hs : symB g.first = false) (hw : widthI r = 0) : (g.add r).cells = g.cells := by
  have hf : flagB r = false := by
    cases hq : flagB r
    · rfl
    · exact absurd hw (flag_width hq)
  unfold Gr.add
  simp [hf, hs]
theorem shift_cells (u : ByteArray) (E : Nat) (hE : E < u.size) (b1 b2 p q : Nat) (x y r : Int) (hq : 0 < q) (hq2 : E + q ≤ u.size) (h1 : u.size + 1 ≤ E + q + b1) (h2 : u.size + 1 ≤ E + q + b2) : cellsOf (clusF u b1 (E + q) (.begin ((E + p : Nat) : Int) x r)) = cellsOf (clusF (u.extract E u.size) b2 q (.begin p y r)) := by
  have h := rest_clus u E (x - y) hE b2 q (.begin ((E + p : Nat) : Int) x r) hq
  rw [← back_begin, show x - (x - y) = y by omega] at h
  rw [h, cellsOf_back, clusF_fuel u b1 b2 (E + q) _ h1 h2 hq2]
theorem alike_run (u : ByteArray) (E : Nat) (hE : E < u.size) : ∀ (b1 p : Nat) (g1 g2 : Gr) (b2 : Nat), 0 < p → E + p ≤ u.size → u.size + 1 ≤ E + p + b1 → u.size + 1 ≤ E + p + b2 → AlikeF g1.first g2.first → cellsOf (clusF u b1 (E + p) g1) - g1.cells = cellsOf (clusF (u.extract E u.size) b2 p g2) - g2.cells
  | 0, p, g1, g2, b2, h0, h1, h2, h3, ha => by omega
  | b1 + 1, p, g1, g2, b2, h0, h1, h2, h3, ha => by
    have hz : (u.extract E u.size).size = u.size - E := by rw [ByteArray.size_extract]; omega
    cases b2 with
    | zero => omega
    | succ b2 =>
      unfold clusF
      by_cases hp : E + p < u.size
      · have hd := decode_rest u E p
        have hw := Lib.decode_width_pos u (E + p) hp
        have hf := decode_fit u (E + p) hp
        rw [if_pos hp, if_pos (by omega), if_pos (show p < (u.extract E u.size).size by omega), if_pos h0, hd]
        by_cases ht : g1.takes (Utf8.decode u (E + p)).1 = true
        · have ht2 : g2.takes (Utf8.decode u (E + p)).1 = true := by rw [← alike_takes ha]; exact ht
          have hw0 := alike_width ha ht
          rw [if_pos ht, if_pos ht2]
          have := alike_run u E hE b1 (p + (Utf8.decode u (E + p)).2) (g1.add (Utf8.decode u (E + p)).1) (g2.add (Utf8.decode u (E + p)).1) b2 (by omega) (by omega) (by omega) (by omega) ha
          rw [alike_add ha.sa hw0, alike_add ha.sb hw0, ← Nat.add_assoc] at this
          exact this
        · have ht2 : ¬ g2.takes (Utf8.decode u (E + p)).1 = true := by rw [← alike_takes ha]; exact ht
          rw [if_neg ht, if_neg ht2, cellsOf_cons, cellsOf_cons]
          have := shift_cells u E hE b1 b2 p (p + (Utf8.decode u (E + p)).2) g1.to g2.to (Utf8.decode u (E + p)).1 (by omega) (by omega) (by omega) (by omega)
          rw [← Nat.add_assoc] at this
          rw [this]
          show g1.cells + _ - g1.cells = g2.cells + _ - g2.cells
          omega
      · rw [if_neg hp, if_neg (by omega), if_neg (show ¬ p < (u.extract E u.size).size by omega), if_neg (by omega), cellsOf_cons, cellsOf_cons, cellsOf_nil]
        show g1.cells + 0 - g1.cells = g2.cells + 0 - g2.cells
        omega
end Go.Proofs.YtgjkholmoamblaaDoor
