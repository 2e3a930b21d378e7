/- The clusters of a front that ends at a cluster's end, and of the rest, are together the clusters of all. -/
import Derived.Lib.RuneCountTail
import Derived.Lib.DecodeN
import Derived.Test.YtbehlaclffjkbaaDoorCellM3
namespace Go.Proofs.YtbehlaclffjkbaaDoor

theorem get_front (s : ByteArray) (E i : Nat) (hi : i < E) : (s.extract 0 E).get! i = s.get! i := by
  rw [← Lib.getD_get!', ← Lib.getD_get!', Lib.extract_data]
  simp [hi]
theorem decode_rest (s : ByteArray) (E p : Nat) : Utf8.decode (s.extract E s.size) p = Utf8.decode s (E + p) := Lib.tail_decode s E p
theorem ite_iffC {α : Type} {p q : Prop} [Decidable p] [Decidable q] (h : p ↔ q) (a b : α) : (if p then a else b) = if q then a else b := by
  by_cases hp : p
  · rw [if_pos hp, if_pos (h.1 hp)]
  · rw [if_neg hp, if_neg (fun e => hp (h.2 e))]
theorem cutN (n m b0 b1 b2 b3 c1 c2 c3 : Nat) (hm : 1 ≤ m) (hmn : m ≤ n) (e1 : 1 < m → c1 = b1) (e2 : 2 < m → c2 = b2) (e3 : 3 < m → c3 = b3) (hw : (Lib.decodeN n b0 b1 b2 b3).2 ≤ m) :
    Lib.decodeN m b0 c1 c2 c3 = Lib.decodeN n b0 b1 b2 b3 := by
  unfold Lib.decodeN at hw ⊢
  by_cases h0 : b0 < 128
  · simp [h0]
  · simp only [if_neg h0] at hw ⊢
    by_cases a2 : b0 / 32 = 6
    · have n3 : ¬ b0 / 16 = 14 := by omega
      have n4 : ¬ b0 / 8 = 30 := by omega
      simp only [a2, n3, n4, true_and, false_and, if_false] at hw ⊢
      by_cases h1 : 1 < m
      · rw [e1 h1, ite_iffC (show (1 < m ∧ b1 / 64 = 2) ↔ (1 < n ∧ b1 / 64 = 2) by omega)]
      · rw [if_neg (by omega)]
        split at hw
        · split at hw
          · simp at hw; omega
          · rename_i q1 q2
            rw [if_pos q1, if_neg q2]
        · rename_i q1
          rw [if_neg q1]
    · simp only [a2, false_and, if_false] at hw ⊢
      by_cases a3 : b0 / 16 = 14
      · have n4 : ¬ b0 / 8 = 30 := by omega
        simp only [a3, n4, true_and, false_and, if_false] at hw ⊢
        by_cases h1 : 2 < m
        · rw [e1 (by omega), e2 h1, ite_iffC (show ((1 < m ∧ b1 / 64 = 2) ∧ 2 < m ∧ b2 / 64 = 2) ↔ ((1 < n ∧ b1 / 64 = 2) ∧ 2 < n ∧ b2 / 64 = 2) by omega)]
        · rw [if_neg (by omega)]
          split at hw
          · split at hw
            · simp at hw; omega
            · rename_i q1 q2
              rw [if_pos q1, if_neg q2]
          · rename_i q1
            rw [if_neg q1]
      · simp only [a3, false_and, if_false] at hw ⊢
        by_cases a4 : b0 / 8 = 30
        · simp only [a4, true_and] at hw ⊢
          by_cases h1 : 3 < m
          · rw [e1 (by omega), e2 (by omega), e3 h1, ite_iffC (show ((1 < m ∧ b1 / 64 = 2) ∧ (2 < m ∧ b2 / 64 = 2) ∧ 3 < m ∧ b3 / 64 = 2) ↔ ((1 < n ∧ b1 / 64 = 2) ∧ (2 < n ∧ b2 / 64 = 2) ∧ 3 < n ∧ b3 / 64 = 2) by omega)]
          · rw [if_neg (by omega)]
            split at hw
            · split at hw
              · simp at hw; omega
              · rename_i q1 q2
                rw [if_pos q1, if_neg q2]
            · rename_i q1
              rw [if_neg q1]
        · simp only [a4, false_and, if_false]
theorem decode_front (s : ByteArray) (E p : Nat) (hE : E ≤ s.size) (hp : p < E) (hw : p + (Utf8.decode s p).2 ≤ E) : Utf8.decode (s.extract 0 E) p = Utf8.decode s p := by
  have hz : (s.extract 0 E).size = E := by rw [ByteArray.size_extract]; omega
  rw [Lib.decode_at] at hw
  rw [Lib.decode_at, Lib.decode_at, hz, get_front s E p hp]
  refine cutN _ _ _ _ _ _ _ _ _ (by omega) (by omega) (fun h => ?_) (fun h => ?_) (fun h => ?_) (by omega)
  · rw [get_front s E _ (by omega)]
  · rw [get_front s E _ (by omega)]
  · rw [get_front s E _ (by omega)]

/-- The first cluster that is told reaches from where it grows at least to where one looks. -/
theorem clusF_first (s : ByteArray) : ∀ (b pos : Nat) (g : Gr) (c : Cl) (r : List Cl), 0 < pos → pos ≤ s.size → clusF s b pos g = c :: r → c.loc = g.loc ∧ (pos : Int) ≤ g.loc + c.len
  | 0, pos, g, c, r, _, _, h => by simp [clusF] at h
  | b + 1, pos, g, c, r, h0, h2, h => by
    unfold clusF at h
    by_cases hp : pos < s.size
    · have hd := decode_fit s pos hp
      rw [if_pos hp, if_pos h0] at h
      split at h
      · have ih := clusF_first s b _ _ c r (by omega) (by omega) h
        simp only [Gr.add] at ih
        omega
      · simp only [List.cons.injEq] at h
        rw [← h.1]
        exact ⟨rfl, by show (pos : Int) ≤ g.loc + ((pos : Int) - g.loc); omega⟩
    · rw [if_neg hp, if_neg (by omega)] at h
      simp only [List.cons.injEq] at h
      rw [← h.1]
      exact ⟨rfl, by show (pos : Int) ≤ g.loc + ((s.size : Int) - g.loc); omega⟩
/-- A front that ends at a cluster's end has the clusters up to there; and what is told behind it begins there. -/
theorem front_clus (s : ByteArray) (E : Nat) (hE : E ≤ s.size) : ∀ (b pos : Nat) (g : Gr) (pre r : List Cl) (b' : Nat), 0 < pos → pos ≤ E → s.size + 1 ≤ pos + b → E + 1 ≤ pos + b' → g.fr < g.to → g.to - g.fr ≤ (pos : Int) - g.loc → (pos : Int) - g.loc ≤ 4 * (g.to - g.fr) → 0 ≤ g.cells → g.cells ≤ 2 →
    clusF s b pos g = pre ++ r → pre ≠ [] → g.loc + lensOf pre = E →
    clusF (s.extract 0 E) b' pos g = pre ∧ (E < s.size → ∃ c, s.size ≤ E + (Utf8.decode s E).2 + c ∧ r = clusF s (c + 1) (E + (Utf8.decode s E).2) (.begin E (lastTo pre g.fr) (Utf8.decode s E).1))
  | 0, pos, g, pre, r, b', h0, h1, h2, _, _, _, _, _, _, _, _, _ => by omega
  | b + 1, pos, g, pre, r, 0, h0, h1, h2, h3, _, _, _, _, _, _, _, _ => by omega
  | b + 1, pos, g, pre, r, b' + 1, h0, h1, h2, h3, k1, k2, k3, k4, k5, h4, h5, h6 => by
    have hz : (s.extract 0 E).size = E := by rw [ByteArray.size_extract]; omega
    obtain ⟨c, pre', rfl⟩ : ∃ c pre', pre = c :: pre' := by cases pre with
      | nil => exact absurd rfl h5
      | cons c p => exact ⟨c, p, rfl⟩
    have el : lensOf (c :: pre') = c.len + lensOf pre' := rfl
    have hch := clusF_chain s (b + 1) pos g h0 (by omega) (by omega) k1 k2 k3 k4 k5
    rw [h4] at hch
    have hch1 := (chain_append _ _ _ _ hch.1).1
    have hl' : 0 ≤ lensOf pre' := by have := chain_len _ _ _ hch1.2; omega
    have hc1 := hch1.1.2.1
    by_cases hp : pos < s.size
    · have hd := decode_fit s pos hp
      have hw := Lib.decode_width_pos s pos hp
      have hwd := widthI_bd (Utf8.decode s pos).1
      have h4' := h4
      unfold clusF at h4'
      rw [if_pos hp, if_pos h0] at h4'
      cases ht : g.takes (Utf8.decode s pos).1
      · rw [ht, if_neg (by simp)] at h4'
        simp only [List.cons_append, List.cons.injEq] at h4'
        obtain ⟨hc, hr⟩ := h4'
        have ec : g.loc + c.len = pos := by rw [← hc]; simp only [Gr.upTo]; omega
        have et : c.to = g.to := by rw [← hc]; rfl
        by_cases hpE : pos < E
        · have hne : pre' ≠ [] := by
            intro e
            have : lensOf pre' = 0 := by rw [e]; rfl
            omega
          obtain ⟨d, q, hq⟩ : ∃ d q, pre' = d :: q := by cases hx : pre' with
            | nil => exact absurd hx hne
            | cons d q => exact ⟨d, q, rfl⟩
          have hfirst := clusF_first s b (pos + (Utf8.decode s pos).2) (.begin pos g.to (Utf8.decode s pos).1) d (q ++ r) (by omega) (by omega) (by rw [hr, hq]; rfl)
          simp only [Gr.begin] at hfirst
          have hdl : d.len ≤ lensOf pre' := by
            have e2 : lensOf (d :: q) = d.len + lensOf q := rfl
            have hc2 := hch1.2
            rw [hq] at hc2
            have := chain_len _ _ _ hc2.2
            rw [hq, e2]
            omega
          have hfit : pos + (Utf8.decode s pos).2 ≤ E := by omega
          obtain ⟨i1, i2⟩ := front_clus s E hE b (pos + (Utf8.decode s pos).2) (.begin pos g.to (Utf8.decode s pos).1) pre' r b' (by omega) hfit (by omega) (by omega) (by simp only [Gr.begin]; omega) (by simp only [Gr.begin]; omega) (by simp only [Gr.begin]; omega) hwd.1 hwd.2 hr hne (by simp only [Gr.begin]; omega)
          refine ⟨?_, ?_⟩
          · unfold clusF
            rw [hz, if_pos hpE, if_pos h0, decode_front s E pos hE hpE hfit, ht, if_neg (by simp), i1, hc]
          · intro hEs
            obtain ⟨x, x1, x2⟩ := i2 hEs
            refine ⟨x, x1, ?_⟩
            rw [x2]
            simp only [lastTo, Gr.begin]
            have e3 : lastTo pre' g.to = lastTo pre' c.to := by rw [et]
            rw [e3]
        · obtain rfl : pos = E := by omega
          have hp0 : pre' = [] := by
            have := chain_len _ _ _ hch1.2
            exact List.length_eq_zero_iff.1 (by omega)
          subst hp0
          refine ⟨?_, fun _ => ⟨b - 1, by omega, ?_⟩⟩
          · unfold clusF
            rw [hz, if_neg (by omega), if_neg (by omega), ← hc]
          · rw [show b - 1 + 1 = b by omega]
            simp only [lastTo]
            rw [et, hr]
            rfl
      · rw [ht, if_pos rfl] at h4'
        have hfirst := clusF_first s b _ _ c (pre' ++ r) (by omega) (by omega) h4'
        simp only [Gr.add] at hfirst
        have hfit : pos + (Utf8.decode s pos).2 ≤ E := by omega
        have hpE : pos < E := by omega
        obtain ⟨i1, i2⟩ := front_clus s E hE b (pos + (Utf8.decode s pos).2) (g.add (Utf8.decode s pos).1) (c :: pre') r b' (by omega) hfit (by omega) (by omega) (by simp only [Gr.add]; omega) (by simp only [Gr.add]; omega) (by simp only [Gr.add]; omega) (by simp only [Gr.add]; split <;> omega) (by simp only [Gr.add]; split <;> omega) h4' (by simp) (by simp only [Gr.add]; omega)
        refine ⟨?_, i2⟩
        unfold clusF
        rw [hz, if_pos hpE, if_pos h0, decode_front s E pos hE hpE hfit, ht, if_pos rfl, i1]
    · have h4' := h4
      unfold clusF at h4'
      rw [if_neg hp, if_neg (by omega)] at h4'
      simp only [List.cons_append, List.cons.injEq] at h4'
      have hpp : pre' = [] ∧ r = [] := by
        have := h4'.2.symm
        simpa using this
      obtain rfl : pos = E := by omega
      refine ⟨?_, fun h => by omega⟩
      unfold clusF
      rw [hz, if_neg (by omega), if_neg (by omega), hpp.1, ← h4'.1]
      congr 2
      omega

theorem clusF_fuel (s : ByteArray) : ∀ (b c pos : Nat) (g : Gr), s.size + 1 ≤ pos + b → s.size + 1 ≤ pos + c → pos ≤ s.size → clusF s b pos g = clusF s c pos g
  | 0, c, pos, g, h, _, h2 => by omega
  | b + 1, 0, pos, g, _, h, h2 => by omega
  | b + 1, c + 1, pos, g, h1, h2, h3 => by
    unfold clusF
    by_cases hp : pos < s.size
    · have hd := decode_fit s pos hp
      have hw := Lib.decode_width_pos s pos hp
      rw [if_pos hp, if_pos hp, clusF_fuel s b c _ (g.add (Utf8.decode s pos).1) (by omega) (by omega) (by omega), clusF_fuel s b c _ (.begin pos g.to (Utf8.decode s pos).1) (by omega) (by omega) (by omega)]
    · rw [if_neg hp, if_neg hp]
def Gr.back (E F : Int) (g : Gr) : Gr := { g with loc := g.loc - E, fr := g.fr - F, to := g.to - F }
def Cl.back (E F : Int) (c : Cl) : Cl := { c with loc := c.loc - E, fr := c.fr - F, to := c.to - F }
theorem back_takes (E F : Int) (g : Gr) (r : Int) : (g.back E F).takes r = g.takes r := by
  unfold Gr.takes Gr.back
  simp only
  rw [show g.to - F - (g.fr - F) = g.to - g.fr by omega]
theorem back_add (E F : Int) (g : Gr) (r : Int) : (g.back E F).add r = (g.add r).back E F := by
  unfold Gr.add Gr.back
  simp only
  rw [show g.to - F + 1 = g.to + 1 - F by omega]
theorem back_begin (E : Nat) (F : Int) (p : Nat) (x r : Int) : Gr.begin p (x - F) r = (Gr.begin ((E + p : Nat) : Int) x r).back E F := by
  unfold Gr.begin Gr.back
  simp only
  rw [show x - F + 1 = x + 1 - F by omega, show (((E + p : Nat) : Int) - (E : Int)) = p by omega]
theorem back_upTo (E : Nat) (F : Int) (p : Nat) (g : Gr) : (g.back E F).upTo p = (g.upTo ((E + p : Nat) : Int)).back E F := by
  unfold Gr.upTo Gr.back Cl.back
  simp only
  rw [show (p : Int) - (g.loc - E) = ((E + p : Nat) : Int) - g.loc by omega]
theorem rest_clus (s : ByteArray) (E : Nat) (F : Int) (hE : E < s.size) : ∀ (b p : Nat) (g : Gr), 0 < p → clusF (s.extract E s.size) b p (g.back E F) = (clusF s b (E + p) g).map (Cl.back E F)
  | 0, p, g, _ => rfl
  | b + 1, p, g, h0 => by
    have hz : (s.extract E s.size).size = s.size - E := by rw [ByteArray.size_extract]; omega
    unfold clusF
    rw [decode_rest, hz]
    by_cases hp : E + p < s.size
    · rw [if_pos (show p < s.size - E by omega), if_pos h0, if_pos hp, if_pos (show 0 < E + p by omega), back_takes, back_add]
      have e1 := rest_clus s E F hE b (p + (Utf8.decode s (E + p)).2) (g.add (Utf8.decode s (E + p)).1) (by omega)
      have e2 := rest_clus s E F hE b (p + (Utf8.decode s (E + p)).2) (.begin ((E + p : Nat) : Int) g.to (Utf8.decode s (E + p)).1) (by omega)
      rw [← back_begin] at e2
      rw [← Nat.add_assoc] at e1 e2
      cases ht : g.takes (Utf8.decode s (E + p)).1
      · rw [if_neg (by simp), if_neg (by simp), List.map_cons, ← back_upTo, ← e2]
        rfl
      · rw [if_pos rfl, if_pos rfl, e1]
    · rw [if_neg (show ¬ p < s.size - E by omega), if_neg hp, if_neg (show ¬ s.size - E = 0 by omega), if_neg (show ¬ s.size = 0 by omega), List.map_cons, List.map_nil, back_upTo, show E + (s.size - E) = s.size by omega]
theorem extract_all (s : ByteArray) : s.extract 0 s.size = s := by
  rw [Lib.extract_eq]
  have h1 : List.take (s.size - 0) (List.drop 0 s.data.toList) = s.data.toList := by
    rw [List.drop_zero, Nat.sub_zero]
    exact List.take_of_length_le (by rw [← Lib.size_eq]; exact Nat.le_refl _)
  rw [h1]
theorem lensOf_append (l r : List Cl) : lensOf (l ++ r) = lensOf l + lensOf r := by
  induction l with
  | nil => simp [lensOf]
  | cons d t ih => simp only [lensOf, List.cons_append, List.foldr_cons] at *; omega
theorem clusters_zero (s : ByteArray) (h : s.size = 0) : clusters s = [] := by unfold clusters clusF; simp [h]
theorem clusters_go (s : ByteArray) (h : 0 < s.size) : clusters s = clusF s s.size (0 + (Utf8.decode s 0).2) (.begin (0 : Nat) 0 (Utf8.decode s 0).1) := by
  unfold clusters
  rw [clusF, if_pos h, if_neg (by omega)]
  rfl
theorem back_zero (c : Cl) : c.back 0 0 = c := by unfold Cl.back; simp
/-- The clusters of a front that ends at a cluster's end, and of the rest. -/
theorem parts (s : ByteArray) (pre r : List Cl) (E : Nat) (h : pre ++ r = clusters s) (hE : lensOf pre = E) :
    clusters (s.extract 0 E) = pre ∧ clusters (s.extract E s.size) = r.map (Cl.back E (lastTo pre 0)) := by
  obtain ⟨l1, l2, l3, l4⟩ := lens_le h
  have hch := (clusters_chain s).1
  have hEs : E ≤ s.size := by omega
  have hzf : (s.extract 0 E).size = E := by rw [ByteArray.size_extract]; omega
  have hzr : (s.extract E s.size).size = s.size - E := by rw [ByteArray.size_extract]; omega
  cases pre with
  | nil =>
    have e0 : E = 0 := by simp [lensOf] at hE; omega
    subst e0
    refine ⟨clusters_zero _ (by rw [hzf]), ?_⟩
    rw [extract_all, ← h]
    simp only [List.nil_append, lastTo]
    have : (Cl.back ((0 : Nat) : Int) 0) = id := by funext c; exact back_zero c
    rw [this, List.map_id]
  | cons c pre' =>
    have hs0 : 0 < s.size := by
      refine Nat.pos_of_ne_zero fun e => ?_
      rw [clusters_zero s e] at h
      simp at h
    have hd := decode_fit s 0 hs0
    have hw := Lib.decode_width_pos s 0 hs0
    have hwd := widthI_bd (Utf8.decode s 0).1
    have hgo := clusters_go s hs0
    rw [← h] at hgo hch
    have hfirst := clusF_first s s.size _ _ c (pre' ++ r) (by omega) (by omega) hgo.symm
    have hc2 := (chain_append _ _ _ _ hch).1
    have hl2 := chain_len _ _ _ hc2.2
    have el : lensOf (c :: pre') = c.len + lensOf pre' := rfl
    simp only [Gr.begin] at hfirst
    have hfit : 0 + (Utf8.decode s 0).2 ≤ E := by omega
    have hE0 : 0 < E := by omega
    obtain ⟨f1, f2⟩ := front_clus s E hEs s.size (0 + (Utf8.decode s 0).2) (.begin (0 : Nat) 0 (Utf8.decode s 0).1) (c :: pre') r E (by omega) hfit (by omega) (by omega) (by simp only [Gr.begin]; omega) (by simp only [Gr.begin]; omega) (by simp only [Gr.begin]; omega) hwd.1 hwd.2 hgo.symm (by simp) (by simp only [Gr.begin]; omega)
    refine ⟨?_, ?_⟩
    · rw [clusters_go _ (by rw [hzf]; exact hE0), decode_front s E 0 hEs hE0 hfit, hzf]
      exact f1
    · by_cases hlt : E < s.size
      · obtain ⟨k, k1, k2⟩ := f2 hlt
        have hd2 := decode_fit s E hlt
        have hw2 := Lib.decode_width_pos s E hlt
        rw [clusters_go _ (by rw [hzr]; omega), decode_rest, hzr, Nat.add_zero, k2]
        have e1 : Gr.begin ((0 : Nat) : Int) 0 (Utf8.decode s E).1 = (Gr.begin ((E + 0 : Nat) : Int) (lastTo (c :: pre') 0) (Utf8.decode s E).1).back E (lastTo (c :: pre') 0) := by
          rw [← back_begin, Int.sub_self]
        rw [e1, rest_clus s E _ hlt _ _ _ (by omega)]
        congr 1
        simp only [Nat.add_zero, Nat.zero_add]
        exact clusF_fuel s _ _ _ _ (by omega) (by omega) (by omega)
      · have hr : r = [] := by
          have h2 := (clusters_chain s).2.1
          rw [← h] at h2
          have h3 := (chain_append _ _ _ _ hch).2
          have h4 := chain_len _ _ _ h3
          have h5 := lensOf_append (c :: pre') r
          exact List.length_eq_zero_iff.1 (by omega)
        rw [hr, clusters_zero _ (by rw [hzr]; omega)]
        rfl
theorem cellsOf_back (E F : Int) (l : List Cl) : cellsOf (l.map (Cl.back E F)) = cellsOf l := by
  induction l with
  | nil => rfl
  | cons c r ih =>
    simp only [cellsOf, List.map_cons, List.foldr_cons] at *
    rw [ih]
    rfl

end Go.Proofs.YtbehlaclffjkbaaDoor
