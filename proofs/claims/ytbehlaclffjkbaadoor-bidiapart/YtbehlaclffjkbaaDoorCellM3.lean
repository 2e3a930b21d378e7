/- Clusters lie one behind the other over all bytes and signs. -/
import Derived.Test.YtbehlaclffjkbaaDoorCellM2
import Derived.Test.YtbehlaclffjkbaaDoorCellW4
namespace Go.Proofs.YtbehlaclffjkbaaDoor

/-- How many signs a text has from a place on. -/
def cntF (s : ByteArray) : Nat → Nat → Nat
  | 0, _ => 0
  | b + 1, pos => if pos < s.size then cntF s b (pos + (Utf8.decode s pos).2) + 1 else 0
def cnt (s : ByteArray) : Nat := cntF s s.size 0
theorem cntF_end (s : ByteArray) (b pos : Nat) (h : ¬ pos < s.size) : cntF s b pos = 0 := by cases b <;> simp [cntF, h]
theorem cntF_le (s : ByteArray) : ∀ b pos, pos + cntF s b pos ≤ max pos s.size
  | 0, pos => by simp [cntF]; omega
  | b + 1, pos => by
    unfold cntF
    split
    · rename_i h
      have := cntF_le s b (pos + (Utf8.decode s pos).2)
      have := decode_fit s pos h
      have := Lib.decode_width_pos s pos h
      omega
    · omega
theorem cntF_fuel (s : ByteArray) : ∀ b c pos, s.size ≤ pos + b → s.size ≤ pos + c → cntF s b pos = cntF s c pos
  | 0, c, pos, h, _ => by rw [cntF_end s c pos (by omega)]; rfl
  | b + 1, 0, pos, _, h => by rw [cntF_end s (b + 1) pos (by omega)]; rfl
  | b + 1, c + 1, pos, h1, h2 => by
    unfold cntF
    split
    · rename_i h
      have := Lib.decode_width_pos s pos h
      rw [cntF_fuel s b c _ (by omega) (by omega)]
    · rfl

/-- One behind the other from a place, a sign on. -/
def Chain : List Cl → Int → Int → Prop
  | [], _, _ => True
  | c :: r, loc, sign => (c.loc = loc ∧ 1 ≤ c.len ∧ c.fr = sign ∧ c.fr < c.to ∧ 0 ≤ c.cells ∧ c.cells ≤ 2 ∧ c.to - c.fr ≤ c.len ∧ c.len ≤ 4 * (c.to - c.fr)) ∧ Chain r (loc + c.len) c.to
def lensOf (l : List Cl) : Int := l.foldr (fun c n => c.len + n) 0
/-- The sign behind the last one. -/
def lastTo : List Cl → Int → Int
  | [], sign => sign
  | c :: r, _ => lastTo r c.to

theorem clusF_chain (s : ByteArray) : ∀ (b pos : Nat) (g : Gr), 0 < pos → s.size + 1 ≤ pos + b → pos ≤ s.size → g.fr < g.to → g.to - g.fr ≤ (pos : Int) - g.loc → (pos : Int) - g.loc ≤ 4 * (g.to - g.fr) → 0 ≤ g.cells → g.cells ≤ 2 →
    Chain (clusF s b pos g) g.loc g.fr ∧ g.loc + lensOf (clusF s b pos g) = s.size ∧ lastTo (clusF s b pos g) g.fr = g.to + cntF s b pos ∧ clusF s b pos g ≠ []
  | 0, pos, g, h0, h1, h2, _, _, _, _, _ => by omega
  | b + 1, pos, g, h0, h1, h2, h3, h4, h5, h6, h7 => by
    by_cases hp : pos < s.size
    · have hd := decode_fit s pos hp
      have hw := Lib.decode_width_pos s pos hp
      have hwd := widthI_bd (Utf8.decode s pos).1
      unfold clusF cntF
      rw [if_pos hp, if_pos h0, if_pos hp]
      cases ht : g.takes (Utf8.decode s pos).1
      · rw [if_neg (by simp)]
        have ih := clusF_chain s b (pos + (Utf8.decode s pos).2) (.begin pos g.to (Utf8.decode s pos).1) (by omega) (by omega) (by omega) (by simp only [Gr.begin]; omega) (by simp only [Gr.begin]; omega) (by simp only [Gr.begin]; omega) hwd.1 hwd.2
        obtain ⟨i1, i2, i3, i4⟩ := ih
        refine ⟨⟨⟨rfl, ?_, rfl, ?_, ?_, ?_, ?_, ?_⟩, ?_⟩, ?_, ?_, by simp⟩
        · simp only [Gr.upTo]; omega
        · simp only [Gr.upTo]; omega
        · simp only [Gr.upTo]; omega
        · simp only [Gr.upTo]; omega
        · simp only [Gr.upTo]; omega
        · simp only [Gr.upTo]; omega
        · have e : g.loc + (g.upTo (pos : Nat)).len = pos := by simp only [Gr.upTo]; omega
          rw [e]
          exact i1
        · have i2' : (pos : Int) + lensOf (clusF s b (pos + (Utf8.decode s pos).2) (.begin pos g.to (Utf8.decode s pos).1)) = s.size := i2
          show g.loc + (((pos : Int) - g.loc) + lensOf (clusF s b (pos + (Utf8.decode s pos).2) (.begin pos g.to (Utf8.decode s pos).1))) = s.size
          omega
        · simp only [lastTo, Gr.upTo]
          have e2 : lastTo (clusF s b (pos + (Utf8.decode s pos).2) (.begin pos g.to (Utf8.decode s pos).1)) g.to = lastTo (clusF s b (pos + (Utf8.decode s pos).2) (.begin pos g.to (Utf8.decode s pos).1)) (Gr.begin pos g.to (Utf8.decode s pos).1).fr := rfl
          rw [e2, i3]
          simp only [Gr.begin]
          omega
      · rw [if_pos rfl]
        have ih := clusF_chain s b (pos + (Utf8.decode s pos).2) (g.add (Utf8.decode s pos).1) (by omega) (by omega) (by omega) (by simp only [Gr.add]; omega) (by simp only [Gr.add]; omega) (by simp only [Gr.add]; omega) (by simp only [Gr.add]; split <;> omega) (by simp only [Gr.add]; split <;> omega)
        obtain ⟨i1, i2, i3, i4⟩ := ih
        refine ⟨i1, i2, ?_, i4⟩
        have e : lastTo (clusF s b (pos + (Utf8.decode s pos).2) (g.add (Utf8.decode s pos).1)) g.fr = lastTo (clusF s b (pos + (Utf8.decode s pos).2) (g.add (Utf8.decode s pos).1)) (g.add (Utf8.decode s pos).1).fr := rfl
        rw [e, i3]
        simp only [Gr.add]
        omega
    · unfold clusF
      rw [if_neg hp, if_neg (by omega), cntF_end s _ _ hp]
      refine ⟨⟨⟨rfl, ?_, rfl, ?_, ?_, ?_, ?_, ?_⟩, trivial⟩, ?_, ?_, by simp⟩
      all_goals simp [Gr.upTo, lensOf, lastTo]
      all_goals omega

theorem clusters_chain (s : ByteArray) : Chain (clusters s) 0 0 ∧ lensOf (clusters s) = s.size ∧ lastTo (clusters s) 0 = cnt s := by
  by_cases h : s.size = 0
  · have e : clusters s = [] := by unfold clusters clusF; simp [h]
    rw [e]
    simp [Chain, lensOf, lastTo, cnt, h, cntF]
  · have hp : 0 < s.size := by omega
    have hd := decode_fit s 0 hp
    have hw := Lib.decode_width_pos s 0 hp
    have hwd := widthI_bd (Utf8.decode s 0).1
    have e : clusters s = clusF s s.size (0 + (Utf8.decode s 0).2) (.begin (0 : Nat) 0 (Utf8.decode s 0).1) := by
      unfold clusters
      rw [clusF, if_pos hp, if_neg (by omega)]
      rfl
    have ih := clusF_chain s s.size (0 + (Utf8.decode s 0).2) (.begin (0 : Nat) 0 (Utf8.decode s 0).1) (by omega) (by omega) (by omega) (by simp only [Gr.begin]; omega) (by simp only [Gr.begin]; omega) (by simp only [Gr.begin]; omega) hwd.1 hwd.2
    rw [← e] at ih
    obtain ⟨i1, i2, i3, i4⟩ := ih
    refine ⟨i1, ?_, ?_⟩
    · simp only [Gr.begin] at i2; omega
    · have e3 : lastTo (clusters s) 0 = lastTo (clusters s) (Gr.begin (0 : Nat) 0 (Utf8.decode s 0).1).fr := rfl
      rw [e3, i3]
      have : cnt s = cntF s (s.size - 1) (0 + (Utf8.decode s 0).2) + 1 := by
        unfold cnt
        obtain ⟨b, hb⟩ : ∃ b, s.size = b + 1 := ⟨s.size - 1, by omega⟩
        conv => lhs; rw [show s.size = (s.size - 1) + 1 by omega]
        rw [cntF, if_pos hp]
      rw [this, cntF_fuel s s.size (s.size - 1) _ (by omega) (by omega)]
      simp only [Gr.begin]
      omega

theorem chain_append : ∀ (l m : List Cl) (a b : Int), Chain (l ++ m) a b → Chain l a b ∧ Chain m (a + lensOf l) (lastTo l b)
  | [], m, a, b, h => by simpa [Chain, lensOf, lastTo] using h
  | c :: r, m, a, b, h => by
    obtain ⟨h1, h2⟩ := h
    have ih := chain_append r m _ _ h2
    refine ⟨⟨h1, ih.1⟩, ?_⟩
    have e : a + lensOf (c :: r) = a + c.len + lensOf r := by simp only [lensOf, List.foldr_cons]; omega
    rw [e]
    exact ih.2
theorem chain_len : ∀ (l : List Cl) (a b : Int), Chain l a b → l.length ≤ lensOf l
  | [], _, _, _ => by simp [lensOf]
  | c :: r, a, b, h => by
    have := chain_len r _ _ h.2
    have := h.1.2.1
    simp only [lensOf, List.foldr_cons, List.length_cons] at *
    omega
theorem clusters_le (s : ByteArray) : (clusters s).length ≤ s.size := by
  have h := clusters_chain s
  have := chain_len _ _ _ h.1
  omega
theorem chain_cells : ∀ (l : List Cl) (a b : Int), Chain l a b → cellsOf l ≤ 2 * (lastTo l b - b) ∧ b ≤ lastTo l b
  | [], _, _, _ => by simp [cellsOf, lastTo]
  | c :: r, a, b, h => by
    have := chain_cells r _ _ h.2
    obtain ⟨h1, h2, h3, h4, h5, h6, h7, h8⟩ := h.1
    simp only [cellsOf, List.foldr_cons, lastTo] at *
    omega
theorem cells_signs (s : ByteArray) : ofI s ≤ 2 * cnt s := by
  obtain ⟨h1, _, h3⟩ := clusters_chain s
  have := (chain_cells _ _ _ h1).1
  rw [h3] at this
  unfold ofI
  omega
/-- A cluster and what lies ahead of it. -/
theorem chain_at {s : ByteArray} {pre r : List Cl} {c : Cl} (h : pre ++ c :: r = clusters s) : (c.loc = lensOf pre ∧ 1 ≤ c.len ∧ c.fr = lastTo pre 0 ∧ c.fr < c.to ∧ 0 ≤ c.cells ∧ c.cells ≤ 2 ∧ c.to - c.fr ≤ c.len ∧ c.len ≤ 4 * (c.to - c.fr)) := by
  have h1 := (clusters_chain s).1
  rw [← h] at h1
  have := (chain_append _ _ _ _ h1).2.1
  simpa using this
theorem lensOf_snoc (l : List Cl) (c : Cl) : lensOf (l ++ [c]) = lensOf l + c.len := by
  induction l with
  | nil => simp [lensOf]
  | cons d r ih => simp only [lensOf, List.cons_append, List.foldr_cons] at *; omega
theorem lastTo_snoc : ∀ (l : List Cl) (c : Cl) (b : Int), lastTo (l ++ [c]) b = c.to
  | [], _, _ => rfl
  | d :: r, c, _ => lastTo_snoc r c d.to
theorem lens_le {s : ByteArray} {pre r : List Cl} (h : pre ++ r = clusters s) : 0 ≤ lensOf pre ∧ lensOf pre ≤ s.size ∧ 0 ≤ lastTo pre 0 ∧ lastTo pre 0 ≤ cnt s := by
  obtain ⟨h1, h2, h3⟩ := clusters_chain s
  rw [← h] at h1 h2 h3
  obtain ⟨a1, a2⟩ := chain_append _ _ _ _ h1
  have l1 := chain_len _ _ _ a1
  have l2 := chain_len _ _ _ a2
  have c1 := (chain_cells _ _ _ a1).2
  have c2 := (chain_cells _ _ _ a2).2
  have e : lensOf (pre ++ r) = lensOf pre + lensOf r := by
    clear h h1 h2 h3 a1 a2 l1 l2 c1 c2
    induction pre with
    | nil => simp [lensOf]
    | cons d t ih => simp only [lensOf, List.cons_append, List.foldr_cons] at *; omega
  have e2 : lastTo (pre ++ r) 0 = lastTo r (lastTo pre 0) := by
    clear h h1 h2 h3 a1 a2 l1 l2 c1 c2 e
    generalize (0 : Int) = b
    induction pre generalizing b with
    | nil => rfl
    | cons d t ih => exact ih d.to
  omega

end Go.Proofs.YtbehlaclffjkbaaDoor
