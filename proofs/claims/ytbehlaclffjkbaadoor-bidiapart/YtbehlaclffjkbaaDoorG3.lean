/- Several texts, one behind the other. -/
import Derived.Lib.DecodeN
import Derived.KernelRfl
import Derived.Test.YtbehlaclffjkbaaDoorBeD
import Derived.Test.YtbehlaclffjkbaaDoorCellM5
/- Levels of paragraphs hang on themselves: mathematics. -/
namespace Go.Proofs.YtbehlaclffjkbaaDoor
open Go.RowKit Go.Shelf

theorem parL_app : ∀ {C : List Int} (D : List Int), (1 : Int) ∈ C → parL (C ++ D) = parL C
  | [], _, h => by cases h
  | c :: r, D, h => by
    rw [List.cons_append, parL, parL]
    by_cases hc : c = 1
    · rw [if_pos hc, if_pos hc]
    · rw [if_neg hc, if_neg hc, parL_app D (by
        rcases List.mem_cons.1 h with e | e
        · exact absurd e.symm hc
        · exact e)]
theorem levN_step (base : Int) {C : List Int} (h : C ≠ []) : levN base C = parN base (C.take (parL C)) (List.replicate (parL C) 0) ++ levN base (C.drop (parL C)) := by
  have h1 := parL_le C
  have h2 := parL_pos h
  unfold levN
  obtain ⟨f, hf⟩ : ∃ f, C.length = f + 1 := ⟨C.length - 1, by omega⟩
  rw [hf, levW, if_neg h]
  congr 1
  exact levW_fuel base _ _ _ (by rw [List.length_drop]; omega) (Nat.le_refl _)
/-- Behind a paragraph's end the levels begin anew. -/
theorem levN_app (base : Int) (D : List Int) : ∀ (k : Nat) (C : List Int), C.length ≤ k → C.getLast? = some 1 → levN base (C ++ D) = levN base C ++ levN base D
  | 0, C, hk, h => by
    have : C = [] := List.length_eq_zero_iff.1 (by omega)
    subst this
    cases h
  | k + 1, C, hk, h => by
    have hne : C ≠ [] := by intro e; subst e; cases h
    have hmem : (1 : Int) ∈ C := List.mem_of_getLast? h
    have h1 := parL_le C
    have h2 := parL_pos hne
    rw [levN_step base (C := C ++ D) (by simp [hne]), levN_step base hne, parL_app D hmem, List.take_append_of_le_length h1, List.drop_append_of_le_length h1, List.append_assoc]
    congr 1
    by_cases hd : C.drop (parL C) = []
    · rw [hd]
      rfl
    · refine levN_app base D k _ (by rw [List.length_drop]; omega) ?_
      rw [List.getLast?_drop, if_neg (by intro e; exact hd (List.drop_eq_nil_of_le e))]
      exact h
end Go.Proofs.YtbehlaclffjkbaaDoor

/- A newline is a cluster of its own: the classes of a text that is put together at one. -/
namespace Go.Proofs.YtbehlaclffjkbaaDoor
open Go.RowKit Go.Shelf

theorem decN_stop {n b0 b1 b2 b3 : Nat} : (b1 / 64 ≠ 2 → (Lib.decodeN n b0 b1 b2 b3).2 ≤ 1) ∧ (b2 / 64 ≠ 2 → (Lib.decodeN n b0 b1 b2 b3).2 ≤ 2) ∧ (b3 / 64 ≠ 2 → (Lib.decodeN n b0 b1 b2 b3).2 ≤ 3) ∧ (Lib.decodeN n b0 b1 b2 b3).2 ≤ 4 := by
  unfold Lib.decodeN
  refine ⟨fun h => ?_, fun h => ?_, fun h => ?_, ?_⟩
  all_goals
    repeat' split
    all_goals first | (simp; done) | omega
/-- No sign goes over a newline. -/
theorem dec_nl {s : ByteArray} {p P : Nat} (hp : p < P) (h : (s.get! P).toNat = 10) : p + (Utf8.decode s p).2 ≤ P := by
  rw [Lib.decode_at]
  obtain ⟨h1, h2, h3, h4⟩ := decN_stop (n := s.size - p) (b0 := (s.get! p).toNat) (b1 := (s.get! (p + 1)).toNat) (b2 := (s.get! (p + 2)).toNat) (b3 := (s.get! (p + 3)).toNat)
  by_cases e1 : P = p + 1
  · subst e1
    have := h1 (by rw [h]; decide)
    omega
  · by_cases e2 : P = p + 2
    · subst e2
      have := h2 (by rw [h]; decide)
      omega
    · by_cases e3 : P = p + 3
      · subst e3
        have := h3 (by rw [h]; decide)
        omega
      · omega
theorem dec_at_nl {s : ByteArray} {P : Nat} (h : (s.get! P).toNat = 10) : Utf8.decode s P = (10, 1) := by
  rw [Lib.decode_at, h]
  rfl
theorem wid10 : widthI 10 = 0 := by decide
theorem takes_nl (g : Gr) : g.takes 10 = false := by
  unfold Gr.takes
  rw [if_pos wid10, show ctlB 10 = true by decide]
  rfl
theorem nl_takes (P t r : Int) : (Gr.begin P t 10).takes r = false := by
  unfold Gr.takes
  simp only [Gr.begin]
  rw [show ctlB 10 = true by decide, show flagB 10 = false by decide]
  split
  · simp
  · split
    · simp
    · simp
/-- The clusters have an end behind the newline. -/
theorem clus_nl (s : ByteArray) (P : Nat) (hP : P < s.size) (h : (s.get! P).toNat = 10) : ∀ (b pos : Nat) (g : Gr), pos ≤ P → s.size + 1 ≤ pos + b → (pos = 0 → g.loc = 0) → ∃ pre r d, clusF s b pos g = pre ++ r ∧ lensOf pre = ((P + 1 : Nat) : Int) - g.loc ∧ pre.getLast? = some d ∧ d.loc = (P : Int)
  | 0, pos, g, h1, h2, _ => by omega
  | b + 1, pos, g, h1, h2, h0 => by
    rw [clusF, if_pos (by omega)]
    have hone : ∀ g' : Gr, g' = .begin (P : Nat) g.to 10 → ∃ r, clusF s b (P + 1) g' = ⟨(P : Int), 1, g'.fr, g'.to, g'.cells⟩ :: r := fun g' e => by
      subst e
      obtain ⟨b', rfl⟩ : ∃ b', b = b' + 1 := ⟨b - 1, by omega⟩
      have hu : ∀ x : Int, x = ((P + 1 : Nat) : Int) → (Gr.begin ((P : Nat) : Int) g.to 10).upTo x = ⟨(P : Int), 1, (Gr.begin ((P : Nat) : Int) g.to 10).fr, (Gr.begin ((P : Nat) : Int) g.to 10).to, (Gr.begin ((P : Nat) : Int) g.to 10).cells⟩ := fun x hx => by
        subst hx
        unfold Gr.upTo
        simp only [Gr.begin, Cl.mk.injEq, true_and, and_true]
        omega
      rw [clusF]
      by_cases hlt : P + 1 < s.size
      · rw [if_pos hlt, if_pos (by omega), nl_takes, if_neg (by simp)]
        exact ⟨_, congrArg (· :: _) (hu _ rfl)⟩
      · rw [if_neg hlt, if_neg (by omega)]
        exact ⟨[], congrArg (· :: []) (hu _ (by omega))⟩
    by_cases hpP : pos = P
    · subst hpP
      rw [dec_at_nl h]
      obtain ⟨r, hr⟩ := hone _ rfl
      by_cases hp0 : 0 < pos
      · rw [if_pos hp0]
        show ∃ pre r d, (if g.takes 10 = true then _ else g.upTo pos :: clusF s b (pos + 1) (.begin (pos : Nat) g.to 10)) = pre ++ r ∧ _
        rw [takes_nl, if_neg (by simp), hr]
        refine ⟨[g.upTo pos, ⟨(pos : Int), 1, _, _, _⟩], r, _, rfl, ?_, rfl, rfl⟩
        simp [lensOf, Gr.upTo]
        omega
      · rw [if_neg hp0]
        obtain rfl : pos = 0 := by omega
        show ∃ pre r d, clusF s b (0 + 1) (.begin ((0 : Nat) : Int) g.to 10) = pre ++ r ∧ _
        rw [hr]
        refine ⟨[⟨((0 : Nat) : Int), 1, _, _, _⟩], r, _, rfl, ?_, rfl, rfl⟩
        simp [lensOf, h0 rfl]
    · have hd := dec_nl (s := s) (show pos < P by omega) h
      have hw := Lib.decode_width_pos s pos (by omega)
      by_cases hp0 : 0 < pos
      · rw [if_pos hp0]
        by_cases ht : g.takes (Utf8.decode s pos).1 = true
        · rw [if_pos ht]
          exact clus_nl s P hP h b _ _ hd (by omega) (fun e => by omega)
        · rw [if_neg ht]
          obtain ⟨pre, r, d, e1, e2, e3, e4⟩ := clus_nl s P hP h b (pos + (Utf8.decode s pos).2) (.begin pos g.to (Utf8.decode s pos).1) hd (by omega) (fun e => by omega)
          refine ⟨g.upTo pos :: pre, r, d, by rw [e1]; rfl, ?_, ?_, e4⟩
          · have e2 : lensOf pre = ((P + 1 : Nat) : Int) - (pos : Int) := e2
            show (g.upTo pos).len + lensOf pre = _
            rw [e2]
            simp only [Gr.upTo]
            omega
          · rw [List.getLast?_cons, e3]
            rfl
      · rw [if_neg hp0]
        obtain rfl : pos = 0 := by omega
        obtain ⟨pre, r, d, e1, e2, e3, e4⟩ := clus_nl s P hP h b (0 + (Utf8.decode s 0).2) (.begin ((0 : Nat) : Int) g.to (Utf8.decode s 0).1) hd (by omega) (fun e => by omega)
        refine ⟨pre, r, d, e1, ?_, e3, e4⟩
        have e2 : lensOf pre = ((P + 1 : Nat) : Int) - ((0 : Nat) : Int) := e2
        rw [e2, h0 rfl]
        omega
end Go.Proofs.YtbehlaclffjkbaaDoor

/- The classes of a text that is put together at a newline. -/
namespace Go.Proofs.YtbehlaclffjkbaaDoor
open Go.RowKit Go.Shelf

theorem firR_dec {s : ByteArray} {x : Cl} {p : Nat} (hx : x.loc = (p : Int)) (hp : p < s.size) : firR s x = ((Utf8.decode s p).1 : Int) := by
  unfold firR
  rw [hx, Int.toNat_natCast]
  unfold Lib.decodeGo
  rw [if_neg (by rw [ByteArray.size_extract]; omega), decode_rest, Nat.add_zero]
theorem lens_cons (c : Cl) (l : List Cl) : lensOf (c :: l) = c.len + lensOf l := rfl
/-- A cluster of a front, and one of the rest. -/
theorem clus_pre {s : ByteArray} {pre r : List Cl} (h : pre ++ r = clusters s) {x : Cl} (hx : x ∈ pre) : ∃ p : Nat, x.loc = (p : Int) ∧ (p : Int) < lensOf pre := by
  obtain ⟨u, v, e⟩ := List.append_of_mem hx
  subst e
  have h1 : u ++ x :: (v ++ r) = clusters s := by rw [← h]; simp
  have h2 := chain_at h1
  have h3 := lens_le (pre := u) (r := x :: (v ++ r)) h1
  have hc := (chain_append _ _ _ _ (by have := (clusters_chain s).1; rw [← h] at this; exact this)).1
  have hv := lens_nnB v _ _ (chain_append _ _ _ _ hc).2.2
  refine ⟨(lensOf u).toNat, by omega, ?_⟩
  rw [lensOf_append, lens_cons]
  omega
theorem clus_rest {s : ByteArray} {pre r : List Cl} (h : pre ++ r = clusters s) {x : Cl} (hx : x ∈ r) : ∃ p : Nat, x.loc = (p : Int) ∧ lensOf pre ≤ (p : Int) ∧ p < s.size := by
  obtain ⟨u, v, e⟩ := List.append_of_mem hx
  subst e
  have h1 : (pre ++ u) ++ x :: v = clusters s := by rw [← h]; simp
  have h2 := chain_at h1
  have h3 := lens_le (pre := pre ++ u) (r := x :: v) h1
  have h4 := lens_le (pre := (pre ++ u) ++ [x]) (r := v) (by rw [← h1]; simp)
  have hc := (chain_append _ _ _ _ (by have := (clusters_chain s).1; rw [← h] at this; exact this)).2
  have hu := lens_nnB u _ _ (chain_append _ _ _ _ hc).1
  rw [lensOf_append] at h2 h3 h4
  rw [lensOf_append, lens_cons] at h4
  refine ⟨(lensOf pre + lensOf u).toNat, by omega, by omega, ?_⟩
  simp only [lensOf, List.foldr_nil] at h4 ⊢
  simp only [lensOf] at h2 h3 hu
  omega
theorem classI_nl : classI 10 = 1 := by kernel_rfl
theorem clsS_nl (s : ByteArray) (P : Nat) (hP : P < s.size) (h : (s.get! P).toNat = 10) : clsS s = clsS (s.extract 0 (P + 1)) ++ clsS (s.extract (P + 1) s.size) ∧ (clsS (s.extract 0 (P + 1))).getLast? = some 1 := by
  obtain ⟨pre, r, d, e1, e2, e3, e4⟩ := clus_nl s P hP h (s.size + 1) 0 .zero (Nat.zero_le _) (by omega) (fun _ => rfl)
  have e1 : pre ++ r = clusters s := e1.symm
  have e2 : lensOf pre = ((P + 1 : Nat) : Int) := by
    rw [e2]
    show ((P + 1 : Nat) : Int) - 0 = _
    omega
  obtain ⟨c1, c2⟩ := parts s pre r (P + 1) e1 e2
  have hz : (s.extract 0 (P + 1)).size = P + 1 := by rw [ByteArray.size_extract]; omega
  have hz2 : (s.extract (P + 1) s.size).size = s.size - (P + 1) := by rw [ByteArray.size_extract]; omega
  have hfr : ∀ p, p < P + 1 → Utf8.decode (s.extract 0 (P + 1)) p = Utf8.decode s p := fun p hp => decode_front s (P + 1) p (by omega) hp (by
    by_cases e : p = P
    · subst e
      rw [dec_at_nl h]
      exact Nat.le_refl _
    · have := dec_nl (s := s) (show p < P by omega) h
      omega)
  have hd : d ∈ pre := List.mem_of_getLast? e3
  refine ⟨?_, ?_⟩
  · unfold clsS
    rw [← e1, c1, c2, List.map_append, List.map_map]
    refine congr (congrArg HAppend.hAppend ?_) ?_
    · apply List.map_congr_left
      intro x hx
      obtain ⟨p, hp, hlt⟩ := clus_pre e1 hx
      rw [firR_dec hp (by omega), firR_dec hp (by rw [hz]; omega), hfr p (by omega)]
    · apply List.map_congr_left
      intro x hx
      obtain ⟨p, hp, hge, hlt⟩ := clus_rest e1 hx
      show classI (firR s x) = classI (firR (s.extract (P + 1) s.size) (x.back ((P + 1 : Nat) : Int) (lastTo pre 0)))
      rw [firR_dec hp hlt, firR_dec (p := p - (P + 1)) (by show x.loc - ((P + 1 : Nat) : Int) = _; rw [hp]; omega) (by rw [hz2]; omega), decode_rest, show P + 1 + (p - (P + 1)) = p by omega]
  · unfold clsS
    rw [c1, List.getLast?_map, e3]
    show some (classI (firR (s.extract 0 (P + 1)) d)) = some 1
    rw [firR_dec e4 (by rw [hz]; omega), hfr P (by omega), dec_at_nl h]
    exact congrArg some classI_nl
/-- Text by text. -/
theorem clsS_two (a b : ByteArray) : clsS (a ++ ⟨#[10]⟩ ++ b) = clsS (a ++ ⟨#[10]⟩) ++ clsS b ∧ (clsS (a ++ ⟨#[10]⟩)).getLast? = some 1 := by
  have hn : (⟨#[10]⟩ : ByteArray).size = 1 := rfl
  have hs : (a ++ (⟨#[10]⟩ : ByteArray) ++ b).size = a.size + 1 + b.size := by rw [ByteArray.size_append, ByteArray.size_append, hn]
  have h1 : (a ++ (⟨#[10]⟩ : ByteArray) ++ b).extract 0 (a.size + 1) = a ++ ⟨#[10]⟩ := ByteArray.extract_append_eq_left (by rw [ByteArray.size_append, hn])
  have h2 : (a ++ (⟨#[10]⟩ : ByteArray) ++ b).extract (a.size + 1) (a ++ (⟨#[10]⟩ : ByteArray) ++ b).size = b := ByteArray.extract_append_eq_right (by rw [ByteArray.size_append, hn]) (by rw [hs, ByteArray.size_append, hn])
  have h3 : ((a ++ (⟨#[10]⟩ : ByteArray) ++ b).get! a.size).toNat = 10 := by
    rw [← Lib.getD_get!']
    simp
  have := clsS_nl (a ++ (⟨#[10]⟩ : ByteArray) ++ b) a.size (by omega) h3
  rw [h1, h2] at this
  exact this
/-- The levels, paragraph by paragraph. -/
theorem levN_two (base : Int) (a b : ByteArray) : levN base (clsS (a ++ ⟨#[10]⟩ ++ b)) = levN base (clsS (a ++ ⟨#[10]⟩)) ++ levN base (clsS b) := by
  obtain ⟨h1, h2⟩ := clsS_two a b
  rw [h1]
  exact levN_app base _ _ _ (Nat.le_refl _) h2
end Go.Proofs.YtbehlaclffjkbaaDoor

/- How high levels are: mathematics. -/
namespace Go.Proofs.YtbehlaclffjkbaaDoor
open Go.RowKit Go.Shelf

/-- How deep rows lie. -/
structure DpR (S : RwS) (D : Nat → Nat) : Prop where
  st : ∀ (t l : Nat), S.op[t]? = some l → D l ≤ t
  up : ∀ (j : Nat) (r : RwM), S.rows[j]? = some r → 0 < j → D r.o + 1 ≤ D j
  le : ∀ j, D j ≤ 60
theorem addP_at {R : List RwM} {l i j : Nat} {r : RwM} (hl : l < R.length) (h : (addP R l i)[j]? = some r) : ∃ r2, R[j]? = some r2 ∧ r2.o = r.o ∧ (∀ x ∈ r2.ps, x ∈ r.ps) ∧ (j = l → (i : Int) ∈ r.ps) := by
  unfold addP at h
  rw [List.getElem?_set] at h
  split at h
  · rename_i e
    subst e
    try rw [if_pos hl] at h
    cases h
    have hx : R[l]? = some R[l] := List.getElem?_eq_getElem hl
    rw [hx]
    exact ⟨R[l], rfl, rfl, fun x hx => List.mem_append_left _ hx, fun _ => List.mem_append_right _ (by simp)⟩
  · rename_i e
    exact ⟨r, h, rfl, fun x hx => hx, fun h => absurd h.symm e⟩
theorem pop_at {c : Int} {op : List Nat} {pl t l : Nat} (h : (popO c op pl)[t]? = some l) : op[t]? = some l := by
  obtain ⟨q, hq⟩ := pop_pre c op pl
  have h1 := (List.getElem?_eq_some_iff.1 h).1
  rw [← hq, List.getElem?_append_left h1]
  exact h
theorem stepR_dp {S : RwS} {i : Nat} {D : Nat → Nat} (h : WfR S i) (hd : DpR S D) (c : Int) : ∃ D', DpR (stepR S c i) D' := by
  have hne := pop_ne (c := c) (pl := S.pl) h.ne
  have hp := pop_pre c S.op S.pl
  have hll := h.lt _ (hp.mem (last_mem hne))
  have hup : ∀ (j : Nat) (r : RwM), (addP S.rows ((popO c S.op S.pl).getLast?.getD 0) i)[j]? = some r → 0 < j → D r.o + 1 ≤ D j := fun j r hr hj => by
    obtain ⟨r2, h2, ho, _⟩ := addP_at hll hr
    rw [← ho]
    exact hd.up j r2 h2 hj
  unfold stepR
  split
  · split
    · exact ⟨D, fun t l hl => hd.st t l (pop_at hl), hup, hd.le⟩
    · rename_i h60
      refine ⟨fun j => if j = S.rows.length then (popO c S.op S.pl).length else D j, fun t l hl => ?_, fun j r hr hj => ?_, fun j => ?_⟩
      · rcases Nat.lt_or_ge t (popO c S.op S.pl).length with ht | ht
        · have h9 : (popO c S.op S.pl)[t]? = some l := by
            rw [← List.getElem?_append_left (l₂ := [S.rows.length]) ht]
            exact hl
          have h8 := h.lt l (hp.mem (List.mem_of_getElem? h9))
          show (if l = S.rows.length then _ else D l) ≤ t
          rw [if_neg (by omega)]
          exact hd.st t l (pop_at h9)
        · have h9 : ([S.rows.length])[t - (popO c S.op S.pl).length]? = some l := by
            rw [← List.getElem?_append_right (l₁ := popO c S.op S.pl) ht]
            exact hl
          have h8 : l = S.rows.length := by simpa using List.mem_of_getElem? h9
          show (if l = S.rows.length then _ else D l) ≤ t
          rw [if_pos h8]
          exact ht
      · rcases Nat.lt_or_ge j (addP S.rows ((popO c S.op S.pl).getLast?.getD 0) i).length with hj2 | hj2
        · have h9 : (addP S.rows ((popO c S.op S.pl).getLast?.getD 0) i)[j]? = some r := by
            rw [← List.getElem?_append_left (l₂ := [⟨[], (popO c S.op S.pl).getLast?.getD 0, c, 0⟩]) hj2]
            exact hr
          obtain ⟨r2, h2, ho, _⟩ := addP_at hll h9
          have h7 := h.ou j r2 h2 hj
          rw [addP_len] at hj2
          show (if r.o = S.rows.length then _ else D r.o) + 1 ≤ if j = S.rows.length then _ else D j
          rw [if_neg (by omega), if_neg (by omega)]
          exact hup j r h9 hj
        · have h9 : ([(⟨[], (popO c S.op S.pl).getLast?.getD 0, c, 0⟩ : RwM)])[j - (addP S.rows ((popO c S.op S.pl).getLast?.getD 0) i).length]? = some r := by
            rw [← List.getElem?_append_right (l₁ := addP S.rows ((popO c S.op S.pl).getLast?.getD 0) i) hj2]
            exact hr
          have h8 : r = ⟨[], (popO c S.op S.pl).getLast?.getD 0, c, 0⟩ := by simpa using List.mem_of_getElem? h9
          have h7 := (List.getElem?_eq_some_iff.1 h9).1
          rw [addP_len] at hj2 h7
          have hjl : j = S.rows.length := by simp at h7; omega
          subst h8
          show (if (popO c S.op S.pl).getLast?.getD 0 = S.rows.length then _ else D ((popO c S.op S.pl).getLast?.getD 0)) + 1 ≤ if j = S.rows.length then _ else D j
          have hpos := List.length_pos_iff.2 hne
          rw [if_neg (by omega), if_pos hjl]
          have hg : (popO c S.op S.pl)[(popO c S.op S.pl).length - 1]? = some ((popO c S.op S.pl).getLast?.getD 0) := by
            rw [← List.getLast?_eq_getElem?, List.getLast?_eq_some_getLast hne]
            rfl
          have := hd.st _ _ (pop_at hg)
          omega
      · show (if j = S.rows.length then _ else D j) ≤ 60
        split
        · omega
        · exact hd.le j
  · exact ⟨D, fun t l hl => hd.st t l (pop_at hl), hup, hd.le⟩
theorem rowsT_dp (C : List Int) : ∀ i, ∃ D, DpR (rowsT C i) D
  | 0 => ⟨fun _ => 0, fun _ _ _ => Nat.zero_le _, fun j r hr hj => by
      have := (List.getElem?_eq_some_iff.1 hr).1
      simp [rowsT] at this
      omega, fun _ => Nat.zero_le _⟩
  | i + 1 => by
    obtain ⟨D, hD⟩ := rowsT_dp C i
    exact stepR_dp (rowsT_wf C i) hD _
/-- Each cluster lies in a row. -/
theorem rowsT_all (C : List Int) : ∀ i k, k < i → ∃ (j : Nat) (r : RwM), (rowsT C i).rows[j]? = some r ∧ (k : Int) ∈ r.ps
  | 0, _, h => absurd h (Nat.not_lt_zero _)
  | i + 1, k, h => by
    have hw := rowsT_wf C i
    have key : ∃ (j : Nat) (r : RwM), (addP (rowsT C i).rows ((popO ((C[i]?).getD 0) (rowsT C i).op (rowsT C i).pl).getLast?.getD 0) i)[j]? = some r ∧ (k : Int) ∈ r.ps := by
      have hne := pop_ne (c := (C[i]?).getD 0) (pl := (rowsT C i).pl) hw.ne
      have hll := hw.lt _ ((pop_pre _ _ _).mem (last_mem hne))
      by_cases hk : k = i
      · subst hk
        obtain ⟨r, hr⟩ : ∃ r, (addP (rowsT C k).rows ((popO ((C[k]?).getD 0) (rowsT C k).op (rowsT C k).pl).getLast?.getD 0) k)[(popO ((C[k]?).getD 0) (rowsT C k).op (rowsT C k).pl).getLast?.getD 0]? = some r := ⟨_, List.getElem?_eq_getElem (by rw [addP_len]; exact hll)⟩
        obtain ⟨_, _, _, _, h4⟩ := addP_at hll hr
        exact ⟨_, r, hr, h4 rfl⟩
      · obtain ⟨j, r, hr, hm⟩ := rowsT_all C i k (by omega)
        obtain ⟨r2, hr2⟩ : ∃ r, (addP (rowsT C i).rows ((popO ((C[i]?).getD 0) (rowsT C i).op (rowsT C i).pl).getLast?.getD 0) i)[j]? = some r := ⟨_, List.getElem?_eq_getElem (by rw [addP_len]; exact (List.getElem?_eq_some_iff.1 hr).1)⟩
        obtain ⟨r3, h3, _, h4, _⟩ := addP_at hll hr2
        obtain rfl : r3 = r := Option.some.inj (h3.symm.trans hr)
        exact ⟨j, r2, hr2, h4 _ hm⟩
    obtain ⟨j, r, hr, hm⟩ := key
    rw [rowsT]
    unfold stepR
    split
    · split
      · exact ⟨j, r, hr, hm⟩
      · exact ⟨j, r, by rw [List.getElem?_append_left (List.getElem?_eq_some_iff.1 hr).1]; exact hr, hm⟩
    · exact ⟨j, r, hr, hm⟩
theorem ins_two (e : Int) (l : Bool) : e + 1 ≤ insI e l ∧ insI e l ≤ e + 2 := by unfold insI; split <;> omega
/-- The rows' levels. -/
theorem rowsE_lv (C : List Int) (base : Int) {D : Nat → Nat} (hD : DpR (rowsT C C.length) D) : ∀ i, i ≤ (rowsN C).length →
    (∀ (j : Nat) (r : RwM), (rowsE C base i)[j]? = some r → ∃ r2, (rowsN C)[j]? = some r2 ∧ r2.o = r.o ∧ r2.ps = r.ps) ∧ (∀ (j : Nat) (r : RwM), (rowsE C base i)[j]? = some r → (j < i ∨ j = 0) → base ≤ r.e ∧ r.e ≤ base + 2 * (D j : Int))
  | 0, _ => by
    have h0 := rowsN_ne C
    have hr : (rowsN C)[0]? = some (rowsN C)[0] := List.getElem?_eq_getElem h0
    rw [rowsE, hr]
    refine ⟨fun j r h => ?_, fun j r h hj => ?_⟩
    · rw [List.getElem?_set] at h
      split at h
      · rename_i e
        subst e
        try rw [if_pos h0] at h
        cases h
        exact ⟨_, hr, rfl, rfl⟩
      · exact ⟨r, h, rfl, rfl⟩
    · obtain rfl : j = 0 := by omega
      rw [List.getElem?_set, if_pos rfl, if_pos h0] at h
      cases h
      show base ≤ base ∧ base ≤ _
      omega
  | i + 1, hi => by
    obtain ⟨h1, h2⟩ := rowsE_lv C base hD i (by omega)
    rw [rowsE]
    split
    · rename_i e
      exact ⟨h1, fun j r hr hj => h2 j r hr (by omega)⟩
    · have hln := rowsE_len C base i
      obtain ⟨r, hr⟩ : ∃ r, (rowsE C base i)[i]? = some r := ⟨_, List.getElem?_eq_getElem (by omega)⟩
      obtain ⟨r0, g1, g2, g3⟩ := h1 i r hr
      have hou := (rowsT_wf C C.length).ou i r0 g1 (by omega)
      have hup := hD.up i r0 g1 (by omega)
      rw [g2] at hou hup
      obtain ⟨q, hq⟩ : ∃ q, (rowsE C base i)[r.o]? = some q := ⟨_, List.getElem?_eq_getElem (by omega)⟩
      have he := h2 _ _ hq (.inl hou)
      rw [hr]
      show (∀ (j : Nat) (s : RwM), ((rowsE C base i).set i { r with e := insI (((rowsE C base i)[r.o]?).getD rw0).e (goesS C r.ps r.k) })[j]? = some s → _) ∧ _
      rw [hq]
      have hin := ins_two q.e (goesS C r.ps r.k)
      refine ⟨fun j s hs => ?_, fun j s hs hj => ?_⟩
      · rw [List.getElem?_set] at hs
        split at hs
        · rename_i e
          subst e
          try rw [if_pos (show i < (rowsE C base i).length by omega)] at hs
          cases hs
          exact ⟨r0, g1, g2, g3⟩
        · exact h1 j s hs
      · replace hs : ((rowsE C base i).set i { r with e := insI (((rowsE C base i)[r.o]?).getD rw0).e (goesS C r.ps r.k) })[j]? = some s := hs
        rw [hq] at hs
        replace hs : ((rowsE C base i).set i { r with e := insI q.e (goesS C r.ps r.k) })[j]? = some s := hs
        rw [List.getElem?_set] at hs
        split at hs
        · rename_i e
          subst e
          try rw [if_pos (show i < (rowsE C base i).length by omega)] at hs
          cases hs
          show base ≤ insI q.e (goesS C r.ps r.k) ∧ insI q.e (goesS C r.ps r.k) ≤ _
          omega
        · exact h2 j s hs (by omega)
theorem lvl_two (c e : Int) : e ≤ lvlI c e ∧ lvlI c e ≤ e + 2 := by unfold lvlI; split <;> (try split) <;> (try split) <;> omega
/-- A place has a level within these bounds. -/
def LvAt (lo hi : Int) (L : List Int) (k : Nat) : Prop := ∃ x, L[k]? = some x ∧ lo ≤ x ∧ x ≤ hi
theorem LvAt.set {lo hi : Int} {L : List Int} {k p : Nat} {x : Int} (hx : lo ≤ x ∧ x ≤ hi) (h : LvAt lo hi L k) : LvAt lo hi (L.set p x) k := by
  obtain ⟨y, hy, hb⟩ := h
  have hl := (List.getElem?_eq_some_iff.1 hy).1
  unfold LvAt
  rw [List.getElem?_set]
  split
  · rename_i e
    subst e
    exact ⟨x, by first | rfl | rw [if_pos hl], hx⟩
  · exact ⟨y, hy, hb⟩
theorem layJ_keep {lo hi e : Int} (he : lo ≤ e ∧ e + 2 ≤ hi) {L P X : List Int} {k : Nat} (h : LvAt lo hi L k) : ∀ t, LvAt lo hi (layJ e L P X t) k
  | 0 => h
  | t + 1 => by
    have := lvl_two ((X[t]?).getD 0) e
    exact LvAt.set (by omega) (layJ_keep he h t)
theorem layJ_new {lo hi e : Int} (he : lo ≤ e ∧ e + 2 ≤ hi) {L P X : List Int} {k : Nat} (hk : k < L.length) : ∀ t, (k : Int) ∈ P.take t → LvAt lo hi (layJ e L P X t) k
  | 0, h => by simp at h
  | t + 1, h => by
    have hb := lvl_two ((X[t]?).getD 0) e
    rw [List.take_add_one] at h
    rcases List.mem_append.1 h with h | h
    · exact LvAt.set (by omega) (layJ_new he hk t h)
    · have hp : P[t]? = some (k : Int) := by
        cases hx : P[t]? with
        | none => rw [hx] at h; simp at h
        | some y => rw [hx] at h; simp at h; rw [h]
      refine ⟨lvlI ((X[t]?).getD 0) e, ?_, by omega⟩
      rw [layJ, hp]
      show ((layJ e L P X t).set (k : Int).toNat _)[k]? = _
      rw [Int.toNat_natCast, List.getElem?_set, if_pos rfl, if_pos (by rw [layJ_len]; exact hk)]
theorem levT_lv (C : List Int) (base : Int) (L : List Int) {k : Nat} (hk : k < L.length) : ∀ i, i ≤ (rowsN C).length → ∀ (j : Nat) (r : RwM), j < i → (rowsN C)[j]? = some r → (k : Int) ∈ r.ps → LvAt base (base + 122) (levT C base L i) k
  | 0, _, _, _, h, _, _ => absurd h (Nat.not_lt_zero _)
  | i + 1, hi, j, r, hj, hr, hm => by
    obtain ⟨D, hD⟩ := rowsT_dp C C.length
    obtain ⟨h1, h2⟩ := rowsE_lv C base hD (i + 1) hi
    have hln := rowsE_len C base (i + 1)
    obtain ⟨q, hq⟩ : ∃ q, (rowsE C base (i + 1))[i]? = some q := ⟨_, List.getElem?_eq_getElem (by omega)⟩
    have he := h2 i q hq (.inl (by omega))
    have hle := hD.le i
    obtain ⟨q2, g1, _, g3⟩ := h1 i q hq
    rw [levT, hq]
    show LvAt base (base + 122) (layJ q.e (levT C base L i) q.ps (resN (sideI q.e) (clsP C q.ps)) q.ps.length) k
    by_cases hji : j = i
    · subst hji
      obtain rfl : q2 = r := Option.some.inj (g1.symm.trans hr)
      rw [g3] at hm
      exact layJ_new (by omega) (by rw [levT_len]; exact hk) _ (by rw [List.take_length]; exact hm)
    · exact layJ_keep (by omega) (levT_lv C base L hk i (by omega) j r (by omega) hr hm) _
/-- The levels of a paragraph. -/
theorem parN_lv (base : Int) (C : List Int) {x : Int} (h : x ∈ parN base C (List.replicate C.length 0)) : base ≤ x ∧ x ≤ base + 122 := by
  obtain ⟨k, hk, e⟩ := List.getElem_of_mem h
  have hkl := hk
  rw [parN_len, List.length_replicate] at hkl
  have hx : (parN base C (List.replicate C.length 0))[k]? = some x := by rw [List.getElem?_eq_getElem hk, e]
  obtain ⟨j, r, hr, hm⟩ := rowsT_all C C.length k hkl
  obtain ⟨y, hy, hb⟩ := levT_lv C base (List.replicate C.length 0) (k := k) (by rw [List.length_replicate]; exact hkl) (rowsN C).length (Nat.le_refl _) j r (List.getElem?_eq_some_iff.1 hr).1 hr hm
  unfold parN at hx
  rw [endsF_at, hy] at hx
  have hx : (if 0 ≤ k ∧ aeT (C.drop k) = true then base else y) = x := Option.some.inj hx
  split at hx <;> omega
/-- All levels are the base or above, and not above the base + 122. -/
theorem levN_lv (base : Int) : ∀ (k : Nat) (C : List Int), C.length ≤ k → ∀ x ∈ levN base C, base ≤ x ∧ x ≤ base + 122
  | 0, C, h, x, hx => by
    have : C = [] := List.length_eq_zero_iff.1 (by omega)
    subst this
    cases hx
  | k + 1, C, h, x, hx => by
    by_cases hne : C = []
    · subst hne
      cases hx
    · have h1 := parL_le C
      have h2 := parL_pos hne
      rw [levN_step base hne] at hx
      rcases List.mem_append.1 hx with hx | hx
      · have hl : (C.take (parL C)).length = parL C := by rw [List.length_take]; omega
        rw [show List.replicate (parL C) (0 : Int) = List.replicate (C.take (parL C)).length 0 by rw [hl]] at hx
        exact parN_lv base _ hx
      · exact levN_lv base k _ (by rw [List.length_drop]; omega) x hx
end Go.Proofs.YtbehlaclffjkbaaDoor
