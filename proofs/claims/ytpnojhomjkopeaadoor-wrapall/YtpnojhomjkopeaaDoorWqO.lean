/- The best way of a text against its other ways (chapter 10, P1006): mathematics. -/
import Derived.Test.YtpnojhomjkopeaaDoorWqM
import Derived.Test.YtpnojhomjkopeaaDoorWqH
namespace Go.Proofs.YtpnojhomjkopeaaDoor

theorem endG_last : ∀ (l : List Cl) (e : Int × Int × Int), (endG l e).2.1 = lastTo l e.2.1
  | [], _ => rfl
  | x :: l, e => by
    show (endG l _).2.1 = lastTo l x.to
    rw [endG_last l]
theorem sg_at (s : ByteArray) (k : Nat) (h : k ≤ (clusters s).length) : ((partsL s).getD k pt0).sg = lastTo ((clusters s).take k) 0 := by
  have e : ∃ p : Pt, (partsL s)[k]? = some p ∧ p.sg = (endG ((clusters s).take k) (0, 0, 0)).2.1 := by
    unfold partsL
    by_cases hl : k = (clusters s).length
    · subst hl
      rw [clsL_ge s _ _ _ _ (Nat.le_refl _)]
      unfold partsR
      rw [List.getElem?_append_right (by rw [partsG_len]; exact Nat.le_refl _), partsG_len, Nat.sub_self, List.take_length]
      exact ⟨_, rfl, rfl⟩
    · have hn : k < (clusters s).length := by omega
      rw [clsL_lt s _ _ _ _ hn]
      unfold partsR
      rw [List.getElem?_append_left (by rw [partsG_len]; exact hn), partsG_at2 _ _ _ _ (List.getElem?_eq_getElem hn)]
      exact ⟨_, rfl, rfl⟩
  obtain ⟨p, hp, h2⟩ := e
  rw [getD_at hp, h2, endG_last]
theorem sg_step (s : ByteArray) (k : Nat) (h : k < (clusters s).length) : ((partsL s).getD k pt0).sg < ((partsL s).getD (k + 1) pt0).sg := by
  rw [sg_at s k (by omega), sg_at s (k + 1) (by omega), List.take_add_one, List.getElem?_eq_getElem h]
  show _ < lastTo (_ ++ [_]) 0
  rw [lastTo_snoc]
  have := chain_at (s := s) (pre := (clusters s).take k) (c := (clusters s)[k]) (r := (clusters s).drop (k + 1)) (by rw [← List.drop_eq_getElem_cons h, List.take_append_drop])
  omega
theorem sg_lt (s : ByteArray) (j : Nat) : ∀ d, j + d + 1 ≤ (clusters s).length → ((partsL s).getD j pt0).sg < ((partsL s).getD (j + d + 1) pt0).sg
  | 0, h => sg_step s j (by omega)
  | d + 1, h => by
    have a := sg_lt s j d (by omega)
    have b := sg_step s (j + d + 1) (by omega)
    rw [show j + (d + 1) + 1 = j + d + 1 + 1 by omega]
    omega
theorem strip_mono (L : List Pt) (e : Nat) : ∀ d, stripB L e ≤ stripB L (e + d)
  | 0 => Nat.le_refl _
  | d + 1 => by
    have a := strip_mono L e d
    have b := stripB_le L e
    rw [show e + (d + 1) = (e + d) + 1 by omega]
    show _ ≤ (if _ then stripB L (e + d) else e + d + 1)
    split
    · exact a
    · show stripB L e ≤ e + d + 1
      exact Nat.le_trans b (by omega)
theorem fin_le {L : List Pt} {N : Nat} (h : Rise L N) (a b : Nat) (ka kb : Int) (hab : a < b) (hb : b ≤ N) : (L.getD (stripB L (stopE ka a)) pt0).ce ≤ (L.getD (stripB L (stopE kb b)) pt0).ce := by
  have h1 : stopE ka a ≤ a := by unfold stopE; split <;> omega
  have h2 : b - 1 ≤ stopE kb b ∧ stopE kb b ≤ b := by unfold stopE; split <;> omega
  have h3 := strip_mono L (stopE ka a) (stopE kb b - stopE ka a)
  rw [show stopE ka a + (stopE kb b - stopE ka a) = stopE kb b by omega] at h3
  have h4 := stripB_le L (stopE kb b)
  exact h.le h3 (by omega)
/-- A stop of a text stands at a place. -/
theorem stop_at (L : List Pt) : ∀ m, ∀ x ∈ stopsTo L m, ∃ k, 1 ≤ k ∧ k < m ∧ kindL L k ≠ 0 ∧ x = stpAt L k (kindL L k)
  | 0, x, h => by simp [stopsTo] at h
  | m + 1, x, h => by
    unfold stopsTo at h
    rcases List.mem_append.1 h with h | h
    · obtain ⟨k, h0, h1, h2⟩ := stop_at L m x h
      exact ⟨k, h0, by omega, h2⟩
    · split at h
      · simp at h
      · rename_i hc
        obtain rfl : x = _ := by simpa using h
        exact ⟨m, by omega, by omega, fun e => hc (.inr e), rfl⟩
theorem stops_two (L : List Pt) : ∀ m, (stopsTo L m).Pairwise fun x y => ∃ a b, a < b ∧ b < m ∧ x = stpAt L a (kindL L a) ∧ y = stpAt L b (kindL L b)
  | 0 => .nil
  | m + 1 => by
    have ih := (stops_two L m).imp (S := fun x y => ∃ a b, a < b ∧ b < m + 1 ∧ x = stpAt L a (kindL L a) ∧ y = stpAt L b (kindL L b)) (fun ⟨a, b, h1, h2, h3⟩ => ⟨a, b, h1, by omega, h3⟩)
    unfold stopsTo
    split
    · rw [List.append_nil]
      exact ih
    · refine List.pairwise_append.2 ⟨ih, List.pairwise_singleton _ _, fun x hx y hy => ?_⟩
      obtain rfl : y = _ := by simpa using hy
      obtain ⟨k, _, h1, _, h3⟩ := stop_at L m x hx
      exact ⟨k, m, h1, by omega, h3, rfl⟩
theorem plS_kind (s : ByteArray) : ∀ x ∈ plS s, x.kind ≠ 0 := fun x hx => by
  obtain ⟨k, _, _, h, rfl⟩ := stop_at _ _ x hx
  exact h
/-- The places of a text rise. -/
theorem plS_rise (s : ByteArray) : (plS s).Pairwise fun x y => x.nxt.sg < y.nxt.sg ∧ x.fin.ce ≤ y.fin.ce := by
  unfold plS
  rw [partsL_len]
  refine (stops_two (partsL s) ((clusters s).length + 1)).imp ?_
  rintro x y ⟨a, b, h1, h2, rfl, rfl⟩
  refine ⟨?_, fin_le (rise_of s) a b _ _ h1 (by omega)⟩
  have := sg_lt s a (b - a - 1) (by omega)
  rwa [show a + (b - a - 1) + 1 = b by omega] at this
theorem stopsW_rise (s : ByteArray) : RiseS (stopsW s) := by
  rw [stopsW_eq]
  intro i j x y hij hx hy
  have hp := List.pairwise_iff_getElem.1 (plS_rise s)
  have hj := (List.getElem?_eq_some_iff.1 hy).1
  rw [List.length_append, List.length_singleton] at hj
  have hi : i < (plS s).length := by omega
  rw [List.getElem?_append_left hi] at hx
  obtain ⟨_, ex⟩ := List.getElem?_eq_some_iff.1 hx
  by_cases hjl : j < (plS s).length
  · rw [List.getElem?_append_left hjl] at hy
    obtain ⟨_, ey⟩ := List.getElem?_eq_some_iff.1 hy
    have := hp i j hi hjl hij
    rw [ex, ey] at this
    exact ⟨.inl this.1, this.2⟩
  · obtain rfl : j = (plS s).length := by omega
    rw [List.getElem?_append_right (Nat.le_refl _), Nat.sub_self] at hy
    obtain rfl : fnS s = y := by simpa using hy
    obtain ⟨k, k1, k2, k3, rfl⟩ := stop_at _ _ x (List.mem_of_getElem? hx)
    rw [partsL_len] at k2
    have hR := rise_of s
    have ef : fnS s = stpAt (partsL s) (clusters s).length 0 := by unfold fnS; rw [partsL_len, Nat.add_sub_cancel]
    rw [ef]
    by_cases hk : k < (clusters s).length
    · refine ⟨.inl ?_, fin_le hR k _ _ _ hk (Nat.le_refl _)⟩
      have := sg_lt s k ((clusters s).length - k - 1) (by omega)
      rwa [show k + ((clusters s).length - k - 1) + 1 = (clusters s).length by omega] at this
    · obtain rfl : k = (clusters s).length := by omega
      have h1 : kindL (partsL s) (clusters s).length = 1 := by
        have h6 := hR.fin
        apply Classical.byContradiction
        intro hne
        apply k3
        unfold kindL kindI
        have e1 : ((partsL s).getD ((clusters s).length - 1) pt0).cl ≠ 1 := kindL_hard _ _ hne
        exact (if_neg e1).trans (if_pos (.inr (.inr h6)))
      refine ⟨.inr (.inl h1), ?_⟩
      have h2 := strip_mono (partsL s) (stopE (kindL (partsL s) (clusters s).length) (clusters s).length) ((clusters s).length - stopE (kindL (partsL s) (clusters s).length) (clusters s).length)
      have h3 : stopE (kindL (partsL s) (clusters s).length) (clusters s).length ≤ (clusters s).length := by unfold stopE; split <;> omega
      rw [show stopE (kindL (partsL s) (clusters s).length) (clusters s).length + ((clusters s).length - stopE (kindL (partsL s) (clusters s).length) (clusters s).length) = (clusters s).length by omega] at h2
      have h4 : stopE 0 (clusters s).length = (clusters s).length := rfl
      show ((partsL s).getD (stripB (partsL s) (stopE _ _)) pt0).ce ≤ ((partsL s).getD (stripB (partsL s) (stopE 0 _)) pt0).ce
      rw [h4]
      exact hR.le h2 (stripB_le _ _)
/-- Breaks of stops. -/
def brsL (V : List St) : List (Int × Int) := V.map fun x => (x.nxt.sg, x.kind)
theorem subK_mem {A B : List St} (h : SubK A B) : ∀ z ∈ A, z ∈ B := by
  induction h with
  | nil => intro z hz; exact hz
  | take x V S _ ih =>
    intro z hz
    rcases List.mem_cons.1 hz with e | e
    · rw [e]
      exact List.mem_cons_self ..
    · exact List.mem_cons_of_mem _ (ih z e)
  | skip x V S _ _ ih => intro z hz; exact List.mem_cons_of_mem _ (ih z hz)
theorem wayG_way : ∀ (S V : List St), SubK V S → S.Pairwise (fun x y => x.nxt.sg < y.nxt.sg ∧ x.fin.ce ≤ y.fin.ce) → wayG S (brsL V) = some (V, [])
  | _, _, .nil, _ => rfl
  | _, _, .take x V S h, hp => by
    have ih := wayG_way S V h (List.pairwise_cons.1 hp).2
    show wayG (x :: S) ((x.nxt.sg, x.kind) :: brsL V) = _
    rw [wayG, if_pos rfl, ih]
    rfl
  | _, _, .skip x V S hn h, hp => by
    have ih := wayG_way S V h (List.pairwise_cons.1 hp).2
    have hk : ¬ x.kind = 1 := fun e => hn (.inl e)
    cases V with
    | nil =>
      show wayG (x :: S) [] = _
      rw [wayG, if_neg hk]
      exact ih
    | cons y V =>
      have hy : y ∈ S := subK_mem h y (List.mem_cons_self ..)
      have hlt := ((List.pairwise_cons.1 hp).1 y hy).1
      show wayG (x :: S) ((y.nxt.sg, y.kind) :: brsL V) = _
      rw [wayG, if_neg (fun e => by have := congrArg Prod.fst e; simp at this; omega), if_neg hk]
      exact ih
/-- What Badness tells of a way. -/
theorem badF_way (s : ByteArray) (wd : Int) (V : List St) (h : SubK V (plS s)) : badF wd (plS s) (fnS s) (brsL V) = if fitsW wd 0 (V ++ [fnS s]) = true then (costW wd 0 (V ++ [fnS s]), 0) else (0, 35) := by
  unfold badF
  rw [wayG_way _ _ h (plS_rise s)]
  show (if ([] : List (Int × Int)).length = 0 then _ else _) = _
  rw [if_pos (show ([] : List (Int × Int)).length = 0 from rfl), wayB_cost]
  by_cases hf : fitsW wd 0 (V ++ [fnS s]) = true
  · rw [if_pos hf, if_pos hf]
    rfl
  · rw [if_neg hf, if_neg hf]
    rfl
theorem SubK.snoc {V S : List St} (h : SubK V S) (z : St) : SubK (V ++ [z]) (S ++ [z]) := h.append (.take z _ _ .nil)
/-- The best way: it is a way, it fits, and none is better. -/
theorem best_all (s : ByteArray) (hs : s.size ≤ 4096) (wd : Int) (hw : 2 ≤ wd ∧ wd ≤ 200) (way : List St) (x : St) (hway : wrapW s wd = way ++ [x]) :
    x = fnS s ∧ SubK way (plS s) ∧ fitsW wd 0 (way ++ [fnS s]) = true ∧ ∀ V, SubK V (plS s) → fitsW wd 0 (V ++ [fnS s]) = true →
      LEk (costW wd 0 (way ++ [fnS s])) (way ++ [fnS s]).length (costW wd 0 (V ++ [fnS s])) (V ++ [fnS s]).length ∧ (costW wd 0 (way ++ [fnS s]) = costW wd 0 (V ++ [fnS s]) ∧ ((way ++ [fnS s]).length : Int) = (V ++ [fnS s]).length → LexOk (way ++ [fnS s]) (V ++ [fnS s])) := by
  obtain ⟨hS, hl, hl1, _⟩ := wrapW_all s hs wd hw
  have hF : FitsT wd 0 (stopsW s) := fits_all (rise_of s) wd hw.1
  have hz : (fnS s).kind = 1 ∨ (fnS s).kind = 0 := .inr rfl
  obtain ⟨W, w1, w2, w3, w4⟩ := opt_paras wd ⟨by omega, by omega⟩ (stopsW s) [] [] 0 0 (fnS s) (fun z hz => by simp at hz) (fun _ => rfl) (fun _ => by rw [stopsW_eq, List.getLast?_concat]) hz ⟨by decide, by decide⟩ hS hF hl (stopsW_rise s)
  have ew : wrapW s wd = W := w1
  have eb : (bgP []).ce = 0 := rfl
  rw [eb] at w2 w4
  rw [List.nil_append, stopsW_eq] at w3 w4
  obtain ⟨V1, V2, e1, e2, e3⟩ := w3.split hz
  cases e3 with
  | nil =>
    rw [← ew, hway] at e1
    have e4 : way = V1 ∧ x = fnS s := by
      have := List.append_inj' e1 rfl
      exact ⟨this.1, by simpa using this.2⟩
    obtain ⟨rfl, rfl⟩ := e4
    rw [← ew, hway] at w2 w4
    exact ⟨rfl, e2, w2, fun V hV hf => w4 _ (hV.snoc _) hf⟩

end Go.Proofs.YtpnojhomjkopeaaDoor
