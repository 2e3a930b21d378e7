/- Several texts, one behind the other. -/
import Derived.Deep.QuietTactic
import Derived.BigQuiet
import Derived.OwnWalk
import Derived.Deep.DeepAppendRoom
import Derived.Deep.CutRange
import Derived.Test.YteignefcijmmeaaDoorG2
import Derived.Test.YteignefcijmmeaaDoorG3
import Derived.Test.YteignefcijmmeaaDoorGH
import Derived.Test.YteignefcijmmeaaDoorGL
import Derived.Test.YteignefcijmmeaaDoorRS
/- Chapter 10: the reference's ways and lines against the program's: mathematics. -/
namespace Go.Proofs.YteignefcijmmeaaDoor

/-- The stops at the n places behind k. -/
def stF (L : List Pt) : Nat → Nat → List St
  | _, 0 => []
  | k, n + 1 => (if kindL L (k + 1) = 0 then [] else [stpAt L (k + 1) (kindL L (k + 1))]) ++ stF L (k + 1) n
theorem stF_to (L : List Pt) : ∀ n k, stopsTo L (k + 1) ++ stF L k n = stopsTo L (k + n + 1)
  | 0, k => by simp [stF]
  | n + 1, k => by
    have ih := stF_to L n (k + 1)
    unfold stF
    rw [← List.append_assoc]
    have e : stopsTo L (k + 1) ++ (if kindL L (k + 1) = 0 then [] else [stpAt L (k + 1) (kindL L (k + 1))]) = stopsTo L (k + 1 + 1) := by
      show _ = stopsTo L (k + 1) ++ (if k + 1 = 0 ∨ kindL L (k + 1) = 0 then [] else [stpAt L (k + 1) (kindL L (k + 1))])
      by_cases h : kindL L (k + 1) = 0
      · rw [if_pos h, if_pos (.inr h)]
      · rw [if_neg h, if_neg (by omega)]
    rw [e, ih, show k + 1 + n + 1 = k + (n + 1) + 1 by omega]
theorem plS_stF (s : ByteArray) : plS s = stF (partsL s) 0 (clusters s).length := by
  have := stF_to (partsL s) (clusters s).length 0
  have e : stopsTo (partsL s) (0 + 1) = [] := by unfold stopsTo; rw [if_pos (.inl rfl)]; rfl
  rw [e, List.nil_append, Nat.zero_add] at this
  unfold plS
  rw [partsL_len, this]
/-- What the reference reads of breaks: at which places, and what is left over. -/
def readF (P : List Pc) : Nat → Nat → List (Int × Int) → Option (List Nat × List (Int × Int))
  | _, 0, B => some ([], B)
  | k, n + 1, [] => if kindRL P (k + 1) = 1 then none else readF P (k + 1) n []
  | k, n + 1, b :: B => if 0 < kindRL P (k + 1) ∧ b = (placeR P (k + 1), kindRL P (k + 1)) then (readF P (k + 1) n B).map (fun r => ((k + 1) :: r.1, r.2)) else if kindRL P (k + 1) = 1 then none else readF P (k + 1) n (b :: B)
theorem read_way (s : ByteArray) : ∀ (n k : Nat) (B : List (Int × Int)), k + n ≤ (clusters s).length → wayG (stF (partsL s) k n) B = (readF (piecesL s) k n B).map (fun r => (r.1.map (fun i => stpAt (partsL s) i (kindL (partsL s) i)), r.2))
  | 0, k, B, _ => by simp [stF, readF, wayG]
  | n + 1, k, B, h => by
    have ih := fun B => read_way s n (k + 1) B (by omega)
    have hk := kindL_same s (k + 1) (by omega) (by omega)
    have hp := place_same s (k + 1) (by omega) (by omega)
    have hg := kindRL_nonneg (piecesL s) (k + 1)
    unfold stF
    by_cases h0 : kindL (partsL s) (k + 1) = 0
    · rw [if_pos h0, List.nil_append, ih]
      cases B with
      | nil => rw [readF, if_neg (by omega)]
      | cons b B => rw [readF, if_neg (by omega), if_neg (by omega)]
    · rw [if_neg h0]
      show wayG (stpAt (partsL s) (k + 1) (kindL (partsL s) (k + 1)) :: stF (partsL s) (k + 1) n) B = _
      have es : (stpAt (partsL s) (k + 1) (kindL (partsL s) (k + 1))).nxt.sg = placeR (piecesL s) (k + 1) := hp
      have ek : (stpAt (partsL s) (k + 1) (kindL (partsL s) (k + 1))).kind = kindRL (piecesL s) (k + 1) := hk
      cases B with
      | nil =>
        rw [wayG, readF, ek, ih]
        by_cases h1 : kindRL (piecesL s) (k + 1) = 1
        · rw [if_pos h1, if_pos h1]; rfl
        · rw [if_neg h1, if_neg h1]
      | cons b B =>
        rw [wayG, readF, ek, es, ih, ih]
        by_cases hb : b = (placeR (piecesL s) (k + 1), kindRL (piecesL s) (k + 1))
        · rw [if_pos hb, if_pos ⟨by omega, hb⟩]
          cases readF (piecesL s) (k + 1) n B <;> simp
        · have hno : ¬ (0 < kindRL (piecesL s) (k + 1) ∧ b = (placeR (piecesL s) (k + 1), kindRL (piecesL s) (k + 1))) := fun e => hb e.2
          rw [if_neg hb, if_neg hno]
          by_cases h1 : kindRL (piecesL s) (k + 1) = 1
          · rw [if_pos h1, if_pos h1]; rfl
          · rw [if_neg h1, if_neg h1]
theorem piece_cl (s : ByteArray) (i : Nat) (h : i < (clusters s).length) : endsB ((piecesL s).getD i pc0) = decide (((partsL s).getD i pt0).cl = 1) ∧ blankB ((piecesL s).getD i pc0) = decide (((partsL s).getD i pt0).cl = 2) ∧ ((piecesL s).getD i pc0).ce = ((clusters s).getD i cl0).cells := by
  obtain ⟨c, hc⟩ : ∃ c, (clusters s)[i]? = some c := ⟨_, List.getElem?_eq_getElem h⟩
  obtain ⟨p, hp, tp, _⟩ := partsL_at s i c hc
  rw [getD_at hp, getD_at (piecesL_at s i c hc), getD_at hc, tp.1]
  refine ⟨?_, ?_, rfl⟩
  · have := cls_end (pcOf s c).r
    rw [Bool.eq_iff_iff, decide_eq_true_iff]
    exact this.symm
  · have := cls_blank (pcOf s c)
    rw [Bool.eq_iff_iff, decide_eq_true_iff]
    exact this.symm
theorem sum_ce (s : ByteArray) (fr : Nat) : ∀ n, fr + n ≤ (clusters s).length → sumR (piecesL s) fr n = ((partsL s).getD (fr + n) pt0).ce - ((partsL s).getD fr pt0).ce
  | 0, h => by
    show (0 : Int) = _
    rw [Nat.add_zero]
    omega
  | n + 1, h => by
    have ih := sum_ce s fr n (by omega)
    have hc := (piece_cl s (fr + n) (by omega)).2.2
    unfold sumR
    rw [ih, hc, show fr + (n + 1) = fr + n + 1 by omega, ce_at s (fr + n + 1) (by omega), ce_at s (fr + n) (by omega), List.take_add_one, List.getElem?_eq_getElem (show fr + n < (clusters s).length by omega), getD_at (List.getElem?_eq_getElem (show fr + n < (clusters s).length by omega))]
    show _ = cellsOf (_ ++ [_]) - _
    rw [cellsOf_snoc]
    omega
/-- A place at which a line may begin. -/
def BgOk (L : List Pt) (fr : Nat) : Prop := fr = 0 ∨ ((L.getD (fr - 1) pt0).cl = 2 → (L.getD fr pt0).cl ≠ 1 ∧ (L.getD fr pt0).cl ≠ 2 ∧ (L.getD fr pt0).cl ≠ 6)
theorem bgOk_of (L : List Pt) (fr : Nat) (h : kindL L fr ≠ 0) : BgOk L fr := .inr fun h2 => by
  refine ⟨fun e => h ?_, fun e => h ?_, fun e => h ?_⟩
  all_goals
    have e1 : (L.getD (fr - 1) pt0).cl ≠ 1 := by omega
    unfold kindL kindI
    refine (if_neg e1).trans (if_pos ?_)
  · exact .inl e
  · exact .inr (.inl e)
  · exact .inr (.inr e)
theorem strip_same (s : ByteArray) (fr : Nat) (hb : BgOk (partsL s) fr) : ∀ d, fr + d ≤ (clusters s).length → (d = 0 → fr = 0 ∨ (((partsL s).getD (fr - 1) pt0).cl ≠ 2)) → stripR (piecesL s) fr (fr + d) = stripB (partsL s) (fr + d) ∧ fr ≤ stripB (partsL s) (fr + d)
  | 0, h, h0 => by
    rw [Nat.add_zero]
    cases fr with
    | zero => exact ⟨rfl, Nat.le_refl _⟩
    | succ f =>
      have hn : ((partsL s).getD f pt0).cl ≠ 2 := by
        rcases h0 rfl with e | e
        · omega
        · exact e
      unfold stripR stripB
      rw [if_neg (by omega), if_neg hn]
      exact ⟨rfl, Nat.le_refl _⟩
  | d + 1, h, _ => by
    have hbl := (piece_cl s (fr + d) (by omega)).2.1
    rw [show fr + (d + 1) = fr + d + 1 by omega]
    unfold stripR stripB
    by_cases h2 : ((partsL s).getD (fr + d) pt0).cl = 2
    · rw [if_pos ⟨by omega, by rw [hbl]; exact decide_eq_true h2⟩, if_pos h2]
      refine strip_same s fr hb d (by omega) (fun e => ?_)
      subst e
      rcases hb with hb | hb
      · exact .inl hb
      · exact .inr fun e => (hb e).2.1 h2
    · rw [if_neg (fun e => h2 (of_decide_eq_true (hbl ▸ e.2))), if_neg h2]
      exact ⟨rfl, by omega⟩
/-- The cells of a line, as both reckon them. -/
theorem line_ce (s : ByteArray) (fr t : Nat) (k : Int) (hb : BgOk (partsL s) fr) (hft : fr ≤ t) (ht : t ≤ (clusters s).length) (hk : fr < t → (k = 1 ↔ ((partsL s).getD (t - 1) pt0).cl = 1)) (he : fr = t → k ≠ 1 ∧ (fr = 0 ∨ ((partsL s).getD (fr - 1) pt0).cl ≠ 2)) :
    lineT (piecesL s) fr t = stripB (partsL s) (stopE k t) ∧ fr ≤ stripB (partsL s) (stopE k t) ∧ sumR (piecesL s) fr (lineT (piecesL s) fr t - fr) = ((partsL s).getD (stripB (partsL s) (stopE k t)) pt0).ce - ((partsL s).getD fr pt0).ce := by
  have e1 : (if fr < t ∧ endsB ((piecesL s).getD (t - 1) pc0) = true then t - 1 else t) = stopE k t := by
    unfold stopE
    by_cases h : fr < t
    · have hen := (piece_cl s (t - 1) (by omega)).1
      by_cases h1 : k = 1
      · rw [if_pos h1, if_pos ⟨h, by rw [hen]; exact decide_eq_true ((hk h).1 h1)⟩]
      · rw [if_neg h1, if_neg (fun e => h1 ((hk h).2 (of_decide_eq_true (hen ▸ e.2))))]
    · rw [if_neg (fun e => h e.1), if_neg (he (by omega)).1]
  have hst : fr ≤ stopE k t ∧ stopE k t ≤ (clusters s).length := by
    unfold stopE
    split
    · rename_i h1
      have : fr < t := by
        by_cases h : fr = t
        · exact absurd h1 (he h).1
        · omega
      omega
    · omega
  have hss := strip_same s fr hb (stopE k t - fr) (by omega) (fun e => by
    by_cases h : fr = t
    · exact (he h).2
    · rcases hb with hb | hb
      · exact .inl hb
      · refine .inr fun h2 => ?_
        have h3 := hb h2
        have h4 : stopE k t = fr := by omega
        unfold stopE at h4
        split at h4
        · rename_i h1
          have := (hk (by omega)).1 h1
          rw [show t - 1 = fr by omega] at this
          exact h3.1 this
        · omega)
  rw [show fr + (stopE k t - fr) = stopE k t by omega] at hss
  have e2 : lineT (piecesL s) fr t = stripB (partsL s) (stopE k t) := by
    unfold lineT
    rw [e1, hss.1]
  have hle := stripB_le (partsL s) (stopE k t)
  refine ⟨e2, hss.2, ?_⟩
  rw [e2, sum_ce s fr _ (by omega), show fr + (stripB (partsL s) (stopE k t) - fr) = stripB (partsL s) (stopE k t) by omega]
end Go.Proofs.YteignefcijmmeaaDoor

/- Chapter 10: the reference's badness against the program's: mathematics. -/
namespace Go.Proofs.YteignefcijmmeaaDoor

/-- The badness of the lines that begin at fr and end at these places, and at the end. -/
def badQ (P : List Pc) (N : Nat) (wd : Int) : Nat → List Nat → Option Int
  | fr, [] => if wd < sumR P fr (lineT P fr N - fr) then none else some ((wd - sumR P fr (lineT P fr N - fr)) * (wd - sumR P fr (lineT P fr N - fr)))
  | fr, t :: ws => if wd < sumR P fr (lineT P fr t - fr) then none else (badQ P N wd t ws).map (fun r => (wd - sumR P fr (lineT P fr t - fr)) * (wd - sumR P fr (lineT P fr t - fr)) + (if kindRL P t = 3 then 1048576 else 0) + r)
theorem sbad_no (k c b wd : Int) (h : wd < c - b) : sbadI k c b wd = (0, false) := by unfold sbadI; rw [if_pos (by omega)]
theorem sbad_yes (k c b wd : Int) (h : ¬ wd < c - b) : sbadI k c b wd = ((wd - (c - b)) * (wd - (c - b)) + (if k = 3 then 1048576 else 0), true) := by unfold sbadI; rw [if_neg (by omega)]
theorem hard_cl (L : List Pt) (t : Nat) : kindL L t = 1 ↔ (L.getD (t - 1) pt0).cl = 1 := (kindI_set _ _ _).1
theorem bad_same (s : ByteArray) (wd : Int) : ∀ (n k : Nat) (B : List (Int × Int)) (ws : List Nat) (rest : List (Int × Int)) (fr : Nat), readF (piecesL s) k n B = some (ws, rest) → fr ≤ k → BgOk (partsL s) fr → (∀ j, fr < j → j ≤ k → kindL (partsL s) j ≠ 1) → k + n = (clusters s).length →
    badQ (piecesL s) (clusters s).length wd fr ws = if fitsW wd ((partsL s).getD fr pt0).ce (ws.map (fun i => stpAt (partsL s) i (kindL (partsL s) i)) ++ [fnS s]) = true then some (costW wd ((partsL s).getD fr pt0).ce (ws.map (fun i => stpAt (partsL s) i (kindL (partsL s) i)) ++ [fnS s])) else none
  | 0, k, B, ws, rest, fr, h, hfk, hb, hn, hN => by
    obtain ⟨rfl, rfl⟩ : [] = ws ∧ B = rest := by simpa [readF] using h
    rw [Nat.add_zero] at hN
    subst hN
    have hR := rise_of s
    have hln := line_ce s fr (clusters s).length 0 hb hfk (Nat.le_refl _) (fun h1 => ⟨fun e => absurd e (by decide), fun e => absurd ((hard_cl _ _).2 e) (hn _ h1 (Nat.le_refl _))⟩) (fun e => ⟨by decide, by
      rcases hb with hb | hb
      · exact .inl hb
      · refine .inr fun h2 => (hb h2).2.2 ?_
        rw [e]
        exact hR.fin⟩)
    have ef : (fnS s).fin.ce = ((partsL s).getD (stripB (partsL s) (stopE 0 (clusters s).length)) pt0).ce := by
      unfold fnS
      rw [partsL_len, Nat.add_sub_cancel]
      rfl
    rw [badQ, hln.2.2, ← ef]
    show _ = if ((sbadI (fnS s).kind (fnS s).fin.ce ((partsL s).getD fr pt0).ce wd).2 && true) = true then some ((sbadI (fnS s).kind (fnS s).fin.ce ((partsL s).getD fr pt0).ce wd).1 + 0) else none
    have hk0 : (fnS s).kind = 0 := rfl
    rw [Bool.and_true, hk0]
    by_cases hw : wd < (fnS s).fin.ce - ((partsL s).getD fr pt0).ce
    · rw [if_pos hw, sbad_no _ _ _ _ hw]
      rfl
    · rw [if_neg hw, sbad_yes _ _ _ _ hw, if_neg (show ¬ (0 : Int) = 3 by decide)]
      simp
  | n + 1, k, B, ws, rest, fr, h, hfk, hb, hn, hN => by
    have hk := kindL_same s (k + 1) (by omega) (by omega)
    have step : kindL (partsL s) (k + 1) ≠ 1 → readF (piecesL s) (k + 1) n B = some (ws, rest) → badQ (piecesL s) (clusters s).length wd fr ws = if fitsW wd ((partsL s).getD fr pt0).ce (ws.map (fun i => stpAt (partsL s) i (kindL (partsL s) i)) ++ [fnS s]) = true then some (costW wd ((partsL s).getD fr pt0).ce (ws.map (fun i => stpAt (partsL s) i (kindL (partsL s) i)) ++ [fnS s])) else none := fun h1 h2 =>
      bad_same s wd n (k + 1) B ws rest fr h2 (by omega) hb (fun j j1 j2 => by
        by_cases hj : j = k + 1
        · rw [hj]; exact h1
        · exact hn j j1 (by omega)) (by omega)
    cases B with
    | nil =>
      rw [readF] at h
      split at h
      · cases h
      · rename_i h1
        exact step (by rw [hk]; exact h1) h
    | cons b B =>
      rw [readF] at h
      split at h
      · rename_i hm
        obtain ⟨⟨ws', r'⟩, h1, h2⟩ := Option.map_eq_some_iff.1 h
        obtain ⟨rfl, rfl⟩ : (k + 1) :: ws' = ws ∧ r' = rest := by simpa using h2
        have hkn : kindL (partsL s) (k + 1) ≠ 0 := by rw [hk]; omega
        have ih := bad_same s wd n (k + 1) B ws' r' (k + 1) h1 (Nat.le_refl _) (bgOk_of _ _ hkn) (fun j a b => by omega) (by omega)
        have hln := line_ce s fr (k + 1) (kindL (partsL s) (k + 1)) hb (by omega) (by omega) (fun _ => hard_cl _ _) (fun e => by omega)
        rw [badQ, hln.2.2, ih, ← hk]
        rw [List.map_cons, List.cons_append]
        obtain ⟨X, hX⟩ : ∃ X, stpAt (partsL s) (k + 1) (kindL (partsL s) (k + 1)) = X := ⟨_, rfl⟩
        have x1 : ((partsL s).getD (stripB (partsL s) (stopE (kindL (partsL s) (k + 1)) (k + 1))) pt0).ce = X.fin.ce := by rw [← hX]; rfl
        have x2 : ((partsL s).getD (k + 1) pt0).ce = X.nxt.ce := by rw [← hX]; rfl
        have x3 : kindL (partsL s) (k + 1) = X.kind := by rw [← hX]; rfl
        rw [hX, x1, x2, x3]
        show _ = if ((sbadI X.kind X.fin.ce ((partsL s).getD fr pt0).ce wd).2 && fitsW wd X.nxt.ce (ws'.map (fun i => stpAt (partsL s) i (kindL (partsL s) i)) ++ [fnS s])) = true then some ((sbadI X.kind X.fin.ce ((partsL s).getD fr pt0).ce wd).1 + costW wd X.nxt.ce (ws'.map (fun i => stpAt (partsL s) i (kindL (partsL s) i)) ++ [fnS s])) else none
        generalize ws'.map (fun i => stpAt (partsL s) i (kindL (partsL s) i)) ++ [fnS s] = V
        by_cases hw : wd < X.fin.ce - ((partsL s).getD fr pt0).ce
        · rw [if_pos hw, sbad_no _ _ _ _ hw]
          rfl
        · rw [if_neg hw, sbad_yes _ _ _ _ hw, Bool.true_and]
          by_cases hf : fitsW wd X.nxt.ce V = true
          · rw [if_pos hf, if_pos hf]
            rfl
          · rw [if_neg hf, if_neg hf]
            rfl
      · split at h
        · cases h
        · rename_i h1
          exact step (by rw [hk]; exact h1) h
/-- What the reference's Badness tells of breaks. -/
def badP (P : List Pc) (wd : Int) (B : List (Int × Int)) : Int × Int := match readF P 0 P.length B with
  | none => (0, 1)
  | some (ws, rest) => if rest.length = 0 then (match badQ P P.length wd 0 ws with | none => (0, 35) | some r => (r, 0)) else (0, 1)
theorem badP_same (s : ByteArray) (wd : Int) (B : List (Int × Int)) : badP (piecesL s) wd B = badF wd (plS s) (fnS s) B := by
  unfold badP badF
  rw [plS_stF, read_way s _ _ B (by omega), piecesL_len]
  cases hq : readF (piecesL s) 0 (clusters s).length B with
  | none => rfl
  | some q =>
    obtain ⟨ws, rest⟩ := q
    have hb := bad_same s wd (clusters s).length 0 B ws rest 0 hq (Nat.le_refl _) (.inl rfl) (fun j a b => by omega) (by omega)
    rw [(rise_of s).ce0] at hb
    show (if rest.length = 0 then _ else _) = (if rest.length = 0 then _ else _)
    by_cases hr : rest.length = 0
    · rw [if_pos hr, if_pos hr, hb, wayB_cost]
      by_cases hf : fitsW wd 0 (ws.map (fun i => stpAt (partsL s) i (kindL (partsL s) i)) ++ [fnS s]) = true
      · rw [if_pos hf, if_pos hf]
        rfl
      · rw [if_neg hf, if_neg hf]
        rfl
    · rw [if_neg hr, if_neg hr]
end Go.Proofs.YteignefcijmmeaaDoor

/- Chapter 10: the lines of a way, the reference's against the program's: mathematics. -/
namespace Go.Proofs.YteignefcijmmeaaDoor

theorem sgs_signs (s : ByteArray) : ∀ b pos, (sgF2 s b pos).map (fun x => x.1) = (sgns s b pos).map (fun x => x.loc)
  | 0, _ => rfl
  | b + 1, pos => by
    unfold sgF2 sgns
    by_cases hp : pos < s.size
    · rw [if_pos hp, if_pos hp, List.map_cons, List.map_cons, sgs_signs s b, (sgn_dec s pos hp).1]
    · rw [if_neg hp, if_neg hp]
      rfl
theorem signs_sgs (s : ByteArray) : (signs s).length = (sgs s).length := by
  have h := congrArg List.length (sgs_signs s s.size 0)
  rw [List.length_map, List.length_map] at h
  exact h.symm
theorem spot_place (s : ByteArray) (k : Nat) (hk : k ≤ (sgs s).length) : (spotAt s k).b = (placeAt s k : Int) := by
  by_cases h : k < (sgs s).length
  · have h2 : k < (signs s).length := by rw [signs_sgs]; exact h
    rw [spotAt_b s k h2]
    have h1 := congrArg (fun l => l[k]?) (sgs_signs s s.size 0)
    simp only [List.getElem?_map] at h1
    have e1 : (sgF2 s s.size 0)[k]? = some ((sgs s).getD k (0, 0)) := getD_some (l := sgs s) h
    have e2 : (sgns s s.size 0)[k]? = some (signs s)[k] := List.getElem?_eq_getElem h2
    rw [e1, e2] at h1
    unfold placeAt
    rw [if_pos h]
    exact congrArg Int.ofNat (Option.some.inj h1).symm
  · obtain rfl : k = (sgs s).length := by omega
    rw [at_last, ← signs_sgs, ← lastS_eq, lastS_b]
theorem rclF_to (R : Nat → Int) (A : Nat → Nat) (n : Nat) : ∀ b fr, ∀ c ∈ rclF R A n b fr, ∃ k t : Nat, c.fr = (k : Int) ∧ c.to = (t : Int) ∧ c.loc + c.len = (A t : Int) ∧ k < t ∧ t ≤ n
  | 0, _, c, h => by simp [rclF] at h
  | b + 1, fr, c, h => by
    unfold rclF at h
    split at h
    · rename_i hf
      rcases List.mem_cons.1 h with rfl | h
      · exact ⟨fr, _, rfl, rfl, by simp only; omega, toF_ge R n fr n (fr + 1), toF_le R n fr n (fr + 1) hf⟩
      · exact rclF_to R A n b _ c h
    · simp at h
theorem cl_ends (s : ByteArray) (c : Cl) (h : c ∈ clusters s) : ∃ k t : Nat, c.fr = (k : Int) ∧ c.to = (t : Int) ∧ c.loc + c.len = (placeAt s t : Int) ∧ k < t ∧ t ≤ (sgs s).length := by
  rw [← rcl_clusters] at h
  exact rclF_to _ _ _ _ _ c h
theorem loc_end (s : ByteArray) (n : Nat) (hn : n ≤ (clusters s).length) : ((partsL s).getD n pt0).loc = (endG ((clusters s).take n) (0, 0, 0)).1 ∧ ((partsL s).getD n pt0).sg = (endG ((clusters s).take n) (0, 0, 0)).2.1 := by
  by_cases hl : n = (clusters s).length
  · subst hl
    rw [List.take_length]
    unfold partsL
    rw [List.getD, clsL_ge s _ _ _ _ (Nat.le_refl _)]
    unfold partsR
    rw [List.getElem?_append_right (by rw [partsG_len]; exact Nat.le_refl _), partsG_len, Nat.sub_self]
    exact ⟨rfl, rfl⟩
  · have hl2 : n < (clusters s).length := by omega
    unfold partsL
    rw [List.getD, clsL_lt s _ _ _ _ hl2]
    unfold partsR
    rw [List.getElem?_append_left (by rw [partsG_len]; exact hl2), partsG_at2 _ _ _ _ (List.getElem?_eq_getElem hl2)]
    exact ⟨rfl, rfl⟩
theorem loc_at (s : ByteArray) (n : Nat) (hn : n ≤ (clusters s).length) : ∃ k : Nat, ((partsL s).getD n pt0).sg = (k : Int) ∧ ((partsL s).getD n pt0).loc = (placeAt s k : Int) ∧ k ≤ (sgs s).length := by
  obtain ⟨h1, h2⟩ := loc_end s n hn
  rw [h1, h2]
  cases n with
  | zero => exact ⟨0, rfl, by rw [at_first]; rfl, Nat.zero_le _⟩
  | succ m =>
    obtain ⟨c, hc⟩ : ∃ c, (clusters s)[m]? = some c := ⟨_, List.getElem?_eq_getElem (by omega)⟩
    obtain ⟨k, t, e1, e2, e3, e4, e5⟩ := cl_ends s c (List.mem_of_getElem? hc)
    rw [List.take_add_one, hc]
    show ∃ k : Nat, (endG (_ ++ [c]) _).2.1 = _ ∧ (endG (_ ++ [c]) _).1 = _ ∧ _
    rw [endG_snoc]
    exact ⟨t, e2, e3, e5⟩
theorem fr_sg (s : ByteArray) (n : Nat) (hn : n < (clusters s).length) : ((piecesL s).getD n pc0).fr = ((partsL s).getD n pt0).sg := by
  obtain ⟨d, hd⟩ : ∃ d, (clusters s)[n]? = some d := ⟨_, List.getElem?_eq_getElem hn⟩
  rw [getD_at (piecesL_at s n d hd), (loc_end s n (by omega)).2]
  show d.fr = _
  cases n with
  | zero =>
    rw [← rcl_clusters] at hd
    exact rclF_head _ _ _ _ _ d hd
  | succ m =>
    obtain ⟨c, hc⟩ : ∃ c, (clusters s)[m]? = some c := ⟨_, List.getElem?_eq_getElem (by omega)⟩
    rw [endG_to s m c hc]
    exact (chain_to s m c d hc hd).symm
theorem tt_sg (s : ByteArray) (n : Nat) (hn : n < (clusters s).length) : ((piecesL s).getD n pc0).tt = ((partsL s).getD (n + 1) pt0).sg := by
  obtain ⟨d, hd⟩ : ∃ d, (clusters s)[n]? = some d := ⟨_, List.getElem?_eq_getElem hn⟩
  rw [getD_at (piecesL_at s n d hd), (loc_end s (n + 1) (by omega)).2, endG_to s n d hd]
  rfl
theorem sg_le (s : ByteArray) (n : Nat) : ∀ d, n + d ≤ (clusters s).length → ((partsL s).getD n pt0).sg ≤ ((partsL s).getD (n + d) pt0).sg
  | 0, _ => Int.le_refl _
  | d + 1, h => by
    have ih := sg_le s n d (by omega)
    have h1 := fr_sg s (n + d) (by omega)
    have h2 := tt_sg s (n + d) (by omega)
    obtain ⟨c, hc⟩ : ∃ c, (clusters s)[n + d]? = some c := ⟨_, List.getElem?_eq_getElem (by omega)⟩
    obtain ⟨k, t, e1, e2, _, e4, _⟩ := cl_ends s c (List.mem_of_getElem? hc)
    rw [getD_at (piecesL_at s _ c hc)] at h1 h2
    have h1 : c.fr = _ := h1
    have h2 : c.to = _ := h2
    rw [show n + (d + 1) = n + d + 1 by omega]
    omega
/-- The text of the line of the clusters from fr up to t. -/
def lineX (s : ByteArray) (P : List Pc) (fr t : Nat) : ByteArray := if fr < lineT P fr t then s.extract (placeAt s (P.getD fr pc0).fr.toNat) (placeAt s (P.getD (lineT P fr t - 1) pc0).tt.toNat) else ByteArray.empty
theorem line_cut (s : ByteArray) (fr e : Nat) (h : fr ≤ e) (he : e ≤ (clusters s).length) : ∃ a b : Nat, ((partsL s).getD fr pt0).loc = (a : Int) ∧ ((partsL s).getD e pt0).loc = (b : Int) ∧ a ≤ b ∧ b ≤ s.size ∧ (fr < e → ∃ A B : Nat, ((piecesL s).getD fr pc0).fr = (A : Int) ∧ ((piecesL s).getD (e - 1) pc0).tt = (B : Int) ∧ A ≤ B ∧ B ≤ (signs s).length ∧ placeAt s A = a ∧ placeAt s B = b ∧ (spotAt s A).b = (a : Int) ∧ (spotAt s B).b = (b : Int)) := by
  obtain ⟨k, k1, k2, k3⟩ := loc_at s fr (by omega)
  obtain ⟨t, t1, t2, t3⟩ := loc_at s e he
  have hm := sg_le s fr (e - fr) (by omega)
  rw [show fr + (e - fr) = e by omega, k1, t1] at hm
  have pl : ∀ d, k + d ≤ (sgs s).length → placeAt s k ≤ placeAt s (k + d) := by
    intro d
    induction d with
    | zero => intro _; exact Nat.le_refl _
    | succ d ih =>
      intro hd
      have a := ih (by omega)
      have b := (at_next s (k + d) (by omega)).2.2
      rw [show k + (d + 1) = k + d + 1 by omega, b]
      omega
  have pl2 := pl (t - k) (by omega)
  rw [show k + (t - k) = t by omega] at pl2
  refine ⟨placeAt s k, placeAt s t, k2, t2, pl2, ?_, fun hlt => ?_⟩
  · have := spotAt_lies s t (by rw [signs_sgs]; exact t3)
    obtain ⟨q, q1, q2, _⟩ := this
    rw [spot_place s t t3] at q1
    omega
  · have h2 := tt_sg s (e - 1) (by omega)
    rw [show e - 1 + 1 = e by omega] at h2
    exact ⟨k, t, by rw [fr_sg s fr (by omega), k1], by rw [h2, t1], by omega, by rw [signs_sgs]; exact t3, rfl, rfl, spot_place s k k3, spot_place s t t3⟩
theorem line_same (s : ByteArray) (fr e : Nat) (h : fr ≤ e) (he : e ≤ (clusters s).length) : (if fr < e then s.extract (placeAt s ((piecesL s).getD fr pc0).fr.toNat) (placeAt s ((piecesL s).getD (e - 1) pc0).tt.toNat) else ByteArray.empty) = s.extract ((partsL s).getD fr pt0).loc.toNat ((partsL s).getD e pt0).loc.toNat := by
  obtain ⟨a, b, h1, h2, h3, h4, h5⟩ := line_cut s fr e h he
  by_cases hlt : fr < e
  · obtain ⟨A, B, e1, e2, _, _, e3, e4, _⟩ := h5 hlt
    rw [if_pos hlt, h1, h2, e1, e2, Int.toNat_natCast, Int.toNat_natCast, e3, e4]
    rfl
  · rw [if_neg hlt]
    obtain rfl : fr = e := by omega
    rw [h1]
    simp
/-- The lines that begin at fr and end at these places, and at the end. -/
def linQ (s : ByteArray) (P : List Pc) (N : Nat) : Nat → List Nat → List ByteArray
  | fr, [] => [lineX s P fr N]
  | fr, t :: ws => lineX s P fr t :: linQ s P N t ws
theorem lin_same (s : ByteArray) : ∀ (n k : Nat) (B : List (Int × Int)) (ws : List Nat) (rest : List (Int × Int)) (fr : Nat), readF (piecesL s) k n B = some (ws, rest) → fr ≤ k → BgOk (partsL s) fr → (∀ j, fr < j → j ≤ k → kindL (partsL s) j ≠ 1) → k + n = (clusters s).length →
    linQ s (piecesL s) (clusters s).length fr ws = (linesG ((partsL s).getD fr pt0).loc ((partsL s).getD fr pt0).sg ((partsL s).getD fr pt0).ce (ws.map (fun i => stpAt (partsL s) i (kindL (partsL s) i)) ++ [fnS s])).map (lnX s)
  | 0, k, B, ws, rest, fr, h, hfk, hb, hn, hN => by
    obtain ⟨rfl, rfl⟩ : [] = ws ∧ B = rest := by simpa [readF] using h
    rw [Nat.add_zero] at hN
    subst hN
    have hR := rise_of s
    have hln := line_ce s fr (clusters s).length 0 hb hfk (Nat.le_refl _) (fun h1 => ⟨fun e => absurd e (by decide), fun e => absurd ((hard_cl _ _).2 e) (hn _ h1 (Nat.le_refl _))⟩) (fun e => ⟨by decide, by
      rcases hb with hb | hb
      · exact .inl hb
      · refine .inr fun h2 => (hb h2).2.2 ?_
        rw [e]
        exact hR.fin⟩)
    have ef : (fnS s).fin.loc = ((partsL s).getD (stripB (partsL s) (stopE 0 (clusters s).length)) pt0).loc := by
      unfold fnS
      rw [partsL_len, Nat.add_sub_cancel]
      rfl
    have hle : lineT (piecesL s) fr (clusters s).length ≤ (clusters s).length := by
      unfold lineT
      refine Nat.le_trans (stripR_le _ _ _) ?_
      split <;> omega
    show [lineX s (piecesL s) fr (clusters s).length] = [lnX s ⟨_, _, _, fnS s⟩]
    unfold lineX lnX
    rw [ef, ← hln.1]
    rw [line_same s fr _ (by rw [hln.1]; exact hln.2.1) hle]
  | n + 1, k, B, ws, rest, fr, h, hfk, hb, hn, hN => by
    have hk := kindL_same s (k + 1) (by omega) (by omega)
    have step : kindL (partsL s) (k + 1) ≠ 1 → readF (piecesL s) (k + 1) n B = some (ws, rest) → linQ s (piecesL s) (clusters s).length fr ws = (linesG ((partsL s).getD fr pt0).loc ((partsL s).getD fr pt0).sg ((partsL s).getD fr pt0).ce (ws.map (fun i => stpAt (partsL s) i (kindL (partsL s) i)) ++ [fnS s])).map (lnX s) := fun h1 h2 =>
      lin_same s n (k + 1) B ws rest fr h2 (by omega) hb (fun j j1 j2 => by
        by_cases hj : j = k + 1
        · rw [hj]; exact h1
        · exact hn j j1 (by omega)) (by omega)
    cases B with
    | nil =>
      rw [readF] at h
      split at h
      · cases h
      · rename_i h1
        exact step (by rw [hk]; exact h1) h
    | cons b B =>
      rw [readF] at h
      split at h
      · rename_i hm
        obtain ⟨⟨ws', r'⟩, h1, h2⟩ := Option.map_eq_some_iff.1 h
        obtain ⟨rfl, rfl⟩ : (k + 1) :: ws' = ws ∧ r' = rest := by simpa using h2
        have hkn : kindL (partsL s) (k + 1) ≠ 0 := by rw [hk]; omega
        have ih := lin_same s n (k + 1) B ws' r' (k + 1) h1 (Nat.le_refl _) (bgOk_of _ _ hkn) (fun j a b => by omega) (by omega)
        have hln := line_ce s fr (k + 1) (kindL (partsL s) (k + 1)) hb (by omega) (by omega) (fun _ => hard_cl _ _) (fun e => by omega)
        have hle : lineT (piecesL s) fr (k + 1) ≤ (clusters s).length := by
          unfold lineT
          refine Nat.le_trans (stripR_le _ _ _) ?_
          split <;> omega
        rw [linQ, ih, List.map_cons, List.cons_append, linesG, List.map_cons]
        congr 1
        show _ = s.extract ((partsL s).getD fr pt0).loc.toNat ((partsL s).getD (stripB (partsL s) (stopE (kindL (partsL s) (k + 1)) (k + 1))) pt0).loc.toNat
        unfold lineX
        rw [← hln.1]
        exact line_same s fr _ (by rw [hln.1]; exact hln.2.1) hle
      · split at h
        · cases h
        · rename_i h1
          exact step (by rw [hk]; exact h1) h
/-- What Lines tells: the reference's, the program's. -/
def linP (s : ByteArray) (P : List Pc) (B : List (Int × Int)) : List ByteArray × Int := match readF P 0 P.length B with
  | none => ([], 1)
  | some (ws, rest) => if rest.length = 0 then (linQ s P P.length 0 ws, 0) else ([], 1)
def linF (s : ByteArray) (S : List St) (z : St) (B : List (Int × Int)) : List ByteArray × Int := match wayG S B with
  | none => ([], 1)
  | some (way, rest) => if rest.length = 0 then ((linesG 0 0 0 (way ++ [z])).map (lnX s), 0) else ([], 1)
theorem linP_same (s : ByteArray) (B : List (Int × Int)) : linP s (piecesL s) B = linF s (plS s) (fnS s) B := by
  unfold linP linF
  rw [plS_stF, read_way s _ _ B (by omega), piecesL_len]
  cases hq : readF (piecesL s) 0 (clusters s).length B with
  | none => rfl
  | some q =>
    obtain ⟨ws, rest⟩ := q
    have hb := lin_same s (clusters s).length 0 B ws rest 0 hq (Nat.le_refl _) (.inl rfl) (fun j a b => by omega) (by omega)
    have h0 := loc_end s 0 (Nat.zero_le _)
    rw [(rise_of s).ce0, h0.1, h0.2] at hb
    show (if rest.length = 0 then _ else _) = (if rest.length = 0 then _ else _)
    by_cases hr : rest.length = 0
    · rw [if_pos hr, if_pos hr, hb]
      rfl
    · rw [if_neg hr, if_neg hr]
theorem lin_ok (s : ByteArray) : ∀ (n k : Nat) (B : List (Int × Int)) (ws : List Nat) (rest : List (Int × Int)) (fr : Nat), readF (piecesL s) k n B = some (ws, rest) → fr ≤ k → BgOk (partsL s) fr → (∀ j, fr < j → j ≤ k → kindL (partsL s) j ≠ 1) → k + n = (clusters s).length →
    ∀ p ∈ linesG ((partsL s).getD fr pt0).loc ((partsL s).getD fr pt0).sg ((partsL s).getD fr pt0).ce (ws.map (fun i => stpAt (partsL s) i (kindL (partsL s) i)) ++ [fnS s]), LnOk s p
  | 0, k, B, ws, rest, fr, h, hfk, hb, hn, hN => by
    obtain ⟨rfl, rfl⟩ : [] = ws ∧ B = rest := by simpa [readF] using h
    rw [Nat.add_zero] at hN
    subst hN
    have hR := rise_of s
    have hln := line_ce s fr (clusters s).length 0 hb hfk (Nat.le_refl _) (fun h1 => ⟨fun e => absurd e (by decide), fun e => absurd ((hard_cl _ _).2 e) (hn _ h1 (Nat.le_refl _))⟩) (fun e => ⟨by decide, by
      rcases hb with hb | hb
      · exact .inl hb
      · refine .inr fun h2 => (hb h2).2.2 ?_
        rw [e]
        exact hR.fin⟩)
    have ef : (fnS s).fin.loc = ((partsL s).getD (stripB (partsL s) (stopE 0 (clusters s).length)) pt0).loc := by
      unfold fnS
      rw [partsL_len, Nat.add_sub_cancel]
      rfl
    have hle : lineT (piecesL s) fr (clusters s).length ≤ (clusters s).length := by
      unfold lineT
      refine Nat.le_trans (stripR_le _ _ _) ?_
      split <;> omega
    intro p hp
    have hp : p ∈ [(⟨((partsL s).getD fr pt0).loc, ((partsL s).getD fr pt0).sg, ((partsL s).getD fr pt0).ce, fnS s⟩ : Ln)] := hp
    obtain rfl := List.mem_singleton.1 hp
    obtain ⟨a, b, h1, h2, h3, h4, _⟩ := line_cut s fr _ (by rw [hln.1]; exact hln.2.1) hle
    exact ⟨a, b, h1, by rw [ef, ← hln.1]; exact h2, h3, h4⟩
  | n + 1, k, B, ws, rest, fr, h, hfk, hb, hn, hN => by
    have hk := kindL_same s (k + 1) (by omega) (by omega)
    have step : kindL (partsL s) (k + 1) ≠ 1 → readF (piecesL s) (k + 1) n B = some (ws, rest) → ∀ p ∈ linesG ((partsL s).getD fr pt0).loc ((partsL s).getD fr pt0).sg ((partsL s).getD fr pt0).ce (ws.map (fun i => stpAt (partsL s) i (kindL (partsL s) i)) ++ [fnS s]), LnOk s p := fun h1 h2 =>
      lin_ok s n (k + 1) B ws rest fr h2 (by omega) hb (fun j j1 j2 => by
        by_cases hj : j = k + 1
        · rw [hj]; exact h1
        · exact hn j j1 (by omega)) (by omega)
    cases B with
    | nil =>
      rw [readF] at h
      split at h
      · cases h
      · rename_i h1
        exact step (by rw [hk]; exact h1) h
    | cons b B =>
      rw [readF] at h
      split at h
      · rename_i hm
        obtain ⟨⟨ws', r'⟩, h1, h2⟩ := Option.map_eq_some_iff.1 h
        obtain ⟨rfl, rfl⟩ : (k + 1) :: ws' = ws ∧ r' = rest := by simpa using h2
        have hkn : kindL (partsL s) (k + 1) ≠ 0 := by rw [hk]; omega
        have ih := lin_ok s n (k + 1) B ws' r' (k + 1) h1 (Nat.le_refl _) (bgOk_of _ _ hkn) (fun j a b => by omega) (by omega)
        have hln := line_ce s fr (k + 1) (kindL (partsL s) (k + 1)) hb (by omega) (by omega) (fun _ => hard_cl _ _) (fun e => by omega)
        have hle : lineT (piecesL s) fr (k + 1) ≤ (clusters s).length := by
          unfold lineT
          refine Nat.le_trans (stripR_le _ _ _) ?_
          split <;> omega
        intro p hp
        rw [List.map_cons, List.cons_append, linesG] at hp
        rcases List.mem_cons.1 hp with rfl | hp
        · obtain ⟨a, b, h1, h2, h3, h4, _⟩ := line_cut s fr _ (by rw [hln.1]; exact hln.2.1) hle
          refine ⟨a, b, h1, ?_, h3, h4⟩
          rw [hln.1] at h2
          exact h2
        · exact ih p hp
      · split at h
        · cases h
        · rename_i h1
          exact step (by rw [hk]; exact h1) h
theorem way_ok (s : ByteArray) (B : List (Int × Int)) (way : List St) (rest : List (Int × Int)) (h : wayG (plS s) B = some (way, rest)) : ∀ p ∈ linesG 0 0 0 (way ++ [fnS s]), LnOk s p := by
  rw [plS_stF, read_way s _ _ B (by omega)] at h
  obtain ⟨⟨ws, r⟩, h1, h2⟩ := Option.map_eq_some_iff.1 h
  obtain ⟨rfl, rfl⟩ : ws.map (fun i => stpAt (partsL s) i (kindL (partsL s) i)) = way ∧ r = rest := by simpa using h2
  have hb := lin_ok s (clusters s).length 0 B ws r 0 h1 (Nat.le_refl _) (.inl rfl) (fun j a b => by omega) (by omega)
  have h0 := loc_end s 0 (Nat.zero_le _)
  rw [(rise_of s).ce0, h0.1, h0.2] at hb
  exact hb
end Go.Proofs.YteignefcijmmeaaDoor

/- The parts of a text between two places, bare, are its lines (chapter 10, P1007): mathematics. -/
namespace Go.Proofs.YteignefcijmmeaaDoor

theorem extract_two (s : ByteArray) (A B : Nat) (h : A ≤ B) (hB : B ≤ s.size) : (s.extract 0 B).extract A (s.extract 0 B).size = s.extract A B := by
  have e : (s.extract 0 B).size = B := by rw [ByteArray.size_extract]; omega
  rw [e]
  apply ByteArray.ext
  simp only [ByteArray.data_extract, Array.extract_extract]
  congr 1 <;> omega
theorem extract_front (s : ByteArray) (A B n : Nat) (h : A + n ≤ B) : (s.extract A B).extract 0 n = s.extract A (A + n) := by
  apply ByteArray.ext
  simp only [ByteArray.data_extract, Array.extract_extract]
  congr 1 <;> omega
theorem lens_take (s : ByteArray) (n : Nat) : (endG ((clusters s).take n) (0, 0, 0)).1 = lensOf ((clusters s).take n) ∧ (endG ((clusters s).take n) (0, 0, 0)).2.1 = lastTo ((clusters s).take n) 0 := by
  refine ⟨?_, endG_last _ _⟩
  induction n with
  | zero => rfl
  | succ n ih =>
    by_cases h : n < (clusters s).length
    · rw [List.take_add_one, List.getElem?_eq_getElem h]
      show (endG (_ ++ [_]) _).1 = lensOf (_ ++ [_])
      rw [endG_snoc, lensOf_append]
      have := chain_at (s := s) (pre := (clusters s).take n) (c := (clusters s)[n]) (r := (clusters s).drop (n + 1)) (by rw [← List.drop_eq_getElem_cons h, List.take_append_drop])
      show (clusters s)[n].loc + (clusters s)[n].len = _ + ((clusters s)[n].len + 0)
      omega
    · rw [List.take_of_length_le (by omega)]
      rw [List.take_of_length_le (by omega)] at ih
      exact ih
theorem loc_lens (s : ByteArray) (n : Nat) (hn : n ≤ (clusters s).length) : ((partsL s).getD n pt0).loc = lensOf ((clusters s).take n) := by
  rw [(loc_end s n hn).1, (lens_take s n).1]
/-- The clusters of a part from one cluster up to another. -/
theorem cl_part (s : ByteArray) (fr t A B : Nat) (h : fr ≤ t) (hA : ((partsL s).getD fr pt0).loc = (A : Int)) (hB : ((partsL s).getD t pt0).loc = (B : Int)) (ht : t ≤ (clusters s).length) (hAB : A ≤ B) (hBs : B ≤ s.size) :
    clusters (s.extract A B) = (((clusters s).take t).drop fr).map (Cl.back A (lastTo ((clusters s).take fr) 0)) := by
  rw [loc_lens s fr (by omega)] at hA
  rw [loc_lens s t ht] at hB
  have h1 := (parts s ((clusters s).take t) ((clusters s).drop t) B (List.take_append_drop ..) hB).1
  have e1 : ((clusters s).take t).take fr = (clusters s).take fr := by rw [List.take_take]; congr 1; omega
  have h2 := (parts (s.extract 0 B) (((clusters s).take t).take fr) (((clusters s).take t).drop fr) A (by rw [List.take_append_drop, h1]) (by rw [e1]; exact hA)).2
  rw [e1, extract_two s A B hAB hBs] at h2
  exact h2
theorem ce_lens (s : ByteArray) (fr t : Nat) (h : fr ≤ t) (ht : t ≤ (clusters s).length) : cellsOf (((clusters s).take t).drop fr) = ((partsL s).getD t pt0).ce - ((partsL s).getD fr pt0).ce := by
  rw [ce_at s t ht, ce_at s fr (by omega)]
  have e1 : ((clusters s).take t).take fr = (clusters s).take fr := by rw [List.take_take]; congr 1; omega
  have h1 := cellsOf_append (((clusters s).take t).take fr) (((clusters s).take t).drop fr)
  rw [List.take_append_drop, e1] at h1
  omega
/-- The cells of a part. -/
theorem part_cells (s : ByteArray) (fr t A B : Nat) (h : fr ≤ t) (hA : ((partsL s).getD fr pt0).loc = (A : Int)) (hB : ((partsL s).getD t pt0).loc = (B : Int)) (ht : t ≤ (clusters s).length) (hAB : A ≤ B) (hBs : B ≤ s.size) :
    ofI (s.extract A B) = ((partsL s).getD t pt0).ce - ((partsL s).getD fr pt0).ce := by
  unfold ofI
  rw [cl_part s fr t A B h hA hB ht hAB hBs, cellsOf_back, ce_lens s fr t h ht]
theorem cl_dec (s : ByteArray) (c : Cl) (h : c ∈ clusters s) : ∃ a : Nat, c.loc = (a : Int) ∧ a < s.size ∧ runeAt s c.fr.toNat = (Utf8.decode s a).1 := by
  rw [← rcl_clusters] at h
  obtain ⟨k, h1, h2, h3⟩ := rclF_mem _ _ _ _ _ c h
  have := at_next s k h3
  exact ⟨placeAt s k, h2, this.1, by rw [h1, Int.toNat_natCast]; exact this.2.1⟩
/-- The first rune of a cluster is the same in a part. -/
theorem rune_part (s : ByteArray) (fr t A B K : Nat) (hA : ((partsL s).getD fr pt0).loc = (A : Int)) (hB : ((partsL s).getD t pt0).loc = (B : Int)) (ht : t ≤ (clusters s).length) (hAB : A ≤ B) (hBs : B ≤ s.size) (hK : fr + K < t) :
    runeAt (s.extract A B) (((clusters (s.extract A B)).getD K cl0).fr.toNat) = runeAt s (((clusters s).getD (fr + K) cl0).fr.toNat) := by
  have hcl := cl_part s fr t A B (by omega) hA hB ht hAB hBs
  obtain ⟨c, hc⟩ : ∃ c, (clusters s)[fr + K]? = some c := ⟨_, List.getElem?_eq_getElem (by omega)⟩
  have hk : (clusters (s.extract A B))[K]? = some (c.back A (lastTo ((clusters s).take fr) 0)) := by
    rw [hcl, List.getElem?_map, List.getElem?_drop, List.getElem?_take, if_pos hK, hc]
    rfl
  rw [getD_at hc, getD_at hk]
  obtain ⟨a, a1, a2, a3⟩ := cl_dec s c (List.mem_of_getElem? hc)
  obtain ⟨b, b1, b2, b3⟩ := cl_dec (s.extract A B) _ (List.mem_of_getElem? hk)
  have b1 : c.loc - (A : Int) = (b : Int) := b1
  obtain ⟨x, y, x1, x2, x3, x4, _⟩ := cl_rune s c (List.mem_of_getElem? hc)
  obtain ⟨k2, h1, h2, h3⟩ := rclF_mem _ _ _ _ _ c (by rw [show rclF (runeAt s) (placeAt s) (sgs s).length (sgs s).length 0 = rcl s from rfl, rcl_clusters]; exact List.mem_of_getElem? hc)
  have hend := rcl_end s c (by rw [rcl_clusters]; exact List.mem_of_getElem? hc) k2 h1 y x2
  rw [(at_next s k2 h3).2.2] at hend
  have hle : y ≤ B := by
    have h5 : (c.loc + c.len : Int) = ((partsL s).getD (fr + K + 1) pt0).loc := by
      rw [(loc_end s (fr + K + 1) (by omega)).1, List.take_add_one, hc]
      show _ = (endG (_ ++ [c]) _).1
      rw [endG_snoc]
    obtain ⟨k6, s6, l6, m6⟩ := loc_at s (fr + K + 1) (by omega)
    obtain ⟨k7, s7, l7, m7⟩ := loc_at s t ht
    have hm := sg_le s (fr + K + 1) (t - (fr + K + 1)) (by omega)
    rw [show fr + K + 1 + (t - (fr + K + 1)) = t by omega, s6, s7] at hm
    have := place_le s k6 (k7 - k6) (by omega)
    rw [show k6 + (k7 - k6) = k7 by omega] at this
    omega
  have ea : placeAt s k2 = a := by omega
  rw [ea] at hend
  rw [a3, b3]
  have hd := decode_part s A B a (by omega) (by omega) hBs (by omega)
  rw [show a - A = b by omega] at hd
  rw [hd]
theorem ten_blank : (10 : Int) ∉ clsBlank := by decide
theorem left_part (s : ByteArray) (fr t A B K : Nat) (hA : ((partsL s).getD fr pt0).loc = (A : Int)) (hB : ((partsL s).getD t pt0).loc = (B : Int)) (ht : t ≤ (clusters s).length) (hAB : A ≤ B) (hBs : B ≤ s.size) (hK : fr + K < t) :
    leftB (s.extract A B) K = (blankB ((piecesL s).getD (fr + K) pc0) || (decide (fr + K + 1 = t) && endsB ((piecesL s).getD (fr + K) pc0))) := by
  have hcl := cl_part s fr t A B (by omega) hA hB ht hAB hBs
  have hlen : (clusters (s.extract A B)).length = t - fr := by rw [hcl, List.length_map, List.length_drop, List.length_take]; omega
  unfold leftB
  rw [rune_part s fr t A B K hA hB ht hAB hBs hK, hlen]
  obtain ⟨c, hc⟩ : ∃ c, (clusters s)[fr + K]? = some c := ⟨_, List.getElem?_eq_getElem (by omega)⟩
  obtain ⟨p, hp, tp, _⟩ := partsL_at s _ c hc
  have hpc := piece_cl s (fr + K) (by omega)
  rw [hpc.1, hpc.2.1, getD_at hp, getD_at hc]
  have e1 : p.cl = classI (runeAt s c.fr.toNat) := tp.1
  rw [e1]
  have ek : decide (K + 1 = t - fr) = decide (fr + K + 1 = t) := by
    by_cases h : fr + K + 1 = t
    · rw [decide_eq_true h, decide_eq_true (by omega)]
    · rw [decide_eq_false h, decide_eq_false (by omega)]
  rw [ek]
  by_cases hr : runeAt s c.fr.toNat = 10
  · rw [hr, show classI 10 = 1 from (cls_ten 10).2 rfl, decide_eq_false ten_blank]
    rfl
  · rw [decide_eq_false (show ¬ classI (runeAt s c.fr.toNat) = 1 from fun e => hr ((cls_ten _).1 e)), beq_eq_false_iff_ne.2 hr]
    by_cases hb : runeAt s c.fr.toNat ∈ clsBlank
    · rw [decide_eq_true hb, decide_eq_true ((cls_blank2 _ hr).2 hb)]
    · rw [decide_eq_false hb, decide_eq_false (fun e => hb ((cls_blank2 _ hr).1 e))]
theorem bare_at (s : ByteArray) (fr t A B : Nat) (hA : ((partsL s).getD fr pt0).loc = (A : Int)) (hB : ((partsL s).getD t pt0).loc = (B : Int)) (ht : t ≤ (clusters s).length) (hAB : A ≤ B) (hBs : B ≤ s.size) : ∀ K, fr + K < t → bareF (s.extract A B) K = stripR (piecesL s) fr (fr + K) - fr
  | 0, _ => by
    have := stripR_le (piecesL s) fr (fr + 0)
    rw [show stripR (piecesL s) fr (fr + 0) - fr = 0 by omega]
    rfl
  | K + 1, hK => by
    have ih := bare_at s fr t A B hA hB ht hAB hBs K (by omega)
    have hl := left_part s fr t A B K hA hB ht hAB hBs (by omega)
    rw [decide_eq_false (show ¬ fr + K + 1 = t by omega), Bool.false_and, Bool.or_false] at hl
    rw [bareF, hl, show fr + (K + 1) = (fr + K) + 1 by omega, stripR]
    by_cases hb : blankB ((piecesL s).getD (fr + K) pc0) = true
    · rw [if_pos hb, if_pos ⟨by omega, hb⟩, ih]
    · rw [if_neg hb, if_neg (fun e => hb e.2)]
      omega
/-- A part, bare, is its line. -/
theorem bare_line (s : ByteArray) (fr t A B E : Nat) (h : fr ≤ t) (hA : ((partsL s).getD fr pt0).loc = (A : Int)) (hB : ((partsL s).getD t pt0).loc = (B : Int)) (ht : t ≤ (clusters s).length) (hAB : A ≤ B) (hBs : B ≤ s.size) (hle : fr ≤ lineT (piecesL s) fr t) (hE : ((partsL s).getD (lineT (piecesL s) fr t) pt0).loc = (E : Int)) :
    (s.extract A B).extract 0 (lensOf ((clusters (s.extract A B)).take (bareF (s.extract A B) (clusters (s.extract A B)).length))).toNat = s.extract A E := by
  have hcl := cl_part s fr t A B h hA hB ht hAB hBs
  have hlen : (clusters (s.extract A B)).length = t - fr := by rw [hcl, List.length_map, List.length_drop, List.length_take]; omega
  have hlt : lineT (piecesL s) fr t ≤ t := by
    unfold lineT
    refine Nat.le_trans (stripR_le _ _ _) ?_
    split <;> omega
  have hbare : bareF (s.extract A B) (t - fr) = lineT (piecesL s) fr t - fr := by
    by_cases e : fr = t
    · subst e
      rw [Nat.sub_self]
      have : lineT (piecesL s) fr fr - fr = 0 := by omega
      rw [this]
      rfl
    · obtain ⟨d, hd⟩ : ∃ d, t = fr + d + 1 := ⟨t - fr - 1, by omega⟩
      rw [show t - fr = d + 1 by omega, bareF, left_part s fr t A B d hA hB ht hAB hBs (by omega), decide_eq_true (show fr + d + 1 = t by omega), Bool.true_and, bare_at s fr t A B hA hB ht hAB hBs d (by omega)]
      unfold lineT
      rw [show t - 1 = fr + d by omega]
      by_cases he : endsB ((piecesL s).getD (fr + d) pc0) = true
      · rw [if_pos (by rw [he, Bool.or_true]), if_pos ⟨by omega, he⟩]
      · have he' : endsB ((piecesL s).getD (fr + d) pc0) = false := by simpa using he
        have e9 : stripR (piecesL s) fr t = if fr < fr + d + 1 ∧ blankB ((piecesL s).getD (fr + d) pc0) = true then stripR (piecesL s) fr (fr + d) else fr + d + 1 := by rw [hd, stripR]
        rw [he', Bool.or_false, if_neg (show ¬ (fr < t ∧ false = true) from fun x => absurd x.2 (by decide)), e9]
        by_cases hb : blankB ((piecesL s).getD (fr + d) pc0) = true
        · rw [if_pos hb, if_pos ⟨by omega, hb⟩]
        · rw [if_neg hb, if_neg (fun x => hb x.2)]
          omega
  rw [hlen, hbare]
  have e2 : lensOf ((clusters (s.extract A B)).take (lineT (piecesL s) fr t - fr)) = (E : Int) - (A : Int) := by
    obtain ⟨a2, b2, x1, x2, x3, x4, -⟩ := line_cut s fr t h ht
    obtain ⟨a3, b3, y1, y2, y3, y4, -⟩ := line_cut s (lineT (piecesL s) fr t) t hlt ht
    have hC := cl_part s fr (lineT (piecesL s) fr t) A E hle hA hE (by omega) (by
      obtain ⟨a4, b4, z1, z2, z3, -⟩ := line_cut s fr (lineT (piecesL s) fr t) hle (by omega)
      omega) (by omega)
    have hz : lensOf (clusters (s.extract A E)) = ((s.extract A E).size : Int) := (clusters_chain (s.extract A E)).2.1
    have e5 : (clusters (s.extract A B)).take (lineT (piecesL s) fr t - fr) = clusters (s.extract A E) := by
      rw [hC, hcl, ← List.map_take]
      congr 1
      rw [List.take_drop]
      congr 1
      rw [show fr + (lineT (piecesL s) fr t - fr) = lineT (piecesL s) fr t by omega, List.take_take]
      congr 1
      omega
    rw [e5, hz, ByteArray.size_extract]
    obtain ⟨a4, b4, z1, z2, z3, -⟩ := line_cut s fr (lineT (piecesL s) fr t) hle (by omega)
    omega
  obtain ⟨a4, b4, z1, z2, z3, z4, -⟩ := line_cut s fr (lineT (piecesL s) fr t) hle (by omega)
  obtain ⟨a3, b3, y1, y2, y3, y4, -⟩ := line_cut s (lineT (piecesL s) fr t) t hlt ht
  rw [e2, extract_front s A B _ (by omega)]
  congr 1
  omega
theorem stripR_ge (P : List Pc) (fr : Nat) : ∀ t, fr ≤ t → fr ≤ stripR P fr t
  | 0, h => h
  | t + 1, h => by
    unfold stripR
    split
    · rename_i hc
      exact stripR_ge P fr t (by omega)
    · exact h
theorem lineT_ge (P : List Pc) (fr t : Nat) (h : fr ≤ t) : fr ≤ lineT P fr t ∧ lineT P fr t ≤ t := by
  unfold lineT
  refine ⟨stripR_ge P fr _ (by split <;> omega), Nat.le_trans (stripR_le _ _ _) (by split <;> omega)⟩
/-- What is asked of a line of the clusters from fr up to t. -/
structure LnAll (s : ByteArray) (fr t : Nat) (a b A B : Nat) : Prop where
  sa : ((partsL s).getD fr pt0).sg = (a : Int)
  sb : ((partsL s).getD t pt0).sg = (b : Int)
  le : a ≤ b
  top : b ≤ (signs s).length
  pa : (spotAt s a).b = (A : Int)
  pb : (spotAt s b).b = (B : Int)
  ab : A ≤ B
  bs : B ≤ s.size
  bare : (s.extract A B).extract 0 (lensOf ((clusters (s.extract A B)).take (bareF (s.extract A B) (clusters (s.extract A B)).length))).toNat = lineX s (piecesL s) fr t
  cells : ofI (lineX s (piecesL s) fr t) = sumR (piecesL s) fr (lineT (piecesL s) fr t - fr)
theorem line_all (s : ByteArray) (fr t : Nat) (h : fr ≤ t) (ht : t ≤ (clusters s).length) : ∃ a b A B, LnAll s fr t a b A B := by
  obtain ⟨a, a1, a2, a3⟩ := loc_at s fr (by omega)
  obtain ⟨b, b1, b2, b3⟩ := loc_at s t ht
  obtain ⟨g1, g2⟩ := lineT_ge (piecesL s) fr t h
  obtain ⟨A, B, l1, l2, l3, l4, -⟩ := line_cut s fr t h ht
  obtain ⟨A', E, m1, m2, m3, m4, -⟩ := line_cut s fr (lineT (piecesL s) fr t) g1 (by omega)
  have eA : A' = A := by omega
  subst eA
  have hm := sg_le s fr (t - fr) (by omega)
  rw [show fr + (t - fr) = t by omega, a1, b1] at hm
  have eX : lineX s (piecesL s) fr t = s.extract A' E := by
    unfold lineX
    rw [line_same s fr _ g1 (by omega), m1, m2]
    rfl
  refine ⟨a, b, A', B, a1, b1, by omega, by rw [signs_sgs]; exact b3, by rw [spot_place s a a3, ← a2]; exact m1, by rw [spot_place s b b3, ← b2]; exact l2, l3, l4, ?_, ?_⟩
  · rw [eX]
    exact bare_line s fr t A' B E h m1 l2 ht l3 l4 g1 m2
  · rw [eX, part_cells s fr _ A' E g1 m1 m2 (by omega) m3 m4]
    have := sum_ce s fr (lineT (piecesL s) fr t - fr) (by omega)
    rw [show fr + (lineT (piecesL s) fr t - fr) = lineT (piecesL s) fr t by omega] at this
    rw [this]
theorem sg_last (s : ByteArray) : ((partsL s).getD (clusters s).length pt0).sg = ((signs s).length : Int) := by
  rw [(loc_end s _ (Nat.le_refl _)).2, List.take_length, endG_last, (clusters_chain s).2.2, signs_sgs]
  unfold sgs
  rw [sgF2_length]
  rfl
end Go.Proofs.YteignefcijmmeaaDoor

/- The reference of chapter 10: read. -/
namespace Go.Proofs.YteignefcijmmeaaDoor
open Go.RowKit Go.Shelf
attribute [local go_sem] Oper.semAt_some

theorem PcR.crow {W : World} {g : Nat} {L : List Pc} (h : PcR W g L) : CRow L ⟨g, 0, none⟩ W := by
  refine ⟨h.1, fun i p hp => ?_⟩
  obtain ⟨h1, h2, h3, h4⟩ := h.2 i p hp
  have ha : ∀ n, (⟨g, 0, none⟩ : Addr).add n = ⟨g, n, none⟩ := fun n => by
    unfold Addr.add
    split
    · rename_i h0
      rw [h0]
    · simp
  rw [ha, ha, ha, ha]
  exact ⟨h1, h2, h3, h4⟩
/-- Breaks of a row, one by one. -/
def BRq (W : World) (ob : Option Addr) (B : List (Int × Int)) : Prop := ∀ (i : Nat) (b : Int × Int), B[i]? = some b → ∃ g, ob = some ⟨g, 0, none⟩ ∧ g < W.heap.size ∧ W.cell? ⟨g, i * 2, none⟩ = some (.int .i64 b.1) ∧ W.cell? ⟨g, i * 2 + 1, none⟩ = some (.int .i64 b.2)
theorem BRq.keep {W U : World} {ob : Option Addr} {B : List (Int × Int)} (h : BRq W ob B) (b : Below W.heap.size W U) : BRq U ob B := fun i x hx => by
  obtain ⟨g, h1, h2, h3, h4⟩ := h i x hx
  exact ⟨g, h1, Nat.lt_of_lt_of_le h2 b.size, (b.cell (p := ⟨g, i * 2, none⟩) h2).trans h3, (b.cell (p := ⟨g, i * 2 + 1, none⟩) h2).trans h4⟩
def natV (l : List Nat) : List Value := l.map fun n : Nat => Value.int .i64 (n : Int)
theorem natV_snoc (l : List Nat) (n : Nat) : natV (l ++ [n]) = natV l ++ [.int .i64 (n : Int)] := by simp [natV]

set_option maxRecDepth 100000 in
set_option maxHeartbeats 1000000 in
theorem read_any (P : List Pc) (g cap : Nat) (hl0 : 1 ≤ P.length) (hl : P.length ≤ 5000) (hc : P.length ≤ cap ∧ cap ≤ maxLen) (B : List (Int × Int)) (ob : Option Addr) (cb : Nat) (hB : B.length ≤ 100000) (w : World) (hR : PcR w g P) (hBR : BRq w ob B) :
    Calls Tryd.prog 32 #[.slice (some ⟨g, 0, none⟩) P.length cap, .slice ob B.length cb] w fun e w' => (readF P 0 P.length B = none → e = .returned (.tuple #[.slice none 0 0, .bool false])) ∧ (∀ ws rest, readF P 0 P.length B = some (ws, rest) → ∃ v, e = .returned (.tuple #[v, .bool (rest.length == 0)]) ∧ w'.ownsRow w.heap.size 3 1 v ws.length (natV ws)) ∧ Below w.heap.size w w' := by
  obtain ⟨i0, hi, hz0, hz1, hz2⟩ := info_partsC infoI10
  have HK := hideW (kinds_walk P ⟨g, 0, none⟩ cap hl0 (by omega) hc w hR.crow)
  have HR := hideW hR
  have HBR := hideW hBR
  clear hR hBR
  go_enter Tryd.func32, Tryd.ntmps32
  go_wp2_with fail
  refine HK.out.mono ?_
  rintro e w1 ⟨rfl, ic1, b1⟩
  have H1 := hideW (And.intro ic1 b1)
  have hz1' := b1.size
  have hicl := ic1.lt
  clear ic1 b1 HK
  go_wp2_with fail
  go_loopw [7, 8, 9] (fun ov nv iv wq => ∃ (j : Nat) (ws : List Nat) (B0 B' : List (Int × Int)), B0 ++ B' = B ∧ nv = .int .i64 (B0.length : Nat) ∧ iv = .int .i64 ((j : Int) + 1) ∧ j ≤ P.length ∧ Hid (readF P 0 P.length B = (readF P j (P.length - j) B').map (fun r => (ws ++ r.1, r.2))) ∧ wq.ownsRow w1.heap.size 3 1 ov ws.length (natV ws) ∧ ws.length ≤ j ∧ Below w1.heap.size w1 wq) (fun _ _ iv _ => P.length + 1 - (intOf iv).toNat)
  case atStart => exact ⟨0, [], [], B, rfl, rfl, rfl, Nat.zero_le _, hideW (by simp), World.ownsRow_nil _ _ _ _, Nat.le_refl _, Below.refl _ _⟩
  case round =>
    obtain ⟨j, ws, B0, B', hBB, rfl, rfl, hj, HRd, hown, hwl, hBq⟩ := hrel
    have hz := hBq.size
    have hBl : B0.length + B'.length = B.length := by rw [← hBB]; simp
    by_cases hjP : j < P.length
    · obtain ⟨kk, hkk⟩ : ∃ kk, kindRL P (j + 1) = kk := ⟨_, rfl⟩
      have hic := (IC.keep H1.out.1 hBq).at (kindsL_at P (j + 1) (by omega) (by omega))
      rw [hkk] at hic
      have cK := hic.1
      obtain ⟨q, hq⟩ : ∃ q, j + 1 = q := ⟨_, rfl⟩
      have ejq : (j : Int) + 1 = (q : Int) := by omega
      rw [ejq]
      rw [hq] at cK
      have ql : (q : Int) ≤ (P.length : Int) := by omega
      have ql1 : (q : Int) < (P.length : Int) + 1 := by omega
      have wq : IntKind.i64.wrap ((q : Int) + 1) = (q : Int) + 1 := IntWalk.i64_in _ ⟨by omega, by omega⟩
      have HPl := hideW (fun U (b : Below wr.heap.size wr U) => kplace_any P ⟨g, 0, none⟩ cap q hc (by omega) (by omega) U ((HR.out.keep (bupW (bupW H1.out.2 hBq) b)).crow))
      obtain ⟨pl, hpl⟩ : ∃ pl, placeR P q = pl := ⟨_, rfl⟩
      rw [hpl] at HPl
      have eP : P.length - j = (P.length - q) + 1 := by omega
      have HE := hideW (And.intro hkk (And.intro hq (And.intro eP hpl)))
      clear hic hkk hq ejq eP hpl
      cases hB' : B' with
      | nil =>
        subst hB'
        have nl : ¬ (B0.length : Int) < (B.length : Int) := by simp at hBl; omega
        have nl2 : ¬ B0.length < B.length := by simp at hBl; omega
        by_cases hk1 : kk = 1
        · have hk2 : (kk == 1) = true := by simp [hk1]
          have HK1 := hideW hk1
          clear hk1
          go_wp2_with fail
          go_region
          go_wp2_with fail
          refine bodyPost_ret (v := .tuple #[.slice none 0 0, .bool false]) (by simp [results, Tryd.results32, go_sem]) rfl ?_
          have hrn : readF P 0 P.length B = none := by
            obtain ⟨e1, e2, e3, e4⟩ := HE.out
            rw [HRd.out, e3, readF, if_pos (by rw [e1]; exact HK1.out)]
            rfl
          exact ⟨fun _ => rfl, fun ws' rest h => (by rw [hrn] at h; cases h), (bupW H1.out.2 hBq).drew⟩
        · have hk2 : (kk == 1) = false := beq_eq_false_iff_ne.2 hk1
          go_wp2_with fail
          go_region
          go_wp2_with fail
          go_roundw
          case rel =>
            obtain ⟨e1, e2, e3, e4⟩ := HE.out
            refine ⟨q, ws, B0, [], hBB, rfl, rfl, by omega, hideW ?_, hown, by omega, hBq.drew⟩
            rw [HRd.out, e3, readF, if_neg (by rw [e1]; exact hk1), e2]
          case measure => simp [intOf]; omega
      | cons b Bt =>
        subst hB'
        have nl : (B0.length : Int) < (B.length : Int) := by simp at hBl; omega
        have nl2 : B0.length < B.length := by simp at hBl; omega
        have nlb : decide ((B0.length : Int) < (B.length : Int)) = true := decide_eq_true nl
        have hbg : B[B0.length]? = some b := by rw [← hBB]; simp
        obtain ⟨gb, rfl, hgb, c0, c1⟩ := (HBR.out.keep (bupW H1.out.2 hBq)) _ b hbg
        by_cases hm : 0 < kk ∧ b.1 = pl ∧ b.2 = kk
        · have g1 : (0 : Int) < kk := hm.1
          have g2 : (b.1 == pl) = true := by simp [hm.2.1]
          have g3 : (b.2 == kk) = true := by simp [hm.2.2]
          have HM := hideW hm
          clear hm hbg
          go_wp2_with fail
          go_region_held3 (fun w' => w'.cell? ⟨w.heap.size, q, none⟩ = some (.int .i64 kk) ∧ w'.cell? ⟨gb, B0.length * 2, none⟩ = some (.int .i64 b.1) ∧ w'.cell? ⟨gb, B0.length * 2 + 1, none⟩ = some (.int .i64 b.2)) (first | go_keep | assumption) (first | (go_at_call 54; (with_reducible refine Calls.mono (HPl.out _ (by first | exact (Below.refl _ _).drew | exact Below.refl _ _)) ?_); rintro e wy ⟨rfl, hwy⟩; obtain rfl := hwy.symm))
          go_wp2_with (at_builtin; refine wpList_append_own _ rfl _ _ 41 rfl w1.heap.size 3 i0 (.int .i64 0) 1 8 Tryd.underlying41 hi hz0 hz1 hz2 rfl (by decide) _ _ _ rfl ((hown.drew).alloc _) ⟨wr.heap.size, 0, none⟩ 1 1 [.int .i64 (q : Int)] rfl rfl (cell_oneT _ _ _) (fun u hu => by simp at hu; rcases hu with rfl; rfl) (by unfold maxLen; omega) (by omega) (by simp; omega) ?_; intro v' w4 hown4 hgrow4 _; have B5 := Below.grown ((hBq.drew).alloc (by show w1.heap.size ≤ wr.heap.size; omega) (.cells #[.int .i64 (q : Int)] 3)) hgrow4 (by simp; omega) (fun k e => by have := (hown.lt k e).1; omega))
          go_roundw
          case rel =>
            obtain ⟨e1, e2, e3, e4⟩ := HE.out
            refine ⟨q, ws ++ [q], B0 ++ [b], Bt, by simpa using hBB, by simp, rfl, by omega, hideW ?_, ?_, by simp; omega, B5⟩
            · rw [HRd.out, e3, readF, if_pos (by rw [e1, e2, e4]; exact ⟨HM.out.1, Prod.ext HM.out.2.1 HM.out.2.2⟩), e2]
              cases readF P q (P.length - q) Bt <;> simp
            · rw [natV_snoc, List.length_append]
              exact hown4
          case measure => simp [intOf]; omega
        · have HN := hideW hm
          by_cases hp0 : 0 < kk
          · have g1 : (0 : Int) < kk := hp0
            have g1b : decide ((0 : Int) < kk) = true := decide_eq_true hp0
            by_cases hbp : b.1 = pl
            · have g2 : (b.1 == pl) = true := by simp [hbp]
              have g3 : (b.2 == kk) = false := beq_eq_false_iff_ne.2 (fun e => hm ⟨hp0, hbp, e⟩)
              clear hm hbg hbp
              by_cases hk1 : kk = 1
              · have hk2 : (kk == 1) = true := by simp [hk1]
                have HK1 := hideW hk1
                clear hk1
                go_wp2_with fail
                go_quiet (first | (go_at_call 54; refine Calls.quiet_of_same (HPl.out _ (below_dnC (Below.refl _ _) _))))
                go_wp2_with fail
                refine bodyPost_ret (v := .tuple #[.slice none 0 0, .bool false]) (by simp [results, Tryd.results32, go_sem]) rfl ?_
                have hrn : readF P 0 P.length B = none := by
                  obtain ⟨e1, e2, e3, e4⟩ := HE.out
                  rw [HRd.out, e3, readF, if_neg (by rw [e1, e2, e4]; exact fun e => HN.out ⟨e.1, congrArg Prod.fst e.2, congrArg Prod.snd e.2⟩), if_pos (by rw [e1]; exact HK1.out)]
                  rfl
                exact ⟨fun _ => rfl, fun ws' rest h => (by rw [hrn] at h; cases h), below_dnC (bupW H1.out.2 hBq) _⟩
              · have hk2 : (kk == 1) = false := beq_eq_false_iff_ne.2 hk1
                go_wp2_with fail
                go_quiet (first | (go_at_call 54; refine Calls.quiet_of_same (HPl.out _ (below_dnC (Below.refl _ _) _))))
                go_wp2_with fail
                go_roundw
                case rel =>
                  obtain ⟨e1, e2, e3, e4⟩ := HE.out
                  refine ⟨q, ws, B0, b :: Bt, hBB, rfl, rfl, by omega, hideW ?_, hown, by omega, below_dnC hBq _⟩
                  rw [HRd.out, e3, readF, if_neg (by rw [e1, e2, e4]; exact fun e => HN.out ⟨e.1, congrArg Prod.fst e.2, congrArg Prod.snd e.2⟩), if_neg (by rw [e1]; exact hk1), e2]
                case measure => simp [intOf]; omega
            · have g2 : (b.1 == pl) = false := beq_eq_false_iff_ne.2 hbp
              clear hm hbg hbp
              by_cases hk1 : kk = 1
              · have hk2 : (kk == 1) = true := by simp [hk1]
                have HK1 := hideW hk1
                clear hk1
                go_wp2_with fail
                go_quiet (first | (go_at_call 54; refine Calls.quiet_of_same (HPl.out _ (below_dnC (Below.refl _ _) _))))
                go_wp2_with fail
                refine bodyPost_ret (v := .tuple #[.slice none 0 0, .bool false]) (by simp [results, Tryd.results32, go_sem]) rfl ?_
                have hrn : readF P 0 P.length B = none := by
                  obtain ⟨e1, e2, e3, e4⟩ := HE.out
                  rw [HRd.out, e3, readF, if_neg (by rw [e1, e2, e4]; exact fun e => HN.out ⟨e.1, congrArg Prod.fst e.2, congrArg Prod.snd e.2⟩), if_pos (by rw [e1]; exact HK1.out)]
                  rfl
                exact ⟨fun _ => rfl, fun ws' rest h => (by rw [hrn] at h; cases h), below_dnC (bupW H1.out.2 hBq) _⟩
              · have hk2 : (kk == 1) = false := beq_eq_false_iff_ne.2 hk1
                go_wp2_with fail
                go_quiet (first | (go_at_call 54; refine Calls.quiet_of_same (HPl.out _ (below_dnC (Below.refl _ _) _))))
                go_wp2_with fail
                go_roundw
                case rel =>
                  obtain ⟨e1, e2, e3, e4⟩ := HE.out
                  refine ⟨q, ws, B0, b :: Bt, hBB, rfl, rfl, by omega, hideW ?_, hown, by omega, below_dnC hBq _⟩
                  rw [HRd.out, e3, readF, if_neg (by rw [e1, e2, e4]; exact fun e => HN.out ⟨e.1, congrArg Prod.fst e.2, congrArg Prod.snd e.2⟩), if_neg (by rw [e1]; exact hk1), e2]
                case measure => simp [intOf]; omega
          · have g1b : decide ((0 : Int) < kk) = false := decide_eq_false hp0
            have hk2 : (kk == 1) = false := beq_eq_false_iff_ne.2 (by omega)
            have hk1 : ¬ kk = 1 := by omega
            clear hm hbg
            go_wp2_with fail
            go_quiet (fail)
            go_wp2_with fail
            go_roundw
            case rel =>
              obtain ⟨e1, e2, e3, e4⟩ := HE.out
              refine ⟨q, ws, B0, b :: Bt, hBB, rfl, rfl, by omega, hideW ?_, hown, by omega, below_dnC hBq _⟩
              rw [HRd.out, e3, readF, if_neg (by rw [e1, e2, e4]; exact fun e => HN.out ⟨e.1, congrArg Prod.fst e.2, congrArg Prod.snd e.2⟩), if_neg (by rw [e1]; exact hk1), e2]
            case measure => simp [intOf]; omega
    · obtain rfl : j = P.length := by omega
      have nl : ¬ (P.length : Int) + 1 ≤ (P.length : Int) := by omega
      have eN : ((B0.length : Int) == (B.length : Int)) = (B'.length == 0) := by
        by_cases h : B'.length = 0
        · rw [beq_iff_eq.2 (show (B0.length : Int) = (B.length : Int) by omega), h]
          rfl
        · rw [beq_eq_false_iff_ne.2 (show (B0.length : Int) ≠ (B.length : Int) by omega), beq_eq_false_iff_ne.2 h]
      have hw2 : readF P 0 P.length B = some (ws, B') := by rw [HRd.out, Nat.sub_self, readF]; simp
      have HW := hideW (And.intro hown (And.intro hBq hw2))
      clear hown hBq hw2
      go_wp2_with fail
      refine bodyPost_ret (v := .tuple #[u7, .bool (B'.length == 0)]) (by simp [results, Tryd.results32, go_sem]) rfl ?_
      obtain ⟨hown, hBq, hw2⟩ := HW.out
      refine ⟨fun h => (by rw [hw2] at h; cases h), fun ws' rest h => ?_, bupW H1.out.2 hBq⟩
      rw [hw2] at h
      obtain ⟨rfl, rfl⟩ : ws = ws' ∧ B' = rest := by simpa using h
      exact ⟨_, rfl, ownsRow_from hown H1.out.2.size⟩
end Go.Proofs.YteignefcijmmeaaDoor

/- The reference of chapter 10: Badness. -/
namespace Go.Proofs.YteignefcijmmeaaDoor
open Go.RowKit Go.Shelf
attribute [local go_sem] Oper.semAt_some

set_option maxRecDepth 100000 in
theorem rcheck_any (s : ByteArray) (wd : Int) (w : World) : Calls Tryd.prog 30 #[.string s, .int .i64 wd] w fun e w' => e = .returned (.int .i64 (wcheckI s.size wd)) ∧ w' = w := by
  unfold wcheckI
  by_cases h1 : wd < 2
  · rw [if_pos (.inl h1)]
    go_enter Tryd.func30, Tryd.ntmps30
    go_wp2
    go_ret
    exact ⟨rfl, rfl⟩
  · by_cases h2 : 200 < wd
    · rw [if_pos (.inr h2)]
      go_enter Tryd.func30, Tryd.ntmps30
      go_wp2
      go_ret
      exact ⟨rfl, rfl⟩
    · rw [if_neg (by omega)]
      by_cases h3 : 4096 < s.size
      · rw [if_pos h3]
        have d3 : (4096 : Int) < (s.size : Int) := by omega
        go_enter Tryd.func30, Tryd.ntmps30
        go_wp2
        go_ret
        exact ⟨rfl, rfl⟩
      · rw [if_neg h3]
        have d3 : ¬ (4096 : Int) < (s.size : Int) := by omega
        go_enter Tryd.func30, Tryd.ntmps30
        go_wp2
        go_ret
        exact ⟨rfl, rfl⟩
set_option maxRecDepth 100000 in
set_option maxHeartbeats 400000 in
theorem read_nil (oa : Option Addr) (ca : Nat) (nB : Nat) (hnB : nB ≤ 100000) (ob : Option Addr) (cb : Nat) (w : World) :
    Calls Tryd.prog 32 #[.slice oa 0 ca, .slice ob nB cb] w fun e w' => e = .returned (.tuple #[.slice none 0 0, .bool (nB == 0)]) ∧ Below w.heap.size w w' := by
  have HK := hideW (kinds_nil oa ca w)
  have eN : ((0 : Int) == (nB : Int)) = (nB == 0) := by
    by_cases h : nB = 0
    · subst h; rfl
    · rw [beq_eq_false_iff_ne.2 (show (0 : Int) ≠ (nB : Int) by omega), beq_eq_false_iff_ne.2 h]
  go_enter Tryd.func32, Tryd.ntmps32
  go_wp2_with fail
  refine HK.out.mono ?_
  rintro e w1 ⟨rfl, b1⟩
  have H1 := hideW b1
  clear b1 HK
  go_wp2_with fail
  go_loopw [7, 8, 9] (fun ov nv iv wq => ov = .slice none 0 0 ∧ nv = .int .i64 0 ∧ iv = .int .i64 1 ∧ wq = w1) (fun _ _ _ _ => 0)
  case atStart => exact ⟨rfl, rfl, rfl, rfl⟩
  case round =>
    obtain ⟨rfl, rfl, rfl, rfl⟩ := hrel
    go_wp2_with fail
    refine bodyPost_ret (v := .tuple #[.slice none 0 0, .bool (nB == 0)]) (by simp [results, Tryd.results32, go_sem]) rfl ⟨rfl, H1.out⟩
set_option maxRecDepth 100000 in
set_option maxHeartbeats 400000 in
theorem line_nil (oa : Option Addr) (ca : Nat) (w : World) :
    Calls Tryd.prog 33 #[.slice oa 0 ca, .int .i64 0, .int .i64 0] w fun e w' => e = .returned (.tuple #[.int .i64 0, .int .i64 0]) ∧ Below w.heap.size w w' := by
  go_enter Tryd.func33, Tryd.ntmps33
  go_wp2_with fail
  go_loopw [2] (fun tv wq => tv = .int .i64 0 ∧ wq = w) (fun _ _ => 0)
  case atStart => exact ⟨rfl, rfl⟩
  case round =>
    obtain ⟨rfl, rfl⟩ := hrel
    go_wp2_with fail
    go_loopw [8, 9] (fun nv iv wq => nv = .int .i64 0 ∧ iv = .int .i64 0 ∧ wq = wr) (fun _ _ _ => 0)
    case atStart => exact ⟨rfl, rfl, rfl⟩
    case round =>
      obtain ⟨rfl, rfl, rfl⟩ := hrel
      go_wp2_with fail
      refine bodyPost_ret (v := .tuple #[.int .i64 0, .int .i64 0]) (by simp [results, Tryd.results33, go_sem]) rfl ⟨rfl, Below.refl _ _⟩
theorem read_kinds (P : List Pc) : ∀ (n k : Nat) (B : List (Int × Int)) (ws : List Nat) (rest : List (Int × Int)), readF P k n B = some (ws, rest) → (∀ (i t : Nat), ws[i]? = some t → (∃ b, B[i]? = some b ∧ b.2 = kindRL P t) ∧ k < t ∧ t ≤ k + n) ∧ ws.length ≤ n
  | 0, k, B, ws, rest, h => by
    obtain ⟨rfl, rfl⟩ : [] = ws ∧ B = rest := by simpa [readF] using h
    exact ⟨fun i t ht => by simp at ht, Nat.le_refl _⟩
  | n + 1, k, [], ws, rest, h => by
    rw [readF] at h
    split at h
    · cases h
    · obtain ⟨h1, h2⟩ := read_kinds P n (k + 1) [] ws rest h
      exact ⟨fun i t ht => ⟨(h1 i t ht).1, by have := (h1 i t ht).2; omega, by have := (h1 i t ht).2; omega⟩, by omega⟩
  | n + 1, k, b :: B, ws, rest, h => by
    rw [readF] at h
    split at h
    · rename_i hm
      obtain ⟨⟨ws', r'⟩, h1, h2⟩ := Option.map_eq_some_iff.1 h
      obtain ⟨rfl, rfl⟩ : (k + 1) :: ws' = ws ∧ r' = rest := by simpa using h2
      obtain ⟨g1, g2⟩ := read_kinds P n (k + 1) B ws' r' h1
      refine ⟨fun i t ht => ?_, by simp; omega⟩
      cases i with
      | zero =>
        obtain rfl : k + 1 = t := by simpa using ht
        exact ⟨⟨b, rfl, by rw [hm.2]⟩, by omega, by omega⟩
      | succ i =>
        obtain ⟨a1, a2, a3⟩ := g1 i t (by simpa using ht)
        exact ⟨by simpa using a1, by omega, by omega⟩
    · split at h
      · cases h
      · obtain ⟨h1, h2⟩ := read_kinds P n (k + 1) (b :: B) ws rest h
        exact ⟨fun i t ht => ⟨(h1 i t ht).1, by have := (h1 i t ht).2; omega, by have := (h1 i t ht).2; omega⟩, by omega⟩
end Go.Proofs.YteignefcijmmeaaDoor

/- The reference of chapter 10: Badness, its walk. -/
namespace Go.Proofs.YteignefcijmmeaaDoor
open Go.RowKit Go.Shelf
attribute [local go_sem] Oper.semAt_some

theorem pieces_ce (s : ByteArray) : ∀ x ∈ piecesL s, 0 ≤ x.ce ∧ x.ce ≤ 2 := fun x hx => by
  unfold piecesL at hx
  obtain ⟨c, hc, rfl⟩ := List.mem_map.1 hx
  rw [rcl_clusters] at hc
  exact clusters_cells s c hc
theorem PcR.of_owns {W : World} {base g n cap : Nat} {Q : List Pc} (h : W.ownsRow base 85 4 (.slice (some ⟨g, 0, none⟩) n cap) n (flatPc Q)) (hn : n = Q.length) : PcR W g Q ∧ n ≤ cap ∧ cap ≤ maxLen := by
  rcases h.2 with ⟨e, _⟩ | ⟨g2, cap2, cur, e, hb, hg, hcn, hcm, _, h4⟩
  · simp at e
  · obtain ⟨rfl, rfl⟩ : g = g2 ∧ cap = cap2 := by simpa using e
    refine ⟨⟨(Array.getElem?_eq_some_iff.1 hg).1, fun i x hx => ?_⟩, hcn, hcm⟩
    obtain ⟨a0, a1, a2, a3⟩ := flatPc_at Q i x hx
    have hi := (List.getElem?_eq_some_iff.1 hx).1
    rw [← h4] at a0 a1 a2 a3
    rw [List.getElem?_take] at a0 a1 a2 a3
    rw [if_pos (by omega)] at a0 a1 a2 a3
    simp [World.cell?, hg] at a0 a1 a2 a3 ⊢
    exact ⟨a0, a1, a2, a3⟩
/-- A row of numbers that was made. -/
def NRow (W : World) (ov : Option Addr) (ws : List Nat) : Prop := ∀ (i t : Nat), ws[i]? = some t → ∃ g, ov = some ⟨g, 0, none⟩ ∧ g < W.heap.size ∧ W.cell? ⟨g, i, none⟩ = some (.int .i64 (t : Int))
theorem NRow.keep {W U : World} {ov : Option Addr} {ws : List Nat} (h : NRow W ov ws) (b : Below W.heap.size W U) : NRow U ov ws := fun i t ht => by
  obtain ⟨g, h1, h2, h3⟩ := h i t ht
  exact ⟨g, h1, Nat.lt_of_lt_of_le h2 b.size, (b.cell (p := ⟨g, i, none⟩) h2).trans h3⟩
theorem NRow.of_owns {W : World} {base : Nat} {v : Value} {ws : List Nat} (h : W.ownsRow base 3 1 v ws.length (natV ws)) : ∃ ov cap, v = .slice ov ws.length cap ∧ NRow W ov ws := by
  rcases h.2 with ⟨h1, h2⟩ | ⟨g, cap, cur, rfl, hb, hg, h3, h4, h5, h6⟩
  · refine ⟨none, 0, by rw [h1, h2], fun i t ht => ?_⟩
    have := (List.getElem?_eq_some_iff.1 ht).1
    omega
  · refine ⟨_, cap, rfl, fun i t ht => ⟨g, rfl, (Array.getElem?_eq_some_iff.1 hg).1, ?_⟩⟩
    have hi := (List.getElem?_eq_some_iff.1 ht).1
    have a : (natV ws)[i]? = some (.int .i64 (t : Int)) := by unfold natV; rw [List.getElem?_map, ht]; rfl
    rw [← h6, List.getElem?_take, if_pos (by omega)] at a
    simp [World.cell?, hg] at a ⊢
    exact a

set_option maxRecDepth 100000 in
set_option maxHeartbeats 1000000 in
theorem rbadness_some (s : ByteArray) (hs : s.size ≤ 4096) (hs0 : 1 ≤ (piecesL s).length) (wd : Int) (hw : 2 ≤ wd ∧ wd ≤ 200) (B : List (Int × Int)) (ob : Option Addr) (cb : Nat) (hB : B.length ≤ 100000) (w : World) (hBR : BRq w ob B) :
    Calls Tryd.prog 10 #[.string s, .int .i64 wd, .slice ob B.length cb] w fun e w' => e = .returned (.tuple #[.int .i64 (badP (piecesL s) wd B).1, .int .i64 (badP (piecesL s) wd B).2]) ∧ Below w.heap.size w w' := by
  have HC := hideW (rcheck_any s wd)
  have hck : wcheckI s.size wd = 0 := by unfold wcheckI; rw [if_neg (by omega), if_neg (by omega)]
  rw [hck] at HC
  have HP := hideW (pieces_walk s hs)
  have hce := pieces_ce s
  have hpl : (piecesL s).length ≤ 5000 := by rw [piecesL_len]; have := clusters_length s; omega
  obtain ⟨R, hR⟩ : ∃ R, badP (piecesL s) wd B = R := ⟨_, rfl⟩
  rw [hR]
  have HR := hideW hR
  have HBR := hideW hBR
  clear hR hBR
  generalize piecesL s = P at *
  obtain ⟨n1, hn1⟩ : ∃ n, P.length = n + 1 := ⟨P.length - 1, by omega⟩
  go_enter Tryd.func10, Tryd.ntmps10
  go_wp2_with fail
  refine (HC.out _).mono ?_
  rintro e w0 ⟨rfl, rfl⟩
  go_wp2_with fail
  refine (HP.out _).mono ?_
  rintro e w1 ⟨v1, rfl, o1, b1⟩
  rw [hn1] at o1
  obtain ⟨g, cap, rfl⟩ := ownsRow_succ o1
  obtain ⟨pr1, hcn, hcm⟩ := PcR.of_owns o1 hn1.symm
  have HRd := read_any P g cap hs0 hpl ⟨by omega, hcm⟩ B ob cb hB w1 pr1 (HBR.out.keep b1)
  rw [hn1] at HRd
  have HRd := hideW HRd
  have H1 := hideW (And.intro pr1 b1)
  clear o1 pr1 b1 HP HC
  go_wp2_with fail
  refine HRd.out.mono ?_
  rintro e w2 ⟨hno, hso, b2⟩
  rw [← hn1] at hno hso
  have H2 := hideW (And.intro (H1.out.1.keep b2) (And.intro (bupW H1.out.2 b2) (HBR.out.keep (bupW H1.out.2 b2))))
  clear b2 H1 HRd HBR
  cases hq : readF P 0 P.length B with
  | none =>
    obtain rfl := hno hq
    have er : R = (0, 1) := by rw [← HR.out]; unfold badP; rw [hq]
    clear hno hso hq
    subst er
    go_wp2_with fail
    refine bodyPost_ret (v := .tuple #[.int .i64 0, .int .i64 1]) (by simp [results, Tryd.results10, go_sem]) rfl ⟨rfl, H2.out.2.1⟩
  | some q =>
    obtain ⟨ws, rest⟩ := q
    obtain ⟨v3, rfl, o3⟩ := hso ws rest hq
    obtain ⟨ov, cv, rfl, nr⟩ := NRow.of_owns o3
    obtain ⟨rk, rkl⟩ := read_kinds P _ _ _ _ _ hq
    have er : R = if rest.length = 0 then (match badQ P P.length wd 0 ws with | none => ((0 : Int), (35 : Int)) | some r => (r, (0 : Int))) else ((0 : Int), (1 : Int)) := by rw [← HR.out]; unfold badP; first | (rw [hq]; done) | (rw [hq]; rfl)
    clear hno hso hq o3 HR
    by_cases hr : rest.length = 0
    · have hr1 : (rest.length == 0) = true := by simp [hr]
      rw [hr1]
      rw [if_pos hr] at er
      have HE := hideW er
      have HN := hideW nr
      have HKd := hideW rk
      clear hr hr1 er nr rk
      go_wp2_with fail
      go_loopw [12, 13, 14] (fun bv fv iv wq => ∃ (i fr : Nat) (acc : Int), bv = .int .i64 acc ∧ fv = .int .i64 (fr : Nat) ∧ iv = .int .i64 (i : Nat) ∧ 0 ≤ acc ∧ acc ≤ 2000000 * (i : Int) ∧ Below w2.heap.size w2 wq ∧ ((i ≤ ws.length ∧ fr ≤ P.length ∧ Hid (badQ P P.length wd 0 ws = (badQ P P.length wd fr (ws.drop i)).map (fun r => acc + r))) ∨ (i = ws.length + 1 ∧ Hid (badQ P P.length wd 0 ws = some acc)))) (fun _ _ iv _ => ws.length + 1 - (intOf iv).toNat)
      case atStart => exact ⟨0, 0, 0, rfl, rfl, rfl, Int.le_refl _, Int.le_refl _, Below.refl _ _, .inl ⟨Nat.zero_le _, Nat.zero_le _, hideW (by rw [List.drop_zero]; cases badQ P P.length wd 0 ws <;> simp)⟩⟩
      case round =>
        obtain ⟨i, fr, acc, rfl, rfl, rfl, ha0, ha1, hBq, hph⟩ := hrel
        rcases hph with ⟨hil, hfP, HA⟩ | ⟨rfl, HA⟩
        · have tl : (i : Int) ≤ (ws.length : Int) := by omega
          have wi : IntKind.i64.wrap ((i : Int) + 1) = (i : Int) + 1 := IntWalk.i64_in _ ⟨by omega, by omega⟩
          by_cases hil2 : i < ws.length
          · obtain ⟨t, ht⟩ : ∃ t, ws[i]? = some t := ⟨_, List.getElem?_eq_getElem hil2⟩
            obtain ⟨⟨b, hb, hbk⟩, ht0, ht1⟩ := HKd.out i t ht
            have htP : t ≤ P.length := by omega
            obtain ⟨gw, rfl, hgw, cw⟩ := (HN.out.keep hBq) i t ht
            obtain ⟨gb, rfl, hgb, c0, c1⟩ := (H2.out.2.2.keep hBq) i b hb
            have hiB : (i : Int) < (B.length : Int) := by have := (List.getElem?_eq_some_iff.1 hb).1; omega
            have tl2 : (i : Int) < (ws.length : Int) := by omega
            have HDr := hideW (drop_get ht)
            clear ht hb
            have hsb := sumR_bd P fr hce (lineT P fr t - fr)
            obtain ⟨nn, hnn⟩ : ∃ nn, sumR P fr (lineT P fr t - fr) = nn := ⟨_, rfl⟩
            have hlt : lineT P fr t ≤ 5000 := by
              unfold lineT
              refine Nat.le_trans (stripR_le _ _ _) ?_
              split <;> omega
            have HLn := hideW (fun U (hU : PcR U g P) => line_any P g cap fr t hpl (by omega) hce U hU)
            rw [hnn] at hsb HLn
            rw [hn1] at HLn
            have HNN := hideW hnn
            clear hnn
            by_cases hk3 : b.2 = 3
            · have k3 : (b.2 == 3) = true := by simp [hk3]
              have HKt : Hid ((if kindRL P t = 3 then (1048576 : Int) else 0) = 1048576) := hideW (by rw [← hbk, if_pos hk3])
              have wc : IntKind.i64.wrap (acc + 1048576) = acc + 1048576 := IntWalk.i64_in _ ⟨by omega, by omega⟩
              clear hk3 hbk
              by_cases hwn : wd < nn
              · have er : R = (0, 35) := by
                  rw [HE.out, HA.out, HDr.out, badQ, if_pos (by rw [HNN.out]; exact hwn)]
                  rfl
                subst er
                go_wp2_with fail
                refine (HLn.out _ (H2.out.1.keep hBq)).mono ?_
                rintro e w4 ⟨rfl, b4⟩
                have H4 := hideW (bupW H2.out.2.1 (bupW hBq b4))
                clear b4
                go_wp2_with fail
                refine bodyPost_ret (v := .tuple #[.int .i64 0, .int .i64 35]) (by simp [results, Tryd.results10, go_sem]) rfl ⟨rfl, H4.out⟩
              · have u1 : 0 ≤ wd - nn ∧ wd - nn ≤ 200 := by omega
                have u2 : 0 ≤ (wd - nn) * (wd - nn) ∧ (wd - nn) * (wd - nn) ≤ 40000 := by
                  have m1 := Int.mul_nonneg u1.1 u1.1
                  have m2 : (wd - nn) * (wd - nn) ≤ 200 * 200 := Int.mul_le_mul u1.2 u1.2 u1.1 (by decide)
                  omega
                have w1' : IntKind.i64.wrap (wd - nn) = wd - nn := IntWalk.i64_in _ ⟨by omega, by omega⟩
                have w2' : IntKind.i64.wrap ((wd - nn) * (wd - nn)) = (wd - nn) * (wd - nn) := IntWalk.i64_in _ ⟨by omega, by omega⟩
                have w3' : IntKind.i64.wrap (acc + 1048576 + (wd - nn) * (wd - nn)) = acc + 1048576 + (wd - nn) * (wd - nn) := IntWalk.i64_in _ ⟨by omega, by omega⟩
                have HU := hideW (And.intro u2 hwn)
                clear u1 u2
                go_wp2_with fail
                refine (HLn.out _ (H2.out.1.keep hBq)).mono ?_
                rintro e w4 ⟨rfl, b4⟩
                have H4 := hideW (bupW hBq b4)
                clear b4
                go_wp2_with fail
                go_roundw
                case rel =>
                  have u2 := HU.out.1
                  refine ⟨i + 1, t, acc + 1048576 + (wd - nn) * (wd - nn), rfl, rfl, by simp, by omega, by simp; omega, H4.out, .inl ⟨by omega, htP, hideW ?_⟩⟩
                  rw [HA.out, HDr.out, badQ, HNN.out, if_neg (by have := HU.out.2; omega), HKt.out]
                  cases badQ P P.length wd t (ws.drop (i + 1)) with
                  | none => rfl
                  | some r => simp; omega
                case measure => simp [intOf]; omega
            · have k3 : (b.2 == 3) = false := beq_eq_false_iff_ne.2 hk3
              have HKt : Hid ((if kindRL P t = 3 then (1048576 : Int) else 0) = 0) := hideW (by rw [← hbk, if_neg hk3])
              clear hk3 hbk
              by_cases hwn : wd < nn
              · have er : R = (0, 35) := by
                  rw [HE.out, HA.out, HDr.out, badQ, if_pos (by rw [HNN.out]; exact hwn)]
                  rfl
                subst er
                go_wp2_with fail
                refine (HLn.out _ (H2.out.1.keep hBq)).mono ?_
                rintro e w4 ⟨rfl, b4⟩
                have H4 := hideW (bupW H2.out.2.1 (bupW hBq b4))
                clear b4
                go_wp2_with fail
                refine bodyPost_ret (v := .tuple #[.int .i64 0, .int .i64 35]) (by simp [results, Tryd.results10, go_sem]) rfl ⟨rfl, H4.out⟩
              · have u1 : 0 ≤ wd - nn ∧ wd - nn ≤ 200 := by omega
                have u2 : 0 ≤ (wd - nn) * (wd - nn) ∧ (wd - nn) * (wd - nn) ≤ 40000 := by
                  have m1 := Int.mul_nonneg u1.1 u1.1
                  have m2 : (wd - nn) * (wd - nn) ≤ 200 * 200 := Int.mul_le_mul u1.2 u1.2 u1.1 (by decide)
                  omega
                have w1' : IntKind.i64.wrap (wd - nn) = wd - nn := IntWalk.i64_in _ ⟨by omega, by omega⟩
                have w2' : IntKind.i64.wrap ((wd - nn) * (wd - nn)) = (wd - nn) * (wd - nn) := IntWalk.i64_in _ ⟨by omega, by omega⟩
                have w3' : IntKind.i64.wrap (acc + (wd - nn) * (wd - nn)) = acc + (wd - nn) * (wd - nn) := IntWalk.i64_in _ ⟨by omega, by omega⟩
                have HU := hideW (And.intro u2 hwn)
                clear u1 u2
                go_wp2_with fail
                refine (HLn.out _ (H2.out.1.keep hBq)).mono ?_
                rintro e w4 ⟨rfl, b4⟩
                have H4 := hideW (bupW hBq b4)
                clear b4
                go_wp2_with fail
                go_roundw
                case rel =>
                  have u2 := HU.out.1
                  refine ⟨i + 1, t, acc + (wd - nn) * (wd - nn), rfl, rfl, by simp, by omega, by simp; omega, H4.out, .inl ⟨by omega, htP, hideW ?_⟩⟩
                  rw [HA.out, HDr.out, badQ, HNN.out, if_neg (by have := HU.out.2; omega), HKt.out]
                  cases badQ P P.length wd t (ws.drop (i + 1)) with
                  | none => rfl
                  | some r => simp; omega
                case measure => simp [intOf]; omega
          · obtain rfl : i = ws.length := by omega
            have tl2 : ¬ (ws.length : Int) < (ws.length : Int) := by omega
            have HDr : Hid (ws.drop ws.length = []) := hideW (by simp)
            have hsb := sumR_bd P fr hce (lineT P fr P.length - fr)
            obtain ⟨nn, hnn⟩ : ∃ nn, sumR P fr (lineT P fr P.length - fr) = nn := ⟨_, rfl⟩
            have hlt : lineT P fr P.length ≤ 5000 := by
              unfold lineT
              refine Nat.le_trans (stripR_le _ _ _) ?_
              split <;> omega
            have HLn := hideW (fun U (hU : PcR U g P) => line_any P g cap fr P.length hpl (by omega) hce U hU)
            rw [hnn] at hsb HLn
            rw [hn1] at HLn
            have HNN := hideW hnn
            clear hnn
            by_cases hwn : wd < nn
            · have er : R = (0, 35) := by
                rw [HE.out, HA.out, HDr.out, badQ, if_pos (by rw [HNN.out]; exact hwn)]
                rfl
              subst er
              go_wp2_with fail
              refine (HLn.out _ (H2.out.1.keep hBq)).mono ?_
              rintro e w4 ⟨rfl, b4⟩
              have H4 := hideW (bupW H2.out.2.1 (bupW hBq b4))
              clear b4
              go_wp2_with fail
              refine bodyPost_ret (v := .tuple #[.int .i64 0, .int .i64 35]) (by simp [results, Tryd.results10, go_sem]) rfl ⟨rfl, H4.out⟩
            · have u1 : 0 ≤ wd - nn ∧ wd - nn ≤ 200 := by omega
              have u2 : 0 ≤ (wd - nn) * (wd - nn) ∧ (wd - nn) * (wd - nn) ≤ 40000 := by
                have m1 := Int.mul_nonneg u1.1 u1.1
                have m2 : (wd - nn) * (wd - nn) ≤ 200 * 200 := Int.mul_le_mul u1.2 u1.2 u1.1 (by decide)
                omega
              have w1' : IntKind.i64.wrap (wd - nn) = wd - nn := IntWalk.i64_in _ ⟨by omega, by omega⟩
              have w2' : IntKind.i64.wrap ((wd - nn) * (wd - nn)) = (wd - nn) * (wd - nn) := IntWalk.i64_in _ ⟨by omega, by omega⟩
              have w3' : IntKind.i64.wrap (acc + (wd - nn) * (wd - nn)) = acc + (wd - nn) * (wd - nn) := IntWalk.i64_in _ ⟨by omega, by omega⟩
              have HU := hideW (And.intro u2 hwn)
              clear u1 u2
              go_wp2_with fail
              refine (HLn.out _ (H2.out.1.keep hBq)).mono ?_
              rintro e w4 ⟨rfl, b4⟩
              have H4 := hideW (bupW hBq b4)
              clear b4
              go_wp2_with fail
              go_roundw
              case rel =>
                have u2 := HU.out.1
                refine ⟨ws.length + 1, P.length, acc + (wd - nn) * (wd - nn), rfl, by rw [hn1]; simp, by simp, by omega, by simp; omega, H4.out, .inr ⟨by omega, hideW ?_⟩⟩
                rw [HA.out, HDr.out, badQ, HNN.out, if_neg (by have := HU.out.2; omega)]
                rfl
              case measure => simp [intOf]
        · have tl : ¬ ((ws.length + 1 : Nat) : Int) ≤ (ws.length : Int) := by omega
          have tl3 : ¬ (ws.length : Int) + 1 ≤ (ws.length : Int) := by omega
          have er : R = (acc, 0) := by rw [HE.out, HA.out]
          subst er
          have H4 := hideW (bupW H2.out.2.1 hBq)
          go_wp2_with fail
          refine bodyPost_ret (v := .tuple #[.int .i64 acc, .int .i64 0]) (by simp [results, Tryd.results10, go_sem]) rfl ⟨rfl, H4.out⟩
    · have hr1 : (rest.length == 0) = false := by simp [hr]
      rw [hr1]
      rw [if_neg hr] at er
      subst er
      clear hr hr1
      go_wp2_with fail
      refine bodyPost_ret (v := .tuple #[.int .i64 0, .int .i64 1]) (by simp [results, Tryd.results10, go_sem]) rfl ⟨rfl, H2.out.2.1⟩
end Go.Proofs.YteignefcijmmeaaDoor

/- Badness of every text, every width, every breaks: the program's and the reference's. -/
namespace Go.Proofs.YteignefcijmmeaaDoor
open Go.RowKit Go.Shelf
attribute [local go_sem] Oper.semAt_some

theorem slice_lenB {W : World} {base e sz n : Nat} {v : Value} {xs : List Value} (h : W.ownsRow base e sz v n xs) : ∃ oa cap, v = .slice oa n cap := by
  rcases h.2 with ⟨rfl, rfl⟩ | ⟨g, cap, cur, rfl, _⟩
  · exact ⟨none, 0, rfl⟩
  · exact ⟨_, _, rfl⟩
set_option maxRecDepth 100000 in
set_option maxHeartbeats 1000000 in
theorem rbadness_nil (s : ByteArray) (hs : s.size ≤ 4096) (hs0 : (piecesL s).length = 0) (wd : Int) (hw : 2 ≤ wd ∧ wd ≤ 200) (B : List (Int × Int)) (ob : Option Addr) (cb : Nat) (hB : B.length ≤ 100000) (w : World) :
    Calls Tryd.prog 10 #[.string s, .int .i64 wd, .slice ob B.length cb] w fun e w' => e = .returned (.tuple #[.int .i64 (badP (piecesL s) wd B).1, .int .i64 (badP (piecesL s) wd B).2]) ∧ Below w.heap.size w w' := by
  have HC := hideW (rcheck_any s wd)
  have hck : wcheckI s.size wd = 0 := by unfold wcheckI; rw [if_neg (by omega), if_neg (by omega)]
  rw [hck] at HC
  have HP := hideW (pieces_walk s hs)
  have eP : piecesL s = [] := List.eq_nil_of_length_eq_zero hs0
  have eR : badP (piecesL s) wd B = if B.length = 0 then (wd * wd, 0) else (0, 1) := by
    rw [eP]
    have e1 : sumR [] 0 (lineT [] 0 0 - 0) = 0 := rfl
    show (if B.length = 0 then (match (if wd < sumR [] 0 (lineT [] 0 0 - 0) then none else some ((wd - sumR [] 0 (lineT [] 0 0 - 0)) * (wd - sumR [] 0 (lineT [] 0 0 - 0)))) with | none => ((0 : Int), (35 : Int)) | some r => (r, 0)) else (0, 1)) = _
    rw [e1, if_neg (show ¬ wd < 0 by omega), Int.sub_zero]
  rw [eR]
  rw [eP] at HP
  obtain ⟨nB, hnB⟩ : ∃ nB, B.length = nB := ⟨_, rfl⟩
  rw [hnB] at hB ⊢
  have HRd := hideW (fun oa ca U => read_nil oa ca nB hB ob cb U)
  have HLn := hideW line_nil
  clear eR eP hs0 hnB
  by_cases h0 : nB = 0
  · rw [if_pos h0]
    have e0 : (nB == 0) = true := by simp [h0]
    rw [e0] at HRd
    have u2 : 0 ≤ wd * wd ∧ wd * wd ≤ 40000 := by
      have m1 := Int.mul_nonneg (show 0 ≤ wd by omega) (show 0 ≤ wd by omega)
      have m2 : wd * wd ≤ 200 * 200 := Int.mul_le_mul hw.2 hw.2 (by omega) (by decide)
      omega
    have w1' : IntKind.i64.wrap wd = wd := IntWalk.i64_in _ ⟨by omega, by omega⟩
    have w2' : IntKind.i64.wrap (wd * wd) = wd * wd := IntWalk.i64_in _ ⟨by omega, by omega⟩
    have hw0 : ¬ wd < 0 := by omega
    clear h0 e0
    go_enter Tryd.func10, Tryd.ntmps10
    go_wp2_with fail
    refine (HC.out _).mono ?_
    rintro e w0 ⟨rfl, rfl⟩
    go_wp2_with fail
    refine (HP.out _).mono ?_
    rintro e w1 ⟨v1, rfl, o1, b1⟩
    obtain ⟨oa, ca, rfl⟩ := slice_lenB o1
    have H1 := hideW b1
    clear o1 b1 HP HC
    rw [List.length_nil]
    go_wp2_with fail
    refine (HRd.out _ _ _).mono ?_
    rintro e w2 ⟨rfl, b2⟩
    have H2 := hideW (bupW H1.out b2)
    clear b2 H1 HRd
    go_wp2_with fail
    go_loopw [12, 13, 14] (fun bv fv iv wq => fv = .int .i64 0 ∧ Below w2.heap.size w2 wq ∧ ((iv = .int .i64 0 ∧ bv = .int .i64 0) ∨ (iv = .int .i64 1 ∧ bv = .int .i64 (wd * wd)))) (fun _ _ iv _ => 2 - (intOf iv).toNat)
    case atStart => exact ⟨rfl, Below.refl _ _, .inl ⟨rfl, rfl⟩⟩
    case round =>
      obtain ⟨rfl, hBq, hph⟩ := hrel
      rcases hph with ⟨rfl, rfl⟩ | ⟨rfl, rfl⟩
      · go_wp2_with fail
        refine (HLn.out _ _ _).mono ?_
        rintro e w4 ⟨rfl, b4⟩
        have H4 := hideW (bupW hBq b4)
        clear b4
        go_wp2_with fail
        go_roundw
        case rel => exact ⟨rfl, H4.out, .inr ⟨rfl, rfl⟩⟩
        case measure => simp [intOf]
      · have H4 := hideW (bupW H2.out hBq)
        go_wp2_with fail
        refine bodyPost_ret (v := .tuple #[.int .i64 (wd * wd), .int .i64 0]) (by simp [results, Tryd.results10, go_sem]) rfl ⟨rfl, H4.out⟩
  · rw [if_neg h0]
    have e0 : (nB == 0) = false := by simp [h0]
    rw [e0] at HRd
    go_enter Tryd.func10, Tryd.ntmps10
    go_wp2_with fail
    refine (HC.out _).mono ?_
    rintro e w0 ⟨rfl, rfl⟩
    go_wp2_with fail
    refine (HP.out _).mono ?_
    rintro e w1 ⟨v1, rfl, o1, b1⟩
    obtain ⟨oa, ca, rfl⟩ := slice_lenB o1
    have H1 := hideW b1
    clear o1 b1 HP HC
    rw [List.length_nil]
    go_wp2_with fail
    refine (HRd.out _ _ _).mono ?_
    rintro e w2 ⟨rfl, b2⟩
    have H2 := hideW (bupW H1.out b2)
    clear b2 H1 HRd
    go_wp2_with fail
    refine bodyPost_ret (v := .tuple #[.int .i64 0, .int .i64 1]) (by simp [results, Tryd.results10, go_sem]) rfl ⟨rfl, H2.out⟩
/-- What the reference's Badness tells of any breaks of any text, at any width. -/
def badA (s : ByteArray) (wd : Int) (B : List (Int × Int)) : Int × Int := if wcheckI s.size wd = 0 then badF wd (plS s) (fnS s) B else (0, wcheckI s.size wd)
theorem wcheck_ok {n : Nat} {wd : Int} (h : wcheckI n wd = 0) : (2 ≤ wd ∧ wd ≤ 200) ∧ n ≤ 4096 := by
  unfold wcheckI at h
  split at h
  · exact absurd h (by decide)
  · split at h
    · exact absurd h (by decide)
    · omega
set_option maxRecDepth 100000 in
theorem rbadness_any (s : ByteArray) (wd : Int) (B : List (Int × Int)) (ob : Option Addr) (cb : Nat) (hB : B.length ≤ 100000) (w : World) (hBR : BRq w ob B) :
    Calls Tryd.prog 10 #[.string s, .int .i64 wd, .slice ob B.length cb] w fun e w' => e = .returned (.tuple #[.int .i64 (badA s wd B).1, .int .i64 (badA s wd B).2]) ∧ Below w.heap.size w w' := by
  unfold badA
  by_cases h : wcheckI s.size wd = 0
  · rw [if_pos h, ← badP_same]
    obtain ⟨h1, h2⟩ := wcheck_ok h
    by_cases h0 : 1 ≤ (piecesL s).length
    · exact rbadness_some s h2 h0 wd h1 B ob cb hB w hBR
    · exact rbadness_nil s h2 (by omega) wd h1 B ob cb hB w
  · rw [if_neg h]
    have HC := hideW (rcheck_any s wd)
    generalize wcheckI s.size wd = E at *
    have hE : (E != 0) = true := by simp [h]
    go_enter Tryd.func10, Tryd.ntmps10
    go_wp2_with fail
    refine (HC.out _).mono ?_
    rintro e w0 ⟨rfl, rfl⟩
    go_wp2_with fail
    refine bodyPost_ret (v := .tuple #[.int .i64 0, .int .i64 E]) (by simp [results, Tryd.results10, go_sem]) rfl ⟨rfl, Below.refl _ _⟩
set_option maxRecDepth 100000 in
theorem pbadness_any (s : ByteArray) (wd : Int) (B : List (Int × Int)) (oa : Option Addr) (cpB : Nat) (hB : B.length ≤ 100000) (hcB : B.length ≤ cpB ∧ cpB ≤ maxLen) (N : Nat) (w : World) (hT : Tabs N w) (hBR : BR w oa B) :
    Calls Tryd.prog 9 #[.string s, .int .i64 wd, .slice oa B.length cpB] w fun e w' => e = .returned (.tuple #[.int .i64 (badA s wd B).1, .int .i64 (badA s wd B).2]) ∧ Below w.heap.size w w' := by
  unfold badA
  by_cases h : wcheckI s.size wd = 0
  · rw [if_pos h]
    obtain ⟨h1, h2⟩ := wcheck_ok h
    exact wbadness_any s h2 wd h1 B oa cpB hB hcB N w hT hBR
  · rw [if_neg h]
    have HC := hideW (wcheck_any s wd)
    generalize wcheckI s.size wd = E at *
    have hE : (E != 0) = true := by simp [h]
    go_enter Tryd.func9, Tryd.ntmps9
    go_wp2_with fail
    refine (HC.out _).mono ?_
    rintro e w0 ⟨rfl, rfl⟩
    go_wp2_with fail
    refine bodyPost_ret (v := .tuple #[.int .i64 0, .int .i64 E]) (by simp [results, Tryd.results9, go_sem]) rfl ⟨rfl, Below.refl _ _⟩
end Go.Proofs.YteignefcijmmeaaDoor

/- The reference of chapter 10: Lines, its walk. -/
namespace Go.Proofs.YteignefcijmmeaaDoor
open Go.RowKit Go.Shelf
attribute [local go_sem] Oper.semAt_some

theorem strV_snoc (l : List ByteArray) (x : ByteArray) : strV (l ++ [x]) = strV l ++ [.string x] := by simp [strV]
/-- What the reference's Cut tells of a line. -/
def CutOk (s : ByteArray) (P : List Pc) : Prop := ∀ fr t : Nat, fr < t → t ≤ P.length → ∃ A B : Nat, (P.getD fr pc0).fr = (A : Int) ∧ (P.getD (t - 1) pc0).tt = (B : Int) ∧ ∀ U : World, Calls Tryd.prog 36 #[.string s, .int .i64 2, .int .i64 (A : Nat), .int .i64 (B : Nat)] U fun e w' => e = .returned (.tuple #[.string (s.extract (placeAt s A) (placeAt s B)), .int .i64 0]) ∧ Below U.heap.size U w'
theorem cut_pieces (s : ByteArray) (hs : s.size ≤ 4096) : CutOk s (piecesL s) := fun fr t h1 h2 => by
  rw [piecesL_len] at h2
  obtain ⟨a, b, _, _, hab, hbs, h⟩ := line_cut s fr t (by omega) h2
  obtain ⟨A, B, e1, e2, e3, e4, e5, e6, e7, e8⟩ := h h1
  refine ⟨A, B, e1, e2, fun U => ?_⟩
  rw [e5, e6]
  exact rcutR s (by omega) A B a b e3 e4 e7 e8 hab hbs U
set_option maxRecDepth 100000 in
set_option maxHeartbeats 1000000 in
theorem rlines_some (s : ByteArray) (hs : s.size ≤ 4096) (hs0 : 1 ≤ (piecesL s).length) (B : List (Int × Int)) (ob : Option Addr) (cb : Nat) (hB : B.length ≤ 100000) (w : World) (hBR : BRq w ob B) :
    Calls Tryd.prog 14 #[.string s, .slice ob B.length cb] w fun e w' => ∃ v, e = .returned (.tuple #[v, .int .i64 (linP s (piecesL s) B).2]) ∧ w'.ownsRow w.heap.size 9 1 v (linP s (piecesL s) B).1.length (strV (linP s (piecesL s) B).1) ∧ Below w.heap.size w w' := by
  obtain ⟨i0, hi, hz0, hz1, hz2⟩ := info_partsC infoS9
  have HP := hideW (pieces_walk s hs)
  have hce := pieces_ce s
  have hpl : (piecesL s).length ≤ 5000 := by rw [piecesL_len]; have := clusters_length s; omega
  have HCt := hideW (cut_pieces s hs)
  obtain ⟨R, hR⟩ : ∃ R, linP s (piecesL s) B = R := ⟨_, rfl⟩
  rw [hR]
  have HR := hideW hR
  have HBR := hideW hBR
  have d1 : ¬ (4096 : Int) < (s.size : Int) := by omega
  clear hR hBR
  generalize piecesL s = P at *
  obtain ⟨n1, hn1⟩ : ∃ n, P.length = n + 1 := ⟨P.length - 1, by omega⟩
  go_enter Tryd.func14, Tryd.ntmps14
  go_wp2_with fail
  refine (HP.out _).mono ?_
  rintro e w1 ⟨v1, rfl, o1, b1⟩
  rw [hn1] at o1
  obtain ⟨g, cap, rfl⟩ := ownsRow_succ o1
  obtain ⟨pr1, hcn, hcm⟩ := PcR.of_owns o1 hn1.symm
  have HRd := hideW (read_any P g cap hs0 hpl ⟨by omega, hcm⟩ B ob cb hB w1 pr1 (HBR.out.keep b1))
  have H1 := hideW (And.intro pr1 b1)
  rw [← hn1]
  clear o1 pr1 b1 HP hcn hn1 n1
  go_wp2_with fail
  refine HRd.out.mono ?_
  rintro e w2 ⟨hno, hso, b2⟩
  have H2 := hideW (And.intro (H1.out.1.keep b2) (bupW H1.out.2 b2))
  clear b2 H1 HRd HBR
  cases hq : readF P 0 P.length B with
  | none =>
    obtain rfl := hno hq
    have er : R = ([], 1) := by rw [← HR.out]; unfold linP; rw [hq]
    clear hno hso hq
    subst er
    go_wp2_with fail
    refine bodyPost_ret (v := .tuple #[.slice none 0 0, .int .i64 1]) (by simp [results, Tryd.results14, go_sem]) rfl ⟨_, rfl, World.ownsRow_nil _ _ _ _, H2.out.2⟩
  | some q =>
    obtain ⟨ws, rest⟩ := q
    obtain ⟨v3, rfl, o3⟩ := hso ws rest hq
    obtain ⟨ov, cv, rfl, nr⟩ := NRow.of_owns o3
    obtain ⟨rk, rkl⟩ := read_kinds P _ _ _ _ _ hq
    have er : R = if rest.length = 0 then (linQ s P P.length 0 ws, 0) else ([], 1) := by rw [← HR.out]; unfold linP; first | (rw [hq]; done) | (rw [hq]; rfl)
    clear hno hso hq o3 HR
    by_cases hr : rest.length = 0
    · have hr1 : (rest.length == 0) = true := by simp [hr]
      rw [hr1]
      rw [if_pos hr] at er
      have HE := hideW er
      have HN := hideW nr
      have HKd := hideW rk
      clear hr hr1 er nr rk
      go_wp2_with fail
      go_loopw [9, 10, 11] (fun ouv fv iv wq => ∃ (i fr : Nat) (pre : List ByteArray), wq.ownsRow w2.heap.size 9 1 ouv pre.length (strV pre) ∧ fv = .int .i64 (fr : Nat) ∧ iv = .int .i64 (i : Nat) ∧ pre.length = i ∧ Below w2.heap.size w2 wq ∧ ((i ≤ ws.length ∧ fr ≤ P.length ∧ Hid (linQ s P P.length 0 ws = pre ++ linQ s P P.length fr (ws.drop i))) ∨ (i = ws.length + 1 ∧ Hid (linQ s P P.length 0 ws = pre)))) (fun _ _ iv _ => ws.length + 1 - (intOf iv).toNat)
      case atStart => exact ⟨0, 0, [], World.ownsRow_nil _ _ _ _, rfl, rfl, rfl, Below.refl _ _, .inl ⟨Nat.zero_le _, Nat.zero_le _, hideW (by rw [List.drop_zero]; rfl)⟩⟩
      case round =>
        obtain ⟨i, fr, pre, hown, rfl, rfl, hpi, hBq, hph⟩ := hrel
        have hwz := hBq.size
        rcases hph with ⟨hil, hfP, HA⟩ | ⟨rfl, HA⟩
        · have tl : (i : Int) ≤ (ws.length : Int) := by omega
          have wi : IntKind.i64.wrap ((i : Int) + 1) = (i : Int) + 1 := IntWalk.i64_in _ ⟨by omega, by omega⟩
          by_cases hil2 : i < ws.length
          · obtain ⟨t, ht⟩ : ∃ t, ws[i]? = some t := ⟨_, List.getElem?_eq_getElem hil2⟩
            obtain ⟨_, ht0, ht1⟩ := HKd.out i t ht
            have htP : t ≤ P.length := by omega
            obtain ⟨gw, rfl, hgw, cw⟩ := (HN.out.keep hBq) i t ht
            have tl2 : (i : Int) < (ws.length : Int) := by omega
            have HDr := hideW (drop_get ht)
            clear ht
            have hlt : lineT P fr t ≤ P.length := by
              unfold lineT
              refine Nat.le_trans (stripR_le _ _ _) ?_
              split <;> omega
            have HLn := hideW (fun U (hU : PcR U g P) => line_any P g cap fr t hpl (by omega) hce U hU)
            obtain ⟨X, hX⟩ : ∃ X, lineX s P fr t = X := ⟨_, rfl⟩
            have HX := hideW hX
            unfold lineX at hX
            obtain ⟨Z, hZ⟩ : ∃ Z, lineT P fr t = Z := ⟨_, rfl⟩
            rw [hZ] at hX hlt HLn
            obtain ⟨sm, hsm⟩ : ∃ sm, sumR P fr (Z - fr) = sm := ⟨_, rfl⟩
            rw [hsm] at HLn
            clear hZ hsm
            by_cases hfz : fr < Z
            · rw [if_pos hfz] at hX
              obtain ⟨A, Bn, eA, eB, hCt⟩ := HCt.out fr Z hfz hlt
              rw [eA, eB, Int.toNat_natCast, Int.toNat_natCast] at hX
              rw [hX] at hCt
              have HCu := hideW hCt
              obtain ⟨m, hm⟩ : ∃ m, Z = m + 1 := ⟨Z - 1, by omega⟩
              obtain ⟨xf, hxf⟩ : ∃ x, P[fr]? = some x := ⟨_, List.getElem?_eq_getElem (by omega)⟩
              obtain ⟨xm, hxm⟩ : ∃ x, P[m]? = some x := ⟨_, List.getElem?_eq_getElem (by omega)⟩
              rw [getD_at hxf] at eA
              rw [show Z - 1 = m by omega, getD_at hxm] at eB
              have HC4 := hideW (fun (U : World) (hU : PcR U g P) => (show U.cell? ⟨g, fr * 4 + 1, none⟩ = some (.int .i64 (A : Nat)) ∧ U.cell? ⟨g, m * 4 + 2, none⟩ = some (.int .i64 (Bn : Nat)) from ⟨by rw [← eA]; exact (hU.2 fr xf hxf).2.1, by rw [← eB]; exact (hU.2 m xm hxm).2.2.1⟩))
              have wt : (Z : Int) - 1 = (m : Int) := by omega
              have wm : IntKind.i64.wrap (m : Int) = (m : Int) := IntWalk.i64_in _ ⟨by omega, by omega⟩
              have ml : (m : Int) < (P.length : Int) := by omega
              have fl : (fr : Int) < (P.length : Int) := by omega
              have gz : (fr : Int) < (Z : Int) := by omega
              have nf : ∀ k : Nat, 0 ≤ (k : Int) := fun k => by omega
              have HF0 := hideW (And.intro hown hBq)
              clear hX hCt eA eB hxf hxm hm hown hBq
              go_wp2_with fail
              refine (HLn.out _ (H2.out.1.keep HF0.out.2)).mono ?_
              rintro e w4 ⟨rfl, b4⟩
              have B4 := bupW HF0.out.2 b4
              have ⟨q1, q2⟩ := HC4.out w4 (H2.out.1.keep B4)
              have hgl : g < w4.heap.size := by have := (H2.out.1.keep B4).1; exact this
              have HF4 := hideW (And.intro (ownsRow_keeps (m := 0) HF0.out.1 (Keeps.of_below b4)) B4)
              clear b4 B4 HF0
              go_wp2_with fail
              go_region_held3 (fun w' => w'.cell? ⟨g, fr * 4 + 1, none⟩ = some (.int .i64 (A : Nat)) ∧ w'.cell? ⟨g, m * 4 + 2, none⟩ = some (.int .i64 (Bn : Nat))) (first | go_keep | exact ⟨q3, q4⟩) (first | (go_at_call 36; (with_reducible refine (HCu.out _).mono ?_); rintro e w5 ⟨rfl, b5⟩; have b5 : Below w4.heap.size w4 w5 := (by first | exact ⟨b5.os, b5.tape, b5.output, b5.size, b5.block⟩ | exact b5); have B5 := bupW HF4.out.2 b5; have ⟨q3, q4⟩ := HC4.out w5 (H2.out.1.keep B5); have HF := hideW (And.intro (ownsRow_keeps (m := 0) HF4.out.1 (Keeps.of_below b5)) B5); clear b5 B5))
              go_wp2_with (at_builtin; refine wpList_append_own _ rfl _ _ 34 rfl w2.heap.size 9 i0 (.string ⟨#[]⟩) 1 16 Tryd.underlying34 hi hz0 hz1 hz2 rfl (by decide) _ _ _ rfl (HF.out.1.alloc _) ⟨w5.heap.size, 0, none⟩ 1 1 [.string X] rfl rfl (cell_oneT _ _ _) (fun u hu => by simp at hu; rcases hu with rfl; rfl) (by unfold maxLen; omega) (by omega) (by have := HF.out.2.size; simp; omega) ?_; intro v6 w6 own6 gr6 _; have B6 := Below.grown (HF.out.2.alloc HF.out.2.size (.cells #[.string X] 9)) gr6 (by have := HF.out.2.size; simp; omega) (fun k hk => by have := (HF.out.1.lt k hk).1; omega); have H6 := hideW (And.intro own6 B6); clear own6 B6 gr6)
              go_roundw
              case rel =>
                refine ⟨i + 1, t, pre ++ [X], ?_, rfl, by simp, by simp; omega, H6.out.2, .inl ⟨by omega, htP, hideW ?_⟩⟩
                · rw [strV_snoc, List.length_append]
                  exact H6.out.1
                · rw [HA.out, HDr.out, linQ, HX.out]
                  simp
              case measure => simp [intOf]; omega
            · rw [if_neg hfz] at hX
              have gz : ¬ (fr : Int) < (Z : Int) := by omega
              have HF0 := hideW (And.intro hown hBq)
              subst hX
              clear hown hBq
              go_wp2_with fail
              refine (HLn.out _ (H2.out.1.keep HF0.out.2)).mono ?_
              rintro e w5 ⟨rfl, b4⟩
              have HF := hideW (And.intro (ownsRow_keeps (m := 0) HF0.out.1 (Keeps.of_below b4)) (bupW HF0.out.2 b4))
              clear b4 HF0
              go_wp2_with (at_builtin; refine wpList_append_own _ rfl _ _ 34 rfl w2.heap.size 9 i0 (.string ⟨#[]⟩) 1 16 Tryd.underlying34 hi hz0 hz1 hz2 rfl (by decide) _ _ _ rfl (HF.out.1.alloc _) ⟨w5.heap.size, 0, none⟩ 1 1 [.string ⟨#[]⟩] rfl rfl (cell_oneT _ _ _) (fun u hu => by simp at hu; rcases hu with rfl; rfl) (by unfold maxLen; omega) (by omega) (by have := HF.out.2.size; simp; omega) ?_; intro v6 w6 own6 gr6 _; have B6 := Below.grown (HF.out.2.alloc HF.out.2.size (.cells #[.string ⟨#[]⟩] 9)) gr6 (by have := HF.out.2.size; simp; omega) (fun k hk => by have := (HF.out.1.lt k hk).1; omega); have H6 := hideW (And.intro own6 B6); clear own6 B6 gr6)
              go_roundw
              case rel =>
                refine ⟨i + 1, t, pre ++ [ByteArray.empty], ?_, rfl, by simp, by simp; omega, H6.out.2, .inl ⟨by omega, htP, hideW ?_⟩⟩
                · rw [strV_snoc, List.length_append]
                  exact H6.out.1
                · rw [HA.out, HDr.out, linQ, HX.out]
                  simp
              case measure => simp [intOf]; omega
          · obtain rfl : i = ws.length := by omega
            have tl2 : ¬ (ws.length : Int) < (ws.length : Int) := by omega
            have HDr : Hid (ws.drop ws.length = []) := hideW (by simp)
            have hlt : lineT P fr P.length ≤ P.length := by
              unfold lineT
              refine Nat.le_trans (stripR_le _ _ _) ?_
              split <;> omega
            have HLn := hideW (fun U (hU : PcR U g P) => line_any P g cap fr P.length hpl (by omega) hce U hU)
            obtain ⟨X, hX⟩ : ∃ X, lineX s P fr P.length = X := ⟨_, rfl⟩
            have HX := hideW hX
            unfold lineX at hX
            obtain ⟨Z, hZ⟩ : ∃ Z, lineT P fr P.length = Z := ⟨_, rfl⟩
            rw [hZ] at hX hlt HLn
            obtain ⟨sm, hsm⟩ : ∃ sm, sumR P fr (Z - fr) = sm := ⟨_, rfl⟩
            rw [hsm] at HLn
            clear hZ hsm
            by_cases hfz : fr < Z
            · rw [if_pos hfz] at hX
              obtain ⟨A, Bn, eA, eB, hCt⟩ := HCt.out fr Z hfz hlt
              rw [eA, eB, Int.toNat_natCast, Int.toNat_natCast] at hX
              rw [hX] at hCt
              have HCu := hideW hCt
              obtain ⟨m, hm⟩ : ∃ m, Z = m + 1 := ⟨Z - 1, by omega⟩
              obtain ⟨xf, hxf⟩ : ∃ x, P[fr]? = some x := ⟨_, List.getElem?_eq_getElem (by omega)⟩
              obtain ⟨xm, hxm⟩ : ∃ x, P[m]? = some x := ⟨_, List.getElem?_eq_getElem (by omega)⟩
              rw [getD_at hxf] at eA
              rw [show Z - 1 = m by omega, getD_at hxm] at eB
              have HC4 := hideW (fun (U : World) (hU : PcR U g P) => (show U.cell? ⟨g, fr * 4 + 1, none⟩ = some (.int .i64 (A : Nat)) ∧ U.cell? ⟨g, m * 4 + 2, none⟩ = some (.int .i64 (Bn : Nat)) from ⟨by rw [← eA]; exact (hU.2 fr xf hxf).2.1, by rw [← eB]; exact (hU.2 m xm hxm).2.2.1⟩))
              have wt : (Z : Int) - 1 = (m : Int) := by omega
              have wm : IntKind.i64.wrap (m : Int) = (m : Int) := IntWalk.i64_in _ ⟨by omega, by omega⟩
              have ml : (m : Int) < (P.length : Int) := by omega
              have fl : (fr : Int) < (P.length : Int) := by omega
              have gz : (fr : Int) < (Z : Int) := by omega
              have nf : ∀ k : Nat, 0 ≤ (k : Int) := fun k => by omega
              have HF0 := hideW (And.intro hown hBq)
              clear hX hCt eA eB hxf hxm hm hown hBq
              go_wp2_with fail
              refine (HLn.out _ (H2.out.1.keep HF0.out.2)).mono ?_
              rintro e w4 ⟨rfl, b4⟩
              have B4 := bupW HF0.out.2 b4
              have ⟨q1, q2⟩ := HC4.out w4 (H2.out.1.keep B4)
              have hgl : g < w4.heap.size := by have := (H2.out.1.keep B4).1; exact this
              have HF4 := hideW (And.intro (ownsRow_keeps (m := 0) HF0.out.1 (Keeps.of_below b4)) B4)
              clear b4 B4 HF0
              go_wp2_with fail
              go_region_held3 (fun w' => w'.cell? ⟨g, fr * 4 + 1, none⟩ = some (.int .i64 (A : Nat)) ∧ w'.cell? ⟨g, m * 4 + 2, none⟩ = some (.int .i64 (Bn : Nat))) (first | go_keep | exact ⟨q3, q4⟩) (first | (go_at_call 36; (with_reducible refine (HCu.out _).mono ?_); rintro e w5 ⟨rfl, b5⟩; have b5 : Below w4.heap.size w4 w5 := (by first | exact ⟨b5.os, b5.tape, b5.output, b5.size, b5.block⟩ | exact b5); have B5 := bupW HF4.out.2 b5; have ⟨q3, q4⟩ := HC4.out w5 (H2.out.1.keep B5); have HF := hideW (And.intro (ownsRow_keeps (m := 0) HF4.out.1 (Keeps.of_below b5)) B5); clear b5 B5))
              go_wp2_with (at_builtin; refine wpList_append_own _ rfl _ _ 34 rfl w2.heap.size 9 i0 (.string ⟨#[]⟩) 1 16 Tryd.underlying34 hi hz0 hz1 hz2 rfl (by decide) _ _ _ rfl (HF.out.1.alloc _) ⟨w5.heap.size, 0, none⟩ 1 1 [.string X] rfl rfl (cell_oneT _ _ _) (fun u hu => by simp at hu; rcases hu with rfl; rfl) (by unfold maxLen; omega) (by omega) (by have := HF.out.2.size; simp; omega) ?_; intro v6 w6 own6 gr6 _; have B6 := Below.grown (HF.out.2.alloc HF.out.2.size (.cells #[.string X] 9)) gr6 (by have := HF.out.2.size; simp; omega) (fun k hk => by have := (HF.out.1.lt k hk).1; omega); have H6 := hideW (And.intro own6 B6); clear own6 B6 gr6)
              go_roundw
              case rel =>
                refine ⟨ws.length + 1, P.length, pre ++ [X], ?_, rfl, by simp, by simp; omega, H6.out.2, .inr ⟨rfl, hideW ?_⟩⟩
                · rw [strV_snoc, List.length_append]
                  exact H6.out.1
                · rw [HA.out, HDr.out, linQ, HX.out]
              case measure => simp [intOf]
            · rw [if_neg hfz] at hX
              have gz : ¬ (fr : Int) < (Z : Int) := by omega
              have HF0 := hideW (And.intro hown hBq)
              subst hX
              clear hown hBq
              go_wp2_with fail
              refine (HLn.out _ (H2.out.1.keep HF0.out.2)).mono ?_
              rintro e w5 ⟨rfl, b4⟩
              have HF := hideW (And.intro (ownsRow_keeps (m := 0) HF0.out.1 (Keeps.of_below b4)) (bupW HF0.out.2 b4))
              clear b4 HF0
              go_wp2_with (at_builtin; refine wpList_append_own _ rfl _ _ 34 rfl w2.heap.size 9 i0 (.string ⟨#[]⟩) 1 16 Tryd.underlying34 hi hz0 hz1 hz2 rfl (by decide) _ _ _ rfl (HF.out.1.alloc _) ⟨w5.heap.size, 0, none⟩ 1 1 [.string ⟨#[]⟩] rfl rfl (cell_oneT _ _ _) (fun u hu => by simp at hu; rcases hu with rfl; rfl) (by unfold maxLen; omega) (by omega) (by have := HF.out.2.size; simp; omega) ?_; intro v6 w6 own6 gr6 _; have B6 := Below.grown (HF.out.2.alloc HF.out.2.size (.cells #[.string ⟨#[]⟩] 9)) gr6 (by have := HF.out.2.size; simp; omega) (fun k hk => by have := (HF.out.1.lt k hk).1; omega); have H6 := hideW (And.intro own6 B6); clear own6 B6 gr6)
              go_roundw
              case rel =>
                refine ⟨ws.length + 1, P.length, pre ++ [ByteArray.empty], ?_, rfl, by simp, by simp; omega, H6.out.2, .inr ⟨rfl, hideW ?_⟩⟩
                · rw [strV_snoc, List.length_append]
                  exact H6.out.1
                · rw [HA.out, HDr.out, linQ, HX.out]
              case measure => simp [intOf]
        · have tl : ¬ ((ws.length + 1 : Nat) : Int) ≤ (ws.length : Int) := by omega
          have tl3 : ¬ (ws.length : Int) + 1 ≤ (ws.length : Int) := by omega
          have er : R = (pre, 0) := by rw [HE.out, HA.out]
          subst er
          rw [hpi] at hown
          have HF := hideW (And.intro hown (bupW H2.out.2 hBq))
          have hzz := H2.out.2.size
          clear hown hBq
          go_wp2_with fail
          refine bodyPost_ret (v := .tuple #[u9, .int .i64 0]) (by simp [results, Tryd.results14, go_sem]) rfl ⟨_, rfl, ownsRow_from HF.out.1 hzz, HF.out.2⟩
    · have hr1 : (rest.length == 0) = false := by simp [hr]
      rw [hr1]
      rw [if_neg hr] at er
      subst er
      clear hr hr1
      go_wp2_with fail
      refine bodyPost_ret (v := .tuple #[.slice none 0 0, .int .i64 1]) (by simp [results, Tryd.results14, go_sem]) rfl ⟨_, rfl, World.ownsRow_nil _ _ _ _, H2.out.2⟩
end Go.Proofs.YteignefcijmmeaaDoor

/- Chapter 10: Lines of every text and all breaks, the program's and the reference's; two rows of texts compared. -/
namespace Go.Proofs.YteignefcijmmeaaDoor
open Go.RowKit Go.Shelf
attribute [local go_sem] Oper.semAt_some

theorem rowS {W : World} {base n : Nat} {v : Value} {X : List ByteArray} (h : W.ownsRow base 9 1 v n (strV X)) : ∃ oa ca, v = .slice oa n ca ∧ ∀ i x, X[i]? = some x → i < n → ∃ g, oa = some ⟨g, 0, none⟩ ∧ g < W.heap.size ∧ W.cell? ⟨g, i, none⟩ = some (.string x) := by
  rcases h.2 with ⟨rfl, rfl⟩ | ⟨g, cap, cur, rfl, hb, hg, h3, h4, h5, h6⟩
  · exact ⟨none, 0, rfl, fun i x _ hi => by omega⟩
  · refine ⟨_, cap, rfl, fun i x hx hi => ⟨g, rfl, (Array.getElem?_eq_some_iff.1 hg).1, ?_⟩⟩
    have a : (strV X)[i]? = some (.string x) := by unfold strV; rw [List.getElem?_map, hx]; rfl
    rw [← h6, List.getElem?_take, if_pos (by omega)] at a
    simp [World.cell?, hg] at a ⊢
    exact a
set_option maxRecDepth 100000 in
set_option maxHeartbeats 1000000 in
theorem texts_same (X : List ByteArray) (n b1 b2 : Nat) (v u : Value) (hX : n = X.length) (hn : n ≤ 1048580) (w : World) (hv : w.ownsRow b1 9 1 v n (strV X)) (hu : w.ownsRow b2 9 1 u n (strV X)) :
    Calls Tryd.prog 15 #[v, u] w fun e w' => e = .returned (.bool true) ∧ Below w.heap.size w w' := by
  obtain ⟨oa, ca, rfl, ha⟩ := rowS hv
  obtain ⟨ob, cb, rfl, hb⟩ := rowS hu
  have HA := hideW ha
  have HB2 := hideW hb
  have HX := hideW hX
  clear ha hb hv hu hX
  go_enter Tryd.func15, Tryd.ntmps15
  go_wp2
  go_loopw [5] (fun iv wr => ∃ k : Nat, iv = .int .i64 k ∧ k ≤ n ∧ Below w.heap.size w wr) (fun iv _ => n - (intOf iv).toNat)
  case atStart => exact ⟨0, by first | rfl | go_num, by omega, Below.refl _ _⟩
  case round =>
    obtain ⟨k, rfl, hk, hB⟩ := hrel
    have e3 : IntKind.i64.wrap ((k : Int) + 1) = ((k + 1 : Nat) : Int) := by rw [show ((k + 1 : Nat) : Int) = (k : Int) + 1 by omega]; exact IntWalk.i64_in _ ⟨by omega, by omega⟩
    by_cases hkn : k < n
    · obtain ⟨x, hx⟩ : ∃ x, X[k]? = some x := ⟨_, List.getElem?_eq_getElem (by have := HX.out; omega)⟩
      obtain ⟨g, rfl, hg, c0⟩ := HA.out k x hx hkn
      obtain ⟨g2, rfl, hg2, d0⟩ := HB2.out k x hx hkn
      have c0 := (hB.cell (p := ⟨g, k, none⟩) hg).trans c0
      have d0 := (hB.cell (p := ⟨g2, k, none⟩) hg2).trans d0
      have HB := hideW hB
      have t3 : (k : Int) < (n : Int) := by omega
      clear hB hx HA HB2
      go_wp2_with fail
      go_region_held3 (fun w' => w'.cell? ⟨g, k, none⟩ = some (.string x) ∧ w'.cell? ⟨g2, k, none⟩ = some (.string x)) (first | go_keep | assumption) (fail)
      go_wp2_with fail
      go_roundw
      case rel => exact ⟨k + 1, by first | rfl | rw [e3] | go_num, by omega, by first | exact HB.out | exact HB.out.drew⟩
      case measure => simp [intOf]; omega
    · obtain rfl : k = n := by omega
      have HB := hideW hB
      clear hB HA HB2
      go_wp2
      go_ret
      exact ⟨rfl, HB.out⟩
/-- What Lines tells of any breaks of any text. -/
def linA (s : ByteArray) (B : List (Int × Int)) : List ByteArray × Int := if 4096 < s.size then ([], 3) else linF s (plS s) (fnS s) B
set_option maxRecDepth 100000 in
set_option maxHeartbeats 1000000 in
theorem rlines_nil (s : ByteArray) (hs : s.size ≤ 4096) (hs0 : (piecesL s).length = 0) (B : List (Int × Int)) (ob : Option Addr) (cb : Nat) (hB : B.length ≤ 100000) (w : World) :
    Calls Tryd.prog 14 #[.string s, .slice ob B.length cb] w fun e w' => ∃ v, e = .returned (.tuple #[v, .int .i64 (linP s (piecesL s) B).2]) ∧ w'.ownsRow w.heap.size 9 1 v (linP s (piecesL s) B).1.length (strV (linP s (piecesL s) B).1) ∧ Below w.heap.size w w' := by
  obtain ⟨i0, hi, hz0, hz1, hz2⟩ := info_partsC infoS9
  have HP := hideW (pieces_walk s hs)
  have eP : piecesL s = [] := List.eq_nil_of_length_eq_zero hs0
  have eR : linP s (piecesL s) B = if B.length = 0 then ([ByteArray.empty], 0) else ([], 1) := by
    rw [eP]
    rfl
  rw [eR]
  rw [eP] at HP
  obtain ⟨nB, hnB⟩ : ∃ nB, B.length = nB := ⟨_, rfl⟩
  rw [hnB] at hB ⊢
  have HRd := hideW (fun oa ca U => read_nil oa ca nB hB ob cb U)
  have HLn := hideW line_nil
  have d1 : ¬ (4096 : Int) < (s.size : Int) := by omega
  clear eR eP hs0 hnB
  by_cases h0 : nB = 0
  · rw [if_pos h0]
    have e0 : (nB == 0) = true := by simp [h0]
    rw [e0] at HRd
    clear h0 e0
    go_enter Tryd.func14, Tryd.ntmps14
    go_wp2_with fail
    refine (HP.out _).mono ?_
    rintro e w1 ⟨v1, rfl, o1, b1⟩
    obtain ⟨oa, ca, rfl⟩ := slice_lenB o1
    have H1 := hideW b1
    clear o1 b1 HP
    rw [List.length_nil]
    go_wp2_with fail
    refine (HRd.out _ _ _).mono ?_
    rintro e w2 ⟨rfl, b2⟩
    have H2 := hideW (bupW H1.out b2)
    clear b2 H1 HRd
    go_wp2_with fail
    go_loopw [9, 10, 11] (fun ouv fv iv wq => fv = .int .i64 0 ∧ Below w2.heap.size w2 wq ∧ ((iv = .int .i64 0 ∧ ouv = .slice none 0 0) ∨ (iv = .int .i64 1 ∧ wq.ownsRow w2.heap.size 9 1 ouv 1 (strV [ByteArray.empty])))) (fun _ _ iv _ => 2 - (intOf iv).toNat)
    case atStart => exact ⟨rfl, Below.refl _ _, .inl ⟨rfl, rfl⟩⟩
    case round =>
      obtain ⟨rfl, hBq, hph⟩ := hrel
      rcases hph with ⟨rfl, rfl⟩ | ⟨rfl, hown⟩
      · go_wp2_with fail
        refine (HLn.out _ _ _).mono ?_
        rintro e w5 ⟨rfl, b4⟩
        have HF := hideW (bupW hBq b4)
        clear b4
        go_wp2_with (at_builtin; refine wpList_append_own _ rfl _ _ 34 rfl w2.heap.size 9 i0 (.string ⟨#[]⟩) 1 16 Tryd.underlying34 hi hz0 hz1 hz2 rfl (by decide) _ 0 [] rfl (World.ownsRow_nil _ _ _ _) ⟨w5.heap.size, 0, none⟩ 1 1 [.string ⟨#[]⟩] rfl rfl (cell_oneT _ _ _) (fun u hu => by simp at hu; rcases hu with rfl; rfl) (by unfold maxLen; omega) (by omega) (by have := HF.out.size; simp; omega) ?_; intro v6 w6 own6 gr6 _; have B6 := Below.grown (HF.out.alloc HF.out.size (.cells #[.string ⟨#[]⟩] 9)) gr6 (by have := HF.out.size; simp; omega) (fun k hk => by cases hk); have H6 := hideW (And.intro own6 B6); clear own6 B6 gr6)
        go_roundw
        case rel => exact ⟨rfl, H6.out.2, .inr ⟨rfl, H6.out.1⟩⟩
        case measure => simp [intOf]
      · have HF := hideW (And.intro hown (bupW H2.out hBq))
        have hzz := H2.out.size
        clear hown hBq
        go_wp2_with fail
        refine bodyPost_ret (v := .tuple #[u9, .int .i64 0]) (by simp [results, Tryd.results14, go_sem]) rfl ⟨_, rfl, ownsRow_from HF.out.1 hzz, HF.out.2⟩
  · rw [if_neg h0]
    have e0 : (nB == 0) = false := by simp [h0]
    rw [e0] at HRd
    go_enter Tryd.func14, Tryd.ntmps14
    go_wp2_with fail
    refine (HP.out _).mono ?_
    rintro e w1 ⟨v1, rfl, o1, b1⟩
    obtain ⟨oa, ca, rfl⟩ := slice_lenB o1
    have H1 := hideW b1
    clear o1 b1 HP
    rw [List.length_nil]
    go_wp2_with fail
    refine (HRd.out _ _ _).mono ?_
    rintro e w2 ⟨rfl, b2⟩
    have H2 := hideW (bupW H1.out b2)
    clear b2 H1 HRd
    go_wp2_with fail
    refine bodyPost_ret (v := .tuple #[.slice none 0 0, .int .i64 1]) (by simp [results, Tryd.results14, go_sem]) rfl ⟨_, rfl, World.ownsRow_nil _ _ _ _, H2.out⟩
set_option maxRecDepth 100000 in
theorem rlines_any (s : ByteArray) (B : List (Int × Int)) (ob : Option Addr) (cb : Nat) (hB : B.length ≤ 100000) (w : World) (hBR : BRq w ob B) :
    Calls Tryd.prog 14 #[.string s, .slice ob B.length cb] w fun e w' => ∃ v, e = .returned (.tuple #[v, .int .i64 (linA s B).2]) ∧ w'.ownsRow w.heap.size 9 1 v (linA s B).1.length (strV (linA s B).1) ∧ Below w.heap.size w w' := by
  unfold linA
  by_cases h : 4096 < s.size
  · rw [if_pos h]
    have d1 : (4096 : Int) < (s.size : Int) := by omega
    go_enter Tryd.func14, Tryd.ntmps14
    go_wp2_with fail
    refine bodyPost_ret (v := .tuple #[.slice none 0 0, .int .i64 3]) (by simp [results, Tryd.results14, go_sem]) rfl ⟨_, rfl, World.ownsRow_nil _ _ _ _, Below.refl _ _⟩
  · rw [if_neg h, ← linP_same]
    by_cases h0 : 1 ≤ (piecesL s).length
    · exact rlines_some s (by omega) h0 B ob cb hB w hBR
    · exact rlines_nil s (by omega) (by omega) B ob cb hB w
end Go.Proofs.YteignefcijmmeaaDoor

/- Breaks lent to the program: lend, ours, kept of surtitlelaw10. -/
namespace Go.Proofs.YteignefcijmmeaaDoor
open Go.RowKit Go.Shelf
attribute [local go_sem] Oper.semAt_some

/-- Breaks that can be read one behind the other. -/
def CellsB (B : List (Int × Int)) (a : Addr) (V : World) : Prop := ∀ (i : Nat) (b : Int × Int), B[i]? = some b → V.cell? (a.add (i * 2)) = some (.int .i64 b.1) ∧ V.cell? (a.add (i * 2 + 1)) = some (.int .i64 b.2)
theorem flatK_length : ∀ l : List (Int × Int), (flatK l).length = l.length * 2
  | [] => rfl
  | x :: t => by
    show ([Value.int .i64 x.1, .int .i64 x.2] ++ flatK t).length = _
    rw [List.length_append, flatK_length t]
    simp
    omega
theorem flatK_one (l : List (Int × Int)) : ∀ u ∈ flatK l, u.oneCell' = true := by
  intro u hu
  simp only [flatK, List.mem_flatMap] at hu
  obtain ⟨x, _, hx⟩ := hu
  simp at hx
  rcases hx with rfl | rfl <;> rfl
theorem CellsB.flat {l : List (Int × Int)} {a : Addr} {V : World} (h : CellsB l a V) (j : Nat) (u : Value) (hu : (flatK l)[j]? = some u) : V.cell? (a.add j) = some u := by
  have hj : j < l.length * 2 := by rw [← flatK_length]; exact (List.getElem?_eq_some_iff.1 hu).1
  obtain ⟨p, hp⟩ : ∃ p, l[j / 2]? = some p := ⟨_, List.getElem?_eq_getElem (by omega)⟩
  obtain ⟨g0, g1⟩ := flatK_at l _ p hp
  obtain ⟨c0, c1⟩ := h _ p hp
  by_cases hm : j % 2 = 0
  · have e : j / 2 * 2 = j := by omega
    rw [e] at g0 c0
    rw [c0, ← g0, hu]
  · have e : j / 2 * 2 + 1 = j := by omega
    rw [e] at g1 c1
    rw [c1, ← g1, hu]
set_option maxRecDepth 100000 in
set_option maxHeartbeats 1000000 in
theorem lend_some (B : List (Int × Int)) (a : Addr) (cap : Nat) (hB : B.length ≤ 5000) (hc : B.length ≤ cap ∧ cap ≤ maxLen) (w : World) (hR : ∀ V : World, Below w.heap.size w V → CellsB B a V) :
    Calls Tryd.prog 8 #[.slice (some a) B.length cap] w fun e w' => e = .returned (.slice (some ⟨w.heap.size, 0, none⟩) B.length (B.length + 3)) ∧ w'.ownsRow w.heap.size 47 2 (.slice (some ⟨w.heap.size, 0, none⟩) (B.length + 1) (B.length + 3)) (B.length + 1) (flatK (B ++ [(-77, 0)])) ∧ Below w.heap.size w w' := by
  have hmx : maxLen ≤ 9223372036854775807 := by decide
  have hm3 : 5003 ≤ maxLen := by decide
  obtain ⟨i0, hi, hz0, hz1, hz2⟩ := info_partsC infoBr
  have HR := hideW hR
  clear hR
  go_enter Tryd.func8, Tryd.ntmps8
  go_wp2_with (first | (at_make; refine wpList_make_own _ rfl _ _ 22 rfl w.heap.size 47 i0 (.agg #[.int .i64 0, .int .i64 0]) 2 Tryd.underlying22 hi hz0 hz1 .i64 .i64 _ (B.length + 3) rfl rfl (by simp) (by rw [hz2]; omega) (by omega) (by omega) ?_; intro w2 own2 gr2; have B2 := Below.grown (Below.refl w.heap.size w) gr2 (by omega) (fun k hk => by cases hk); have R2 := HR.out _ B2) | (at_builtin; refine wpList_append_own_spare _ rfl _ _ 22 rfl w.heap.size 47 i0 2 Tryd.underlying22 hi hz1 w.heap.size 0 (B.length + 3) [] rfl own2 a B.length cap (flatK B) rfl (flatK_length B) R2.flat (flatK_one B) (by omega) ?_; intro w3 own3 gr3; rw [Nat.zero_add, List.nil_append] at own3; rw [Nat.zero_add]; clear own2 R2) | (at_builtin; refine wpList_append_own_spare _ rfl _ _ 22 rfl w.heap.size 47 i0 2 Tryd.underlying22 hi hz1 w.heap.size B.length (B.length + 3) (flatK B) rfl (own3.alloc _) ⟨w3.heap.size, 0, none⟩ 1 1 [.int .i64 (-77), .int .i64 0] rfl rfl (World.news_of_block (cs := #[.int .i64 (-77), .int .i64 0]) (t := 47) (fr := (0, 0)) (heap_alloc_new w3 _)) (by simp [Value.oneCell']) (by omega) ?_; intro w4 own4 gr4))
  have B3 := Below.grown B2 gr3 (by have := gr2.size; omega) (fun k hk => by cases hk; omega)
  have B4 := Below.grown (B3.alloc (by have := gr2.size; have := gr3.size; omega) _) gr4 (by have := gr2.size; have := gr3.size; rw [World.size_alloc]; omega) (fun k hk => by cases hk; omega)
  refine bodyPost_ret (v := .slice (some ⟨w.heap.size, 0, none⟩) B.length (B.length + 3)) (by simp [results, Tryd.results8, go_sem]) rfl ⟨rfl, ?_, B4⟩
  rw [flatK_snoc]
  exact own4
set_option maxRecDepth 100000 in
set_option maxHeartbeats 1000000 in
theorem ours_some (B : List (Int × Int)) (a : Addr) (cap : Nat) (hB : B.length ≤ 5000) (hc : B.length ≤ cap ∧ cap ≤ maxLen) (w : World) (hR : ∀ V : World, Below w.heap.size w V → CellsB B a V) :
    Calls Tryd.prog 11 #[.slice (some a) B.length cap] w fun e w' => ∃ v, e = .returned v ∧ w'.ownsRow w.heap.size 61 2 v B.length (flatK B) ∧ Below w.heap.size w w' := by
  have hmx : maxLen ≤ 9223372036854775807 := by decide
  have hm3 : 5003 ≤ maxLen := by decide
  obtain ⟨i0, hi, hz0, hz1, hz2'⟩ := info_partsC infoRB
  have HR := hideW hR
  obtain ⟨N, hN⟩ : ∃ N, B.length = N := ⟨_, rfl⟩
  rw [hN] at hB hc ⊢
  have HN := hideW hN
  clear hR hN
  go_enter Tryd.func11, Tryd.ntmps11
  go_wp2_with fail
  go_loopw [3, 4] (fun o iv wr => ∃ n : Nat, iv = .int .i64 n ∧ n ≤ N ∧ wr.ownsRow w.heap.size 61 2 o n (flatK (B.take n)) ∧ Below w.heap.size w wr) (fun _ iv _ => N - (intOf iv).toNat)
  case atStart => exact ⟨0, by first | rfl | go_num, Nat.zero_le _, World.ownsRow_nil _ _ _ _, Below.refl _ _⟩
  case round =>
    obtain ⟨n, rfl, hn, hown, hb⟩ := hrel
    have hz := hb.size
    by_cases hnl : n < N
    · obtain ⟨x, hx⟩ : ∃ x, B[n]? = some x := ⟨_, List.getElem?_eq_getElem (by have := HN.out; omega)⟩
      obtain ⟨wq, rfl⟩ : ∃ wq, wq = wr := ⟨_, rfl⟩
      obtain ⟨c0, c1⟩ := HR.out _ hb n x hx
      have KC := hideW (fun V hV => (HR.out V hV n x hx))
      rw [add_next] at c1
      have e1 : IntKind.i64.wrap ((n : Int) + 1) = ((n + 1 : Nat) : Int) := by rw [show ((n + 1 : Nat) : Int) = (n : Int) + 1 by omega]; exact IntWalk.i64_in _ ⟨by omega, by omega⟩
      have i1 : (0 : Int) ≤ (n : Int) := by omega
      have i2 : (n : Int) < (N : Int) := by omega
      have tk : flatK (B.take (n + 1)) = flatK (B.take n) ++ [.int .i64 x.1, .int .i64 x.2] := by rw [List.take_add_one, hx]; exact flatK_snoc _ _
      have TK := hideW tk
      obtain ⟨pp, kk⟩ := x
      simp only at c0 c1
      clear tk hx HR
      go_upto_region 5 with fail
      have hca : (a.add (n * 2)).block < wq.heap.size := Nat.lt_of_not_le fun e => by
        have : wq.heap[(a.add (n * 2)).block]? = none := Array.getElem?_eq_none e
        simp [World.cell?, this] at c0
      have hnew0 := World.new_ne wq (a.add (n * 2)) c0
      have hnew1 := World.new_ne wq ⟨(a.add (n * 2)).block, (a.add (n * 2)).off + 1, none⟩ c1
      go_region_held3 (fun w' => w'.cell? (a.add (n * 2)) = some (.int .i64 pp) ∧ w'.cell? ⟨(a.add (n * 2)).block, (a.add (n * 2)).off + 1, none⟩ = some (.int .i64 kk))
          (first | go_keep | exact k5 | exact k6 | exact ⟨k5, k6⟩)
          ((refine step_append_lies _ (by rfl) _ _ _ (by rfl) w.heap.size 61 i0 _ 2 16 Tryd.underlying30 hi hz0 hz1 hz2' rfl (by omega) u3 n (flatK (B.take n)) (by rfl) ((hown.alloc _).drew) ⟨wq.heap.size, 0, none⟩ 1 1 [.int .i64 pp, .int .i64 kk] (by rfl) (by rfl) (World.news_of_block (cs := #[.int .i64 pp, .int .i64 kk]) (t := 61) (fr := (0, 0)) (heap_alloc_new wq _)) (by simp [Value.oneCell']) (by omega) (by unfold maxLen; omega) (by omega) (by simp; omega) (wq.heap.size + 1) (by simp) ?_; intro gg cap5 w5 hown5 hgrow hat hlt; have hb5 : Below w.heap.size w w5 := Below.grown ((hb.alloc (by omega) _).drew) hgrow (by show w.heap.size ≤ (wq.alloc _).heap.size; rw [World.size_alloc]; omega) (fun j hj => (hown.lt _ hj).1); have k5 := (KC.out _ hb5).1; have k6 := (KC.out _ hb5).2; rw [add_next] at k6))
      all_goals
        have HF := hideW (And.intro hown5 hb5)
        clear hown5 hb5 hown hb c0 c1
        first | go_wp2_with fail | skip
        go_roundw
        case rel =>
          refine ⟨n + 1, by first | rfl | rw [e1] | go_num, by omega, ?_, HF.out.2⟩
          rw [TK.out]
          exact HF.out.1
        case measure => simp [intOf]; omega
    · obtain rfl : n = N := by omega
      have HF := hideW (And.intro hown hb)
      clear hown hb
      go_wp2_with fail
      go_ret
      refine ⟨_, rfl, ?_, HF.out.2⟩
      have h := HF.out.1
      rw [List.take_of_length_le (by have := HN.out; omega)] at h
      exact h
end Go.Proofs.YteignefcijmmeaaDoor

/- Breaks lent to the program: no breaks; kept of surtitlelaw10. -/
namespace Go.Proofs.YteignefcijmmeaaDoor
open Go.RowKit Go.Shelf
attribute [local go_sem] Oper.semAt_some

/-- A row without its last pair. -/
theorem own_short {W : World} {base e g c : Nat} {B : List (Int × Int)} {y : Int × Int} (h : W.ownsRow base e 2 (.slice (some ⟨g, 0, none⟩) (B.length + 1) c) (B.length + 1) (flatK (B ++ [y]))) : W.ownsRow base e 2 (.slice (some ⟨g, 0, none⟩) B.length c) B.length (flatK B) := by
  rcases h.2 with ⟨h0, _⟩ | ⟨g', cap', cur, hv, hb, hg, hn, hm, hcs, htake⟩
  · simp at h0
  · simp only [Value.slice.injEq, Option.some.injEq, Addr.mk.injEq, and_true] at hv
    obtain ⟨rfl, _, rfl⟩ := hv
    refine ⟨flatK_length B, .inr ⟨g, c, cur, rfl, hb, hg, by omega, hm, hcs, ?_⟩⟩
    have h2 := congrArg (List.take (B.length * 2)) htake
    rw [List.take_take, flatK_snoc, List.take_left' (flatK_length B)] at h2
    rw [← h2]
    congr 1
    omega
theorem own_last {W : World} {base e g c : Nat} {B : List (Int × Int)} {y : Int × Int} (h : W.ownsRow base e 2 (.slice (some ⟨g, 0, none⟩) (B.length + 1) c) (B.length + 1) (flatK (B ++ [y]))) : W.cell? ⟨g, B.length * 2, none⟩ = some (.int .i64 y.1) := by
  have h1 := row_cells h _ _ (flatK_at (B ++ [y]) B.length y (by simp)).1
  rw [addG] at h1
  exact h1
set_option maxRecDepth 100000 in
set_option maxHeartbeats 1000000 in
theorem lend_nil (w : World) :
    Calls Tryd.prog 8 #[.slice none 0 0] w fun e w' => e = .returned (.slice (some ⟨w.heap.size, 0, none⟩) 0 3) ∧ w'.ownsRow w.heap.size 47 2 (.slice (some ⟨w.heap.size, 0, none⟩) 1 3) 1 (flatK [(-77, 0)]) ∧ Below w.heap.size w w' := by
  have hm3 : 5003 ≤ maxLen := by decide
  obtain ⟨i0, hi, hz0, hz1, hz2⟩ := info_partsC infoBr
  go_enter Tryd.func8, Tryd.ntmps8
  go_wp2_with (first | (at_make; refine wpList_make_own _ rfl _ _ 22 rfl w.heap.size 47 i0 (.agg #[.int .i64 0, .int .i64 0]) 2 Tryd.underlying22 hi hz0 hz1 .i64 .i64 _ 3 rfl rfl (by simp) (by rw [hz2]; omega) (by omega) (by omega) ?_; intro w3 own3 gr3) | (at_builtin; refine wpList_append_own_spare _ rfl _ _ 22 rfl w.heap.size 47 i0 2 Tryd.underlying22 hi hz1 w.heap.size 0 3 [] rfl (own3.alloc _) ⟨w3.heap.size, 0, none⟩ 1 1 [.int .i64 (-77), .int .i64 0] rfl rfl (World.news_of_block (cs := #[.int .i64 (-77), .int .i64 0]) (t := 47) (fr := (0, 0)) (heap_alloc_new w3 _)) (by simp [Value.oneCell']) (by omega) ?_; intro w4 own4 gr4))
  have B3 := Below.grown (Below.refl w.heap.size w) gr3 (by omega) (fun k hk => by cases hk)
  have B4 := Below.grown (B3.alloc (by have := gr3.size; omega) _) gr4 (by have := gr3.size; rw [World.size_alloc]; omega) (fun k hk => by cases hk; omega)
  refine bodyPost_ret (v := .slice (some ⟨w.heap.size, 0, none⟩) 0 3) (by simp [results, Tryd.results8, go_sem]) rfl ⟨rfl, ?_, B4⟩
  exact own4
set_option maxRecDepth 100000 in
theorem ours_nil (w : World) :
    Calls Tryd.prog 11 #[.slice none 0 0] w fun e w' => ∃ v, e = .returned v ∧ w'.ownsRow w.heap.size 61 2 v 0 (flatK []) ∧ Below w.heap.size w w' := by
  go_enter Tryd.func11, Tryd.ntmps11
  go_wp2_with fail
  go_loopw [3, 4] (fun o iv wr => iv = .int .i64 0 ∧ wr = w ∧ o = .slice none 0 0) (fun _ _ _ => 0)
  case atStart => exact ⟨by first | rfl | go_num, rfl, rfl⟩
  case round =>
    obtain ⟨rfl, rfl, rfl⟩ := hrel
    go_wp2_with fail
    go_ret
    exact ⟨_, rfl, World.ownsRow_nil _ _ _ _, Below.refl _ _⟩
set_option maxRecDepth 100000 in
set_option maxHeartbeats 1000000 in
theorem kept_walk (B : List (Int × Int)) (hB : B.length ≤ 5000) (oa : Option Addr) (cap base g : Nat) (w : World) (own : w.ownsRow base 47 2 (.slice (some ⟨g, 0, none⟩) (B.length + 1) (B.length + 3)) (B.length + 1) (flatK (B ++ [(-77, 0)])))
    (hO : Calls Tryd.prog 11 #[.slice oa B.length cap] w fun e w' => ∃ v, e = .returned v ∧ w'.ownsRow w.heap.size 61 2 v B.length (flatK B) ∧ Below w.heap.size w w') :
    Calls Tryd.prog 12 #[.slice (some ⟨g, 0, none⟩) B.length (B.length + 3), .slice oa B.length cap] w fun e w' => e = .returned (.bool true) ∧ Below w.heap.size w w' := by
  have HO := hideW hO
  have HW := hideW own
  obtain ⟨N, hN⟩ : ∃ N, B.length = N := ⟨_, rfl⟩
  rw [hN] at HO hB ⊢
  have HN := hideW hN
  clear hO own hN
  go_enter Tryd.func12, Tryd.ntmps12
  go_wp2_with fail
  refine HO.out.mono ?_
  rintro e w1 ⟨v, rfl, o1, b1⟩
  have own1 := ownsRow_keeps (m := 0) HW.out (Keeps.of_below b1)
  have gl : g < w.heap.size := (HW.out.lt g rfl).2
  have HS := hideW (same_rows B N _ _ _ _ _ _ HN.out.symm (by omega) w1 (by have h := own_short own1; rw [HN.out] at h; exact h) o1)
  have H1 := hideW (And.intro own1 b1)
  clear own1 o1 b1 HO
  go_wp2_with fail
  refine HS.out.mono ?_
  rintro e w2 ⟨rfl, b2⟩
  have c := own_last (ownsRow_keeps (m := 0) H1.out.1 (Keeps.of_below b2))
  rw [HN.out] at c
  simp only at c
  have H2 := hideW (bupW H1.out.2 b2)
  have e1 : IntKind.i64.wrap ((N : Int) + 1) = ((N + 1 : Nat) : Int) := by rw [show ((N + 1 : Nat) : Int) = (N : Int) + 1 by omega]; exact IntWalk.i64_in _ ⟨by omega, by omega⟩
  have i1 : (0 : Int) ≤ (N : Int) := by omega
  have i2 : (N : Int) < ((N + 1 : Nat) : Int) := by omega
  have i3 : ((N + 1 : Nat) : Int) ≤ ((N + 3 : Nat) : Int) := by omega
  have i4 : (0 : Int) ≤ ((N + 1 : Nat) : Int) := by omega
  have i5 : N + 1 ≤ N + 3 := by omega
  clear b2 HS H1 HW
  go_wp2_with fail
  refine bodyPost_ret (v := .bool true) (by simp [results, Tryd.results12, go_sem]) rfl ⟨rfl, H2.out⟩
end Go.Proofs.YteignefcijmmeaaDoor

/- The walk of WrapBadness (chapter 10, P1003). -/
namespace Go.Proofs.YteignefcijmmeaaDoor
open Go.RowKit Go.Shelf
attribute [local go_sem] Oper.semAt_some

theorem badA_bd (s : ByteArray) (wd : Int) (B : List (Int × Int)) : (0 ≤ (badA s wd B).1 ∧ (badA s wd B).1 ≤ 1000000000000000) ∧ 0 ≤ (badA s wd B).2 ∧ (badA s wd B).2 ≤ 1000 := by
  unfold badA
  by_cases h : wcheckI s.size wd = 0
  · rw [if_pos h]
    obtain ⟨hw, hs⟩ := wcheck_ok h
    obtain ⟨hS, hl, _, _⟩ := wrapW_all s hs wd hw
    rw [stopsW_eq] at hS hl
    unfold badF
    split
    · exact ⟨⟨by decide, by decide⟩, by decide, by decide⟩
    · rename_i way rest hg
      obtain ⟨m1, m2⟩ := wayG_sub _ _ _ _ hg
      split
      · split
        · have hsm : SmN (way ++ [fnS s]) := fun x hx => hS x (by
            rw [List.mem_append] at hx ⊢
            rcases hx with hx | hx
            · exact .inl (m1 x hx)
            · exact .inr hx)
          have hb := sumB_bd wd ⟨by omega, by omega⟩ _ (linesG_sm (way ++ [fnS s]) 0 0 0 hsm ⟨by decide, by decide⟩)
          rw [linesG_len] at hb
          rw [List.length_append, List.length_singleton] at hb hl
          have e : (wayB wd (way ++ [fnS s])).1 = sumB wd (linesG 0 0 0 (way ++ [fnS s])) := by
            unfold wayB at *
            split
            · rfl
            · rename_i h1 h2
              rw [if_neg h2] at h1
              simp at h1
          rw [e]
          exact ⟨⟨hb.1, Int.le_trans hb.2 (by omega)⟩, Int.le_refl _, (show (0 : Int) ≤ 1000 by decide)⟩
        · exact ⟨⟨by decide, by decide⟩, by decide, by decide⟩
      · exact ⟨⟨by decide, by decide⟩, by decide, by decide⟩
  · rw [if_neg h]
    unfold wcheckI
    refine ⟨⟨Int.le_refl _, (show (0 : Int) ≤ 1000000000000000 by decide)⟩, ?_⟩
    simp only
    split
    · exact ⟨by decide, by decide⟩
    · split <;> exact ⟨by decide, by decide⟩
theorem BR.of_own {W : World} {base e : Nat} {g c : Nat} {B : List (Int × Int)} (h : W.ownsRow base e 2 (.slice (some ⟨g, 0, none⟩) B.length c) B.length (flatK B)) : BR W (some ⟨g, 0, none⟩) B := by
  obtain ⟨oa, ca, e, k⟩ := rowK h
  simp only [Value.slice.injEq, true_and] at e
  obtain ⟨rfl, rfl⟩ := e
  intro i b hb
  obtain ⟨g', e', hg, c0, c1⟩ := k i b hb (List.getElem?_eq_some_iff.1 hb).1
  obtain rfl : g = g' := by simpa using e'
  exact ⟨g, 0, rfl, hg, by rw [Nat.zero_add]; exact c0, by rw [Nat.zero_add]; exact c1⟩
theorem BRq.of_own {W : World} {base e : Nat} {v : Value} {B : List (Int × Int)} (h : W.ownsRow base e 2 v B.length (flatK B)) : ∃ ob cb, v = .slice ob B.length cb ∧ BRq W ob B := by
  obtain ⟨oa, ca, e, k⟩ := rowK h
  exact ⟨oa, ca, e, fun i b hb => k i b hb (List.getElem?_eq_some_iff.1 hb).1⟩
set_option maxRecDepth 100000 in
set_option maxHeartbeats 1000000 in
theorem wbad_law (s : ByteArray) (wd : Int) (B : List (Int × Int)) (oa : Option Addr) (cap : Nat) (hcap : B.length ≤ maxLen) (N : Nat) (w : World) (hT : Tabs N w)
    (hLe : B.length ≤ 5000 → ∀ U : World, Below w.heap.size w U → Calls Tryd.prog 8 #[.slice oa B.length cap] U fun e w' => e = .returned (.slice (some ⟨U.heap.size, 0, none⟩) B.length (B.length + 3)) ∧ w'.ownsRow U.heap.size 47 2 (.slice (some ⟨U.heap.size, 0, none⟩) (B.length + 1) (B.length + 3)) (B.length + 1) (flatK (B ++ [(-77, 0)])) ∧ Below U.heap.size U w')
    (hOu : B.length ≤ 5000 → ∀ U : World, Below w.heap.size w U → Calls Tryd.prog 11 #[.slice oa B.length cap] U fun e w' => ∃ v, e = .returned v ∧ w'.ownsRow U.heap.size 61 2 v B.length (flatK B) ∧ Below U.heap.size U w') :
    Calls Tryd.prog 3 #[.string s, .int .i64 wd, .slice oa B.length cap] w fun e w' => e = .returned (.bool true) ∧ Below w.heap.size w w' := by
  have hmx : maxLen ≤ 9223372036854775807 := by decide
  have hm3 : 5003 ≤ maxLen := by decide
  by_cases hbig : 5000 < B.length
  · clear hLe hOu
    generalize B.length = n at *
    have d2 : (5000 : Int) < (n : Int) := by omega
    go_enter Tryd.func3, Tryd.ntmps3
    go_wp2_with fail
    refine (head10 N _ hT).mono ?_
    rintro e w4 ⟨rfl, b4⟩
    have H4 := hideW b4
    clear b4
    go_wp2_with fail
    refine bodyPost_ret (v := .bool true) (by simp [results, Tryd.results3, go_sem]) rfl ⟨rfl, H4.out⟩
  · have HLe := hideW (hLe (by omega))
    have HOu := hideW (hOu (by omega))
    have hB : B.length ≤ 5000 := by omega
    have hb := badA_bd s wd B
    have HPb := hideW (fun U g hU (hR : BR U (some ⟨g, 0, none⟩) B) => pbadness_any s wd B (some ⟨g, 0, none⟩) (B.length + 3) (by omega) ⟨by omega, by omega⟩ N U hU hR)
    have HRb := hideW (fun U ob cb (hR : BRq U ob B) => rbadness_any s wd B ob cb (by omega) U hR)
    have HKe := hideW (fun U base g own hO => kept_walk B hB oa cap base g U own hO)
    generalize (badA s wd B).1 = A at *
    generalize (badA s wd B).2 = E at *
    have wA : IntKind.i64.wrap A = A := IntWalk.i64_in _ ⟨by omega, by omega⟩
    have wE : IntKind.i64.wrap E = E := IntWalk.i64_in _ ⟨by omega, by omega⟩
    have d2 : ¬ (5000 : Int) < (B.length : Int) := by omega
    clear hLe hOu hb hbig
    go_enter Tryd.func3, Tryd.ntmps3
    go_wp2_with fail
    refine (HLe.out _ (Below.refl _ _)).mono ?_
    rintro e w1 ⟨rfl, o1, b1⟩
    have T1 := hT.below b1
    have HQ := hideW (HPb.out w1 _ T1 (BR.of_own (own_short o1)))
    have H1 := hideW (And.intro o1 (And.intro T1 b1))
    clear o1 T1 b1 HPb HLe
    go_wp2_with fail
    refine HQ.out.mono ?_
    rintro e w2 ⟨rfl, b2⟩
    have H2 := hideW (And.intro (ownsRow_keeps (m := 0) H1.out.1 (Keeps.of_below b2)) (And.intro (H1.out.2.1.below b2) (bupW H1.out.2.2 b2)))
    clear b2 H1 HQ
    go_wp2_with fail
    refine (HOu.out _ H2.out.2.2).mono ?_
    rintro e w3 ⟨v3, rfl, o3, b3⟩
    obtain ⟨ob, cb, rfl, q3⟩ := BRq.of_own o3
    have HQ := hideW (HRb.out w3 _ cb q3)
    have H3 := hideW (And.intro (ownsRow_keeps (m := 0) H2.out.1 (Keeps.of_below b3)) (And.intro (H2.out.2.1.below b3) (bupW H2.out.2.2 b3)))
    clear b3 o3 q3 H2 HRb
    go_wp2_with fail
    refine HQ.out.mono ?_
    rintro e w4 ⟨rfl, b4⟩
    have H4 := hideW (And.intro (ownsRow_keeps (m := 0) H3.out.1 (Keeps.of_below b4)) (And.intro (H3.out.2.1.below b4) (bupW H3.out.2.2 b4)))
    clear b4 H3 HQ
    have HQ := hideW (HKe.out w4 _ _ H4.out.1 (HOu.out _ H4.out.2.2))
    clear HKe HOu
    go_wp2_with fail
    refine HQ.out.mono ?_
    rintro e w5 ⟨rfl, b5⟩
    have H5 := hideW (And.intro (H4.out.2.1.below b5) (bupW H4.out.2.2 b5))
    clear b5 H4 HQ
    go_wp2_with fail
    refine (head10 N _ H5.out.1).mono ?_
    rintro e w6 ⟨rfl, b6⟩
    have H6 := hideW (bupW H5.out.2 b6)
    clear b6 H5
    go_wp2_with fail
    refine bodyPost_ret (v := .bool true) (by simp [results, Tryd.results3, go_sem]) rfl ⟨rfl, H6.out⟩
end Go.Proofs.YteignefcijmmeaaDoor

/- The walk of WrapLines (chapter 10, P1004). -/
namespace Go.Proofs.YteignefcijmmeaaDoor
open Go.RowKit Go.Shelf
attribute [local go_sem] Oper.semAt_some

theorem linA_bd (s : ByteArray) (B : List (Int × Int)) : (linA s B).1.length ≤ 5000 ∧ 0 ≤ (linA s B).2 ∧ (linA s B).2 ≤ 1000 := by
  unfold linA
  by_cases h : 4096 < s.size
  · rw [if_pos h]
    exact ⟨by decide, by decide, by decide⟩
  · rw [if_neg h]
    obtain ⟨_, hl, _, _⟩ := wrapW_all s (by omega) 2 ⟨by decide, by decide⟩
    rw [stopsW_eq, List.length_append, List.length_singleton] at hl
    unfold linF
    split
    · exact ⟨by decide, by decide, by decide⟩
    · rename_i way rest hg
      obtain ⟨_, m2⟩ := wayG_sub _ _ _ _ hg
      split
      · refine ⟨?_, (show (0 : Int) ≤ 0 by decide), (show (0 : Int) ≤ 1000 by decide)⟩
        rw [List.length_map, linesG_len, List.length_append, List.length_singleton]
        omega
      · exact ⟨by decide, by decide, by decide⟩
set_option maxRecDepth 100000 in
theorem plines_any (s : ByteArray) (B : List (Int × Int)) (oa : Option Addr) (cpB : Nat) (hB : B.length ≤ 100000) (hcB : B.length ≤ cpB ∧ cpB ≤ maxLen) (N : Nat) (w : World) (hT : Tabs N w) (hBR : BR w oa B) :
    Calls Tryd.prog 13 #[.string s, .slice oa B.length cpB] w fun e w' => ∃ v, e = .returned (.tuple #[v, .int .i64 (linA s B).2]) ∧ w'.ownsRow w.heap.size 9 1 v (linA s B).1.length (strV (linA s B).1) ∧ Below w.heap.size w w' := by
  unfold linA
  by_cases h : 4096 < s.size
  · rw [if_pos h]
    refine (plines_long s h B.length oa cpB w).mono ?_
    rintro e w' ⟨rfl, b⟩
    exact ⟨_, rfl, World.ownsRow_nil _ _ _ _, b⟩
  · rw [if_neg h]
    have no : (∀ way rest, wayG (plS s) B = some (way, rest) → rest.length ≠ 0) → linF s (plS s) (fnS s) B = ([], 1) → Calls Tryd.prog 13 #[.string s, .slice oa B.length cpB] w fun e w' => ∃ v, e = .returned (.tuple #[v, .int .i64 (linF s (plS s) (fnS s) B).2]) ∧ w'.ownsRow w.heap.size 9 1 v (linF s (plS s) (fnS s) B).1.length (strV (linF s (plS s) (fnS s) B).1) ∧ Below w.heap.size w w' := fun h1 h2 => by
      rw [h2]
      refine (plines_no s (by omega) B oa cpB hB hcB N w hT hBR h1).mono ?_
      rintro e w' ⟨rfl, b⟩
      exact ⟨_, rfl, World.ownsRow_nil _ _ _ _, b⟩
    cases hq : wayG (plS s) B with
    | none => exact no (fun _ _ e => by rw [hq] at e; cases e) (by unfold linF; rw [hq])
    | some q =>
      obtain ⟨way, rest⟩ := q
      by_cases hr : rest.length = 0
      · have e1 : linF s (plS s) (fnS s) B = ((linesG 0 0 0 (way ++ [fnS s])).map (lnX s), 0) := by
          unfold linF
          rw [hq]
          exact if_pos hr
        rw [e1]
        have hk := plines_ok s (by omega) B oa cpB hB hcB N w hT hBR way rest hq hr (way_ok s B way rest hq)
        refine hk.mono ?_
        rintro e w' ⟨v, rfl, o, b⟩
        refine ⟨v, rfl, ?_, b⟩
        rw [List.length_map, linesG_len, List.length_append, List.length_singleton]
        exact o
      · exact no (fun _ _ e => by
          rw [hq] at e
          obtain ⟨_, rfl⟩ : way = _ ∧ rest = _ := by simpa using e
          exact hr) (by
          unfold linF
          rw [hq]
          exact if_neg hr)
set_option maxRecDepth 100000 in
set_option maxHeartbeats 1000000 in
theorem wlin_law (s : ByteArray) (B : List (Int × Int)) (oa : Option Addr) (cap : Nat) (hcap : B.length ≤ maxLen) (N : Nat) (w : World) (hT : Tabs N w)
    (hLe : B.length ≤ 5000 → ∀ U : World, Below w.heap.size w U → Calls Tryd.prog 8 #[.slice oa B.length cap] U fun e w' => e = .returned (.slice (some ⟨U.heap.size, 0, none⟩) B.length (B.length + 3)) ∧ w'.ownsRow U.heap.size 47 2 (.slice (some ⟨U.heap.size, 0, none⟩) (B.length + 1) (B.length + 3)) (B.length + 1) (flatK (B ++ [(-77, 0)])) ∧ Below U.heap.size U w')
    (hOu : B.length ≤ 5000 → ∀ U : World, Below w.heap.size w U → Calls Tryd.prog 11 #[.slice oa B.length cap] U fun e w' => ∃ v, e = .returned v ∧ w'.ownsRow U.heap.size 61 2 v B.length (flatK B) ∧ Below U.heap.size U w') :
    Calls Tryd.prog 4 #[.string s, .slice oa B.length cap] w fun e w' => e = .returned (.bool true) ∧ Below w.heap.size w w' := by
  have hmx : maxLen ≤ 9223372036854775807 := by decide
  have hm3 : 5003 ≤ maxLen := by decide
  by_cases hbig : 5000 < B.length
  · clear hLe hOu
    generalize B.length = n at *
    have d2 : (5000 : Int) < (n : Int) := by omega
    go_enter Tryd.func4, Tryd.ntmps4
    go_wp2_with fail
    refine (head10 N _ hT).mono ?_
    rintro e w4 ⟨rfl, b4⟩
    have H4 := hideW b4
    clear b4
    go_wp2_with fail
    refine bodyPost_ret (v := .bool true) (by simp [results, Tryd.results4, go_sem]) rfl ⟨rfl, H4.out⟩
  · have HLe := hideW (hLe (by omega))
    have HOu := hideW (hOu (by omega))
    have hB : B.length ≤ 5000 := by omega
    have hb := linA_bd s B
    have HPb := hideW (fun U g hU (hR : BR U (some ⟨g, 0, none⟩) B) => plines_any s B (some ⟨g, 0, none⟩) (B.length + 3) (by omega) ⟨by omega, by omega⟩ N U hU hR)
    have HRb := hideW (fun U ob cb (hR : BRq U ob B) => rlines_any s B ob cb (by omega) U hR)
    have HKe := hideW (fun U base g own hO => kept_walk B hB oa cap base g U own hO)
    generalize (linA s B).1 = A at *
    generalize (linA s B).2 = E at *
    have wE : IntKind.i64.wrap E = E := IntWalk.i64_in _ ⟨by omega, by omega⟩
    have d2 : ¬ (5000 : Int) < (B.length : Int) := by omega
    obtain ⟨n, hn⟩ : ∃ n, A.length = n := ⟨_, rfl⟩
    have HTx := hideW (fun U b1 b2 v u hv hu => texts_same A n b1 b2 v u hn.symm (by omega) U hv hu)
    rw [hn] at HPb HRb
    clear hLe hOu hb hbig hn
    go_enter Tryd.func4, Tryd.ntmps4
    go_wp2_with fail
    refine (HLe.out _ (Below.refl _ _)).mono ?_
    rintro e w1 ⟨rfl, o1, b1⟩
    have T1 := hT.below b1
    have HQ := hideW (HPb.out w1 _ T1 (BR.of_own (own_short o1)))
    have H1 := hideW (And.intro o1 (And.intro T1 b1))
    clear o1 T1 b1 HPb HLe
    go_wp2_with fail
    refine HQ.out.mono ?_
    rintro e w2 ⟨va, rfl, oA, b2⟩
    have H2 := hideW (And.intro (ownsRow_keeps (m := 0) H1.out.1 (Keeps.of_below b2)) (And.intro (H1.out.2.1.below b2) (And.intro (bupW H1.out.2.2 b2) oA)))
    clear b2 H1 HQ oA
    go_wp2_with fail
    refine (HOu.out _ H2.out.2.2.1).mono ?_
    rintro e w3 ⟨v3, rfl, o3, b3⟩
    obtain ⟨ob, cb, rfl, q3⟩ := BRq.of_own o3
    have HQ := hideW (HRb.out w3 _ cb q3)
    have H3 := hideW (And.intro (ownsRow_keeps (m := 0) H2.out.1 (Keeps.of_below b3)) (And.intro (H2.out.2.1.below b3) (And.intro (bupW H2.out.2.2.1 b3) (ownsRow_keeps (m := 0) H2.out.2.2.2 (Keeps.of_below b3)))))
    clear b3 o3 q3 H2 HRb
    go_wp2_with fail
    refine HQ.out.mono ?_
    rintro e w4 ⟨vb, rfl, oB, b4⟩
    have H4 := hideW (And.intro (ownsRow_keeps (m := 0) H3.out.1 (Keeps.of_below b4)) (And.intro (H3.out.2.1.below b4) (And.intro (bupW H3.out.2.2.1 b4) (And.intro (ownsRow_keeps (m := 0) H3.out.2.2.2 (Keeps.of_below b4)) oB))))
    clear b4 H3 HQ oB
    have HQ := hideW (HKe.out w4 _ _ H4.out.1 (HOu.out _ H4.out.2.2.1))
    clear HKe HOu
    go_wp2_with fail
    refine HQ.out.mono ?_
    rintro e w5 ⟨rfl, b5⟩
    have H5 := hideW (And.intro (H4.out.2.1.below b5) (And.intro (bupW H4.out.2.2.1 b5) (And.intro (ownsRow_keeps (m := 0) H4.out.2.2.2.1 (Keeps.of_below b5)) (ownsRow_keeps (m := 0) H4.out.2.2.2.2 (Keeps.of_below b5)))))
    clear b5 H4 HQ
    have HQ := hideW (HTx.out w5 _ _ _ _ H5.out.2.2.1 H5.out.2.2.2)
    go_wp2_with fail
    refine HQ.out.mono ?_
    rintro e w6 ⟨rfl, b6⟩
    have H6 := hideW (And.intro (H5.out.1.below b6) (bupW H5.out.2.1 b6))
    clear b6 H5 HQ
    go_wp2_with fail
    refine (head10 N _ H6.out.1).mono ?_
    rintro e w7 ⟨rfl, b7⟩
    have H7 := hideW (bupW H6.out.2 b7)
    clear b7 H6
    go_wp2_with fail
    refine bodyPost_ret (v := .bool true) (by simp [results, Tryd.results4, go_sem]) rfl ⟨rfl, H7.out⟩
end Go.Proofs.YteignefcijmmeaaDoor

/- The walk of WrapCounts (chapter 10, P1003, P1004, P1007). -/
namespace Go.Proofs.YteignefcijmmeaaDoor
open Go.RowKit Go.Shelf
attribute [local go_sem] Oper.semAt_some

theorem read_rise (P : List Pc) : ∀ (n k : Nat) (B : List (Int × Int)) (ws : List Nat) (rest : List (Int × Int)), readF P k n B = some (ws, rest) → ws.Pairwise (· < ·) ∧ ∀ t ∈ ws, k < t
  | 0, k, B, ws, rest, h => by
    obtain ⟨rfl, rfl⟩ : [] = ws ∧ B = rest := by simpa [readF] using h
    exact ⟨.nil, fun t ht => by simp at ht⟩
  | n + 1, k, [], ws, rest, h => by
    rw [readF] at h
    split at h
    · cases h
    · obtain ⟨h1, h2⟩ := read_rise P n (k + 1) [] ws rest h
      exact ⟨h1, fun t ht => by have := h2 t ht; omega⟩
  | n + 1, k, b :: B, ws, rest, h => by
    rw [readF] at h
    split at h
    · obtain ⟨⟨ws', r'⟩, h1, h2⟩ := Option.map_eq_some_iff.1 h
      obtain ⟨rfl, rfl⟩ : (k + 1) :: ws' = ws ∧ r' = rest := by simpa using h2
      obtain ⟨g1, g2⟩ := read_rise P n (k + 1) B ws' r' h1
      refine ⟨List.pairwise_cons.2 ⟨fun t ht => g2 t ht, g1⟩, fun t ht => ?_⟩
      rcases List.mem_cons.1 ht with rfl | ht
      · omega
      · have := g2 t ht
        omega
    · split at h
      · cases h
      · obtain ⟨h1, h2⟩ := read_rise P n (k + 1) (b :: B) ws rest h
        exact ⟨h1, fun t ht => by have := h2 t ht; omega⟩
theorem linQ_len (s : ByteArray) (P : List Pc) (N : Nat) : ∀ (ws : List Nat) (fr : Nat), (linQ s P N fr ws).length = ws.length + 1
  | [], _ => rfl
  | t :: ws, fr => by rw [linQ, List.length_cons, linQ_len s P N ws t, List.length_cons]
theorem sq_bd (x : Int) (h1 : -20000 ≤ x) (h2 : x ≤ 20000) : 0 ≤ x * x ∧ x * x ≤ 400000000 := by
  by_cases h : 0 ≤ x
  · have m1 := Int.mul_nonneg h h
    have m2 : x * x ≤ 20000 * 20000 := Int.mul_le_mul h2 h2 h (by decide)
    omega
  · have e : x * x = (-x) * (-x) := by rw [Int.neg_mul_neg]
    have m1 := Int.mul_nonneg (show 0 ≤ -x by omega) (show 0 ≤ -x by omega)
    have m2 : (-x) * (-x) ≤ 20000 * 20000 := Int.mul_le_mul (by omega) (by omega) (by omega) (by decide)
    omega
def tellB : Option Int → Int × Int
  | none => (0, 35)
  | some r => (r, 0)
theorem tell_eq (o : Option Int) : (match o with | none => ((0 : Int), (35 : Int)) | some r => (r, 0)) = tellB o := by cases o <;> rfl
/-- What the reckoning so far is to what Badness tells. -/
def BdOk (bq : Option Int) (fb : Bool) (acc : Int) (r : Option Int) : Prop := if fb = true then bq = none else bq = r.map (fun x => acc + x)
set_option maxRecDepth 100000 in
set_option maxHeartbeats 4000000 in
theorem wcounts_walk (s : ByteArray) (_hb : s.size ≤ 140737488355328) (wi : Int) (Pk : List Int) (op : Option Addr) (cpP : Nat) (hP : Pk.length ≤ maxLen) (N : Nat) (w : World) (hT : Tabs N w) (hPk : PkAt w op Pk) :
    Calls Tryd.prog 5 #[.string s, .int .i64 wi, .slice op Pk.length cpP] w fun e w' => e = .returned (.bool true) ∧ Below w.heap.size w w' := by
  have HWi := hideW (within10_any wi 199 ⟨by decide, by decide⟩)
  have k0 := Int.emod_nonneg wi (show (199 : Int) ≠ 0 by decide)
  have k1 := Int.emod_lt_of_pos wi (show (0 : Int) < 199 by decide)
  generalize wi % 199 = k at *
  have wk : IntKind.i64.wrap (2 + k) = 2 + k := IntWalk.i64_in _ ⟨by omega, by omega⟩
  obtain ⟨wd, hwd⟩ : ∃ wd, 2 + k = wd := ⟨_, rfl⟩
  rw [hwd] at wk
  have hw : 2 ≤ wd ∧ wd ≤ 200 := by omega
  by_cases h4 : 4096 < s.size
  · have d1 : decide ((4096 : Int) < (s.size : Int)) = true := decide_eq_true (by omega)
    have d2 : (4096 : Int) < (s.size : Int) := by omega
    go_enter Tryd.func5, Tryd.ntmps5
    go_wp2_with fail
    refine (HWi.out _).mono ?_
    rintro e w1 ⟨rfl, rfl⟩
    go_wp2_with fail
    refine (head10 N _ hT).mono ?_
    rintro e w4 ⟨rfl, b4⟩
    have H4 := hideW b4
    clear b4
    go_wp2
    go_ret
    exact ⟨rfl, H4.out⟩
  · have d2 : ¬ (4096 : Int) < (s.size : Int) := by omega
    have hs : s.size ≤ 4096 := by omega
    have hpl := plS_len s hs
    have HPl := hideW (fun U hU => places_any s (by omega) N U hU)
    have epl : stopsTo (partsL s) (partsL s).length = plS s := rfl
    rw [epl] at HPl
    have HCh := hideW (fun oa cpX hcX U hBR hPk => chosen_any (plS s) hpl (plS_kind s) oa cpX hcX Pk op cpP hP U hBR hPk)
    clear epl
    go_enter Tryd.func5, Tryd.ntmps5
    go_wp2_with fail
    refine (HWi.out _).mono ?_
    rintro e w0 ⟨rfl, rfl⟩
    go_wp2_with fail
    refine (HPl.out _ hT).mono ?_
    rintro e w3 ⟨v3, rfl, o3, b3⟩
    obtain ⟨oX, cpX, rfl, r3, hcX⟩ := BRw.of_owns o3
    have H3 := hideW (And.intro b3 (And.intro (hT.below b3) r3))
    clear b3 HPl o3 r3
    go_wp2_with fail
    refine (HCh.out oX cpX hcX _ H3.out.2.2 (hPk.keep H3.out.1)).mono ?_
    rintro e w4 ⟨v4, V, rfl, hV, o4, b4⟩
    obtain ⟨oV, cpV, rfl, r4, hcV⟩ := BRw.of_owns o4
    have hVl := subK_len hV
    have hq := wayG_way _ _ hV (plS_rise s)
    rw [plS_stF, read_way s _ _ _ (by omega)] at hq
    obtain ⟨⟨ws, rr⟩, hRd, hq2⟩ := Option.map_eq_some_iff.1 hq
    obtain ⟨hVw, rfl⟩ : ws.map (fun i => stpAt (partsL s) i (kindL (partsL s) i)) = V ∧ rr = [] := by simpa using hq2
    have hwl : V.length = ws.length := by rw [← hVw, List.length_map]
    have hlin : linA s (brsL V) = (linQ s (piecesL s) (clusters s).length 0 ws, 0) := by
      unfold linA
      rw [if_neg h4, ← linP_same]
      unfold linP
      rw [piecesL_len, hRd]
      rfl
    have hbad : badF wd (plS s) (fnS s) (brsL V) = tellB (badQ (piecesL s) (clusters s).length wd 0 ws) := by
      rw [← badP_same]
      unfold badP
      rw [piecesL_len, hRd]
      show (if ([] : List (Int × Int)).length = 0 then _ else _) = _
      rw [if_pos (show ([] : List (Int × Int)).length = 0 from rfl)]
      exact tell_eq _
    obtain ⟨hri, _⟩ := read_rise _ _ _ _ _ _ hRd
    obtain ⟨hkd, _⟩ := read_kinds _ _ _ _ _ _ hRd
    have HLi := plines_any s (brsL V) oV cpV (by rw [brsL_len]; omega) (by rw [brsL_len]; exact hcV) N w4 (H3.out.2.1.below b4) r4.br
    have HBa := hideW (fun U (hU : Tabs N U) (hR : BR U oV (brsL V)) => wbadness_any s hs wd hw (brsL V) oV cpV (by rw [brsL_len]; omega) (by rw [brsL_len]; exact hcV) N U hU hR)
    rw [hlin, brsL_len] at HLi
    rw [hbad, brsL_len] at HBa
    obtain ⟨bq, hbq⟩ : ∃ bq, badQ (piecesL s) (clusters s).length wd 0 ws = bq := ⟨_, rfl⟩
    rw [hbq] at HBa
    obtain ⟨R, hR⟩ : ∃ R : Int × Int, tellB bq = R := ⟨_, rfl⟩
    rw [hR] at HBa
    have HLi := hideW HLi
    have HRr := hideW hR
    have HBq := hideW hbq
    have HWs := hideW (And.intro hri (And.intro hkd hVw))
    have hlq := linQ_len s (piecesL s) (clusters s).length ws 0
    have H4 := hideW (And.intro (bupW H3.out.1 b4) (And.intro (H3.out.2.1.below b4) r4))
    have hcl : (clusters s).length ≤ 4200 := by have := clusters_length s; omega
    clear b4 H3 HCh o4 r4 hq hq2 hRd hlin hbad hri hkd hVw hR hbq hV
    rw [hwl] at hVl hcV HLi HBa ⊢
    go_wp2_with fail
    refine HLi.out.mono ?_
    rintro e w5 ⟨v5, rfl, o5, b5⟩
    obtain ⟨oL, cL, rfl, r5⟩ := rowS o5
    have H5 := hideW (And.intro (bupW H4.out.1 b5) (And.intro (H4.out.2.1.below b5) (And.intro (H4.out.2.2.keep b5) r5)))
    clear b5 H4 o5 r5 HLi
    go_wp2_with fail
    refine (HBa.out _ H5.out.2.1 H5.out.2.2.1.br).mono ?_
    rintro e w6 ⟨rfl, b6⟩
    have H6 := hideW (And.intro (bupW H5.out.1 b6) (And.intro (H5.out.2.1.below b6) (And.intro (H5.out.2.2.1.keep b6) (fun i x (hx : (linQ s (piecesL s) (clusters s).length 0 ws)[i]? = some x) => (show ∃ g, oL = some ⟨g, 0, none⟩ ∧ g < w6.heap.size ∧ w6.cell? ⟨g, i, none⟩ = some (.string x) from by
      obtain ⟨g, g1, g2, g3⟩ := H5.out.2.2.2 i x hx (List.getElem?_eq_some_iff.1 hx).1
      exact ⟨g, g1, Nat.lt_of_lt_of_le g2 b6.size, (b6.cell (p := ⟨g, i, none⟩) g2).trans g3⟩)))))
    clear b6 H5 HBa
    try rw [hlq]
    have wz : IntKind.i64.wrap ((ws.length : Int) + 1) = (ws.length : Int) + 1 := IntWalk.i64_in _ ⟨by omega, by omega⟩
    have ez : ((ws.length : Int) + 1 != (ws.length : Int) + 1) = false := by simp
    go_wp2_with fail
    go_loopw [12, 13, 14, 15] (fun fv sv bv iv wq => ∃ (i fr : Nat) (acc : Int) (fb : Bool), fv = .int .i64 ((partsL s).getD fr pt0).sg ∧ sv = .int .i64 acc ∧ bv = .bool fb ∧ iv = .int .i64 (i : Nat) ∧ 0 ≤ acc ∧ acc ≤ 500000000 * (i : Int) ∧ Below w6.heap.size w6 wq ∧ ((i ≤ ws.length ∧ fr ≤ (clusters s).length ∧ Hid (∀ t, ws[i]? = some t → fr ≤ t) ∧ Hid (∃ pre, pre.length = i ∧ linQ s (piecesL s) (clusters s).length 0 ws = pre ++ linQ s (piecesL s) (clusters s).length fr (ws.drop i)) ∧ Hid (BdOk bq fb acc (badQ (piecesL s) (clusters s).length wd fr (ws.drop i)))) ∨ (i = ws.length + 1 ∧ Hid (BdOk bq fb acc (some 0))))) (fun _ _ _ iv _ => ws.length + 1 - (intOf iv).toNat)
    case atStart =>
      refine ⟨0, 0, 0, false, ?_, rfl, rfl, rfl, Int.le_refl _, Int.le_refl _, Below.refl _ _, .inl ⟨Nat.zero_le _, Nat.zero_le _, hideW (fun t _ => Nat.zero_le _), hideW ⟨[], rfl, rfl⟩, hideW ?_⟩⟩
      · rw [(loc_end s 0 (Nat.zero_le _)).2]
        rfl
      · unfold BdOk
        rw [if_neg (by decide), List.drop_zero, HBq.out]
        cases bq <;> simp
    case round =>
      obtain ⟨i, fr, acc, fb, rfl, rfl, rfl, rfl, ha0, ha1, hB, hph⟩ := hrel
      rcases hph with ⟨hil, hfN, HFr, HPr, HBd⟩ | ⟨rfl, HBd⟩
      · by_cases hil2 : i < ws.length
        · obtain ⟨t, ht⟩ : ∃ t, ws[i]? = some t := ⟨_, List.getElem?_eq_getElem hil2⟩
          obtain ⟨_, ht0, ht1⟩ := HWs.out.2.1 i t ht
          have htN : t ≤ (clusters s).length := by omega
          have HVi : Hid (V[i]? = some (stpAt (partsL s) t (kindL (partsL s) t))) := hideW (by rw [← HWs.out.2.2, List.getElem?_map, ht]; rfl)
          have HDr := hideW (drop_get ht)
          have HTi := hideW ht
          obtain ⟨kk, hkk⟩ : ∃ kk, kindRL (piecesL s) t = kk := ⟨_, rfl⟩
          have HKr := hideW hkk
          have HKk : Hid (kindL (partsL s) t = kk) := hideW (by rw [kindL_same s t (by omega) htN]; exact hkk)
          obtain ⟨ct, hct⟩ : ∃ ct : Int, (if kk = 3 then (1048576 : Int) else 0) = ct := ⟨_, rfl⟩
          have hcb : 0 ≤ ct ∧ ct ≤ 1048576 := by rw [← hct]; split <;> omega
          have HCt := hideW hct
          have tl2 : (i : Int) < (ws.length : Int) := by omega
          have wct : IntKind.i64.wrap (acc + 1048576) = acc + 1048576 := IntWalk.i64_in _ ⟨by omega, by omega⟩
          clear hkk hct
          have hfrt : fr ≤ t := HFr.out t ht
          obtain ⟨a, b, A, B, hLn⟩ := line_all s fr t (HFr.out t ht) htN
          have HLn := hideW hLn
          have hab := hLn.le
          have htop := hLn.top
          have HCut := hideW (cutS_any s (by omega) a b A B hLn.le hLn.top hLn.pa hLn.pb hLn.ab hLn.bs)
          have hpz : (s.extract A B).size ≤ 4096 := by rw [ByteArray.size_extract]; omega
          have HBar := hideW (fun U hU => bare_walk (s.extract A B) hpz N U hU)
          rw [hLn.bare] at HBar
          obtain ⟨X, hX⟩ : ∃ X, lineX s (piecesL s) fr t = X := ⟨_, rfl⟩
          have hXz : X.size ≤ 4096 := by
            rw [← hX, ← hLn.bare, ByteArray.size_extract]
            omega
          have HOf := hideW (fun U hU => of_any X (by omega) N U hU)
          obtain ⟨wv, hwv⟩ : ∃ wv, sumR (piecesL s) fr (lineT (piecesL s) fr t - fr) = wv := ⟨_, rfl⟩
          have hcells := hLn.cells
          rw [hX, hwv] at hcells
          rw [hcells] at HOf
          rw [hX] at HBar
          have hwb : 0 ≤ wv ∧ wv ≤ 10000 := by
            have h1 := sumR_bd (piecesL s) fr (pieces_ce s) (lineT (piecesL s) fr t - fr)
            rw [hwv] at h1
            have h2 := (lineT_ge (piecesL s) fr t hfrt).2
            omega
          have HXi : Hid ((linQ s (piecesL s) (clusters s).length 0 ws)[i]? = some X) := hideW (by
            obtain ⟨pre, p1, p2⟩ := HPr.out
            rw [p2, List.getElem?_append_right (by omega), p1, Nat.sub_self, HDr.out, linQ]
            rw [← hX]
            rfl)
          obtain ⟨gl, hgl, hgls, cl⟩ := H6.out.2.2.2 i X HXi.out
          have hsq := sq_bd (wd - wv) (by omega) (by omega)
          have wa : IntKind.i64.wrap (wd - wv) = wd - wv := IntWalk.i64_in _ ⟨by omega, by omega⟩
          have wb : IntKind.i64.wrap ((wd - wv) * (wd - wv)) = (wd - wv) * (wd - wv) := IntWalk.i64_in _ ⟨by omega, by omega⟩
          have HSa := hideW (And.intro hLn.sa hLn.sb)
          have HWX := hideW (And.intro hX hwv)
          rw [hLn.sa]
          have HCnt := hideW (fun U => count_any s U (by omega))
          subst hgl
          clear hLn hX hwv hcells hpz hXz
          have tl : (i : Int) < (ws.length : Int) + 1 := by omega
          have wi1 : IntKind.i64.wrap ((i : Int) + 1) = (i : Int) + 1 := IntWalk.i64_in _ ⟨by omega, by omega⟩
          obtain ⟨n7, hn7⟩ : ∃ n7, (signs s).length = n7 := ⟨_, rfl⟩
          rw [hn7] at HCnt htop
          have HN7 := hideW hn7
          clear hn7
          go_wp2_with fail
          refine (HCnt.out _).mono ?_
          rintro e w7 ⟨rfl, b7⟩
          have H7 := hideW (bupW hB b7)
          clear b7 HCnt
          obtain ⟨g4, eo, hg4, c0, c1⟩ := (H6.out.2.2.1.keep H7.out) i (stpAt (partsL s) t (kindL (partsL s) t)) HVi.out
          subst eo
          have q0 : (stpAt (partsL s) t (kindL (partsL s) t)).nxt.sg = (b : Int) := HSa.out.2
          have q1 : (stpAt (partsL s) t (kindL (partsL s) t)).kind = kk := HKk.out
          rw [q0] at c0
          rw [q1] at c1
          clear q0 q1
          obtain ⟨wq, rfl⟩ : ∃ wq, wq = w7 := ⟨_, rfl⟩
          go_upto_if 65 with fail
          go_cut [13, 16] (fun sv tv wx => sv = .int .i64 (acc + ct) ∧ tv = .int .i64 (b : Nat) ∧ wx = wq)
          case first =>
            by_cases hk3 : kk = 3
            · have k3 : (kk == 3) = true := by simp [hk3]
              have ec : ct = 1048576 := by rw [← HCt.out, if_pos hk3]
              subst ec
              clear hk3
              go_wp2_with fail
              go_meet
              case rel => exact ⟨rfl, rfl, rfl⟩
            · have k3 : (kk == 3) = false := beq_eq_false_iff_ne.2 hk3
              have ec : ct = 0 := by rw [← HCt.out, if_neg hk3]
              subst ec
              clear hk3
              go_wp2_with fail
              go_meet
              case rel => exact ⟨by rw [Int.add_zero], rfl, rfl⟩
          case rest =>
            obtain ⟨rfl, rfl, rfl⟩ := hcut
            have hc7 := (H7.out.cell (p := ⟨gl, i, none⟩) hgls).trans cl
            have hgl7 : gl < wc.heap.size := Nat.lt_of_lt_of_le hgls H7.out.size
            go_wp2_with fail
            refine (HCut.out _).mono ?_
            rintro e w8 ⟨rfl, b8⟩
            have c8 := (b8.cell (p := ⟨gl, i, none⟩) hgl7).trans hc7
            have hgl8 : gl < w8.heap.size := Nat.lt_of_lt_of_le hgl7 b8.size
            have H8 := hideW (bupW H7.out b8)
            have T8 := hideW (((H6.out.2.1.below H7.out).below b8).below (Below.refl w8.heap.size w8).drew)
            clear b8 HCut
            go_wp2_with fail
            go_region_held3 (fun w' => w'.cell? ⟨gl, i, none⟩ = some (.string X)) (first | go_keep | assumption) (first | (go_at_call 21; (with_reducible refine (HBar.out _ T8.out).mono ?_); rintro e w9 ⟨rfl, b9⟩; have b9 : Below w8.heap.size w8 w9 := (by first | exact ⟨b9.os, b9.tape, b9.output, b9.size, b9.block⟩ | exact b9); have c9 := (b9.cell (p := ⟨gl, i, none⟩) hgl8).trans c8; have H9 := hideW (bupW H8.out b9); clear b9))
            have T9 := hideW (H6.out.2.1.below H9.out)
            go_wp2_with fail
            refine (HOf.out _ T9.out).mono ?_
            rintro e wz9 ⟨rfl, b10⟩
            have H10 := hideW (bupW H9.out b10)
            clear b10
            obtain ⟨f2, hf2⟩ : ∃ f2 : Bool, f2 = (fb || decide (wd < wv)) := ⟨_, rfl⟩
            have HF2 := hideW hf2
            clear hf2
            obtain ⟨wq2, rfl⟩ : ∃ wq2, wq2 = wz9 := ⟨_, rfl⟩
            go_upto_region 24 with fail
            go_cut [14] (fun fv wx => fv = .bool f2 ∧ wx = wq2)
            case first =>
              cases fb with
              | true =>
                have ef : f2 = true := by rw [HF2.out]; rfl
                subst ef
                go_wp2_with fail
                go_meet
                case rel => exact ⟨rfl, rfl⟩
              | false =>
                have HE : Hid (f2 = decide (wd < wv)) := hideW (by rw [HF2.out]; rfl)
                go_wp2_with fail
                go_meet
                case rel => exact ⟨by rw [HE.out], rfl⟩
            case rest =>
              obtain ⟨rfl, rfl⟩ := hcut
              have wc9 : IntKind.i64.wrap ((acc + ct) + (wd - wv) * (wd - wv)) = (acc + ct) + (wd - wv) * (wd - wv) := IntWalk.i64_in _ ⟨by omega, by omega⟩
              go_wp2_with fail
              go_roundw
              case rel =>
                refine ⟨i + 1, t, acc + ct + (wd - wv) * (wd - wv), f2, by rw [HSa.out.2], rfl, rfl, by simp, by omega, by simp; omega, H10.out, .inl ⟨by omega, htN, hideW (fun u hu => ?_), hideW ?_, hideW ?_⟩⟩
                · have := List.pairwise_iff_getElem.1 HWs.out.1
                  obtain ⟨h1, e1⟩ := List.getElem?_eq_some_iff.1 hu
                  obtain ⟨h2, e2⟩ := List.getElem?_eq_some_iff.1 HTi.out
                  have := this i (i + 1) h2 h1 (by omega)
                  omega
                · obtain ⟨pre, p1, p2⟩ := HPr.out
                  refine ⟨pre ++ [X], by simp; omega, ?_⟩
                  rw [p2, HDr.out, linQ, HWX.out.1]
                  simp
                · have h := HBd.out
                  unfold BdOk at h ⊢
                  rw [HDr.out, badQ, HWX.out.2, HKr.out, HCt.out] at h
                  rw [HF2.out]
                  cases fb with
                  | true => exact h
                  | false =>
                    rw [if_neg (by decide)] at h
                    rw [Bool.false_or]
                    by_cases hww : wd < wv
                    · rw [if_pos hww] at h
                      rw [decide_eq_true hww, if_pos rfl]
                      exact h
                    · rw [if_neg hww] at h
                      rw [decide_eq_false hww, if_neg (by decide), h]
                      cases badQ (piecesL s) (clusters s).length wd t (ws.drop (i + 1)) with
                      | none => rfl
                      | some r => simp; omega
              case measure => simp [intOf]; omega
        · obtain rfl : i = ws.length := by omega
          have tl2 : ¬ (ws.length : Int) < (ws.length : Int) := by omega
          have HDr : Hid (ws.drop ws.length = []) := hideW (by simp)
          have hfrt : fr ≤ (clusters s).length := hfN
          obtain ⟨a, b, A, B, hLn⟩ := line_all s fr (clusters s).length hfN (Nat.le_refl _)
          have HLn := hideW hLn
          have hab := hLn.le
          have htop := hLn.top
          have HCut := hideW (cutS_any s (by omega) a b A B hLn.le hLn.top hLn.pa hLn.pb hLn.ab hLn.bs)
          have hpz : (s.extract A B).size ≤ 4096 := by rw [ByteArray.size_extract]; omega
          have HBar := hideW (fun U hU => bare_walk (s.extract A B) hpz N U hU)
          rw [hLn.bare] at HBar
          obtain ⟨X, hX⟩ : ∃ X, lineX s (piecesL s) fr (clusters s).length = X := ⟨_, rfl⟩
          have hXz : X.size ≤ 4096 := by
            rw [← hX, ← hLn.bare, ByteArray.size_extract]
            omega
          have HOf := hideW (fun U hU => of_any X (by omega) N U hU)
          obtain ⟨wv, hwv⟩ : ∃ wv, sumR (piecesL s) fr (lineT (piecesL s) fr (clusters s).length - fr) = wv := ⟨_, rfl⟩
          have hcells := hLn.cells
          rw [hX, hwv] at hcells
          rw [hcells] at HOf
          rw [hX] at HBar
          have hwb : 0 ≤ wv ∧ wv ≤ 10000 := by
            have h1 := sumR_bd (piecesL s) fr (pieces_ce s) (lineT (piecesL s) fr (clusters s).length - fr)
            rw [hwv] at h1
            have h2 := (lineT_ge (piecesL s) fr (clusters s).length hfrt).2
            omega
          have HXi : Hid ((linQ s (piecesL s) (clusters s).length 0 ws)[ws.length]? = some X) := hideW (by
            obtain ⟨pre, p1, p2⟩ := HPr.out
            rw [p2, List.getElem?_append_right (by omega), p1, Nat.sub_self, HDr.out, linQ]
            rw [← hX]
            rfl)
          obtain ⟨gl, hgl, hgls, cl⟩ := H6.out.2.2.2 ws.length X HXi.out
          have hsq := sq_bd (wd - wv) (by omega) (by omega)
          have wa : IntKind.i64.wrap (wd - wv) = wd - wv := IntWalk.i64_in _ ⟨by omega, by omega⟩
          have wb : IntKind.i64.wrap ((wd - wv) * (wd - wv)) = (wd - wv) * (wd - wv) := IntWalk.i64_in _ ⟨by omega, by omega⟩
          have HSa := hideW (And.intro hLn.sa hLn.sb)
          have HWX := hideW (And.intro hX hwv)
          rw [hLn.sa]
          have HCnt := hideW (fun U => count_any s U (by omega))
          subst hgl
          clear hLn hX hwv hcells hpz hXz
          have tl : (ws.length : Int) < (ws.length : Int) + 1 := by omega
          have wi1 : IntKind.i64.wrap ((ws.length : Int) + 1) = (ws.length : Int) + 1 := IntWalk.i64_in _ ⟨by omega, by omega⟩
          obtain ⟨n7, hn7⟩ : ∃ n7, (signs s).length = n7 := ⟨_, rfl⟩
          rw [hn7] at HCnt htop
          have HN7 := hideW hn7
          clear hn7
          go_wp2_with fail
          refine (HCnt.out _).mono ?_
          rintro e w7 ⟨rfl, b7⟩
          have H7 := hideW (bupW hB b7)
          clear b7 HCnt
          have eb : b = n7 := by
            have h1 := HSa.out.2
            rw [sg_last, HN7.out] at h1
            omega
          subst eb
          have hc7 := (H7.out.cell (p := ⟨gl, ws.length, none⟩) hgls).trans cl
          have hgl7 : gl < w7.heap.size := Nat.lt_of_lt_of_le hgls H7.out.size
          go_wp2_with fail
          refine (HCut.out _).mono ?_
          rintro e w8 ⟨rfl, b8⟩
          have c8 := (b8.cell (p := ⟨gl, ws.length, none⟩) hgl7).trans hc7
          have hgl8 : gl < w8.heap.size := Nat.lt_of_lt_of_le hgl7 b8.size
          have H8 := hideW (bupW H7.out b8)
          have T8 := hideW (((H6.out.2.1.below H7.out).below b8).below (Below.refl w8.heap.size w8).drew)
          clear b8 HCut
          go_wp2_with fail
          go_region_held3 (fun w' => w'.cell? ⟨gl, ws.length, none⟩ = some (.string X)) (first | go_keep | assumption) (first | (go_at_call 21; (with_reducible refine (HBar.out _ T8.out).mono ?_); rintro e w9 ⟨rfl, b9⟩; have b9 : Below w8.heap.size w8 w9 := (by first | exact ⟨b9.os, b9.tape, b9.output, b9.size, b9.block⟩ | exact b9); have c9 := (b9.cell (p := ⟨gl, ws.length, none⟩) hgl8).trans c8; have H9 := hideW (bupW H8.out b9); clear b9))
          have T9 := hideW (H6.out.2.1.below H9.out)
          go_wp2_with fail
          refine (HOf.out _ T9.out).mono ?_
          rintro e wz9 ⟨rfl, b10⟩
          have H10 := hideW (bupW H9.out b10)
          clear b10
          obtain ⟨f2, hf2⟩ : ∃ f2 : Bool, f2 = (fb || decide (wd < wv)) := ⟨_, rfl⟩
          have HF2 := hideW hf2
          clear hf2
          obtain ⟨wq2, rfl⟩ : ∃ wq2, wq2 = wz9 := ⟨_, rfl⟩
          go_upto_region 24 with fail
          go_cut [14] (fun fv wx => fv = .bool f2 ∧ wx = wq2)
          case first =>
            cases fb with
            | true =>
              have ef : f2 = true := by rw [HF2.out]; rfl
              subst ef
              go_wp2_with fail
              go_meet
              case rel => exact ⟨rfl, rfl⟩
            | false =>
              have HE : Hid (f2 = decide (wd < wv)) := hideW (by rw [HF2.out]; rfl)
              go_wp2_with fail
              go_meet
              case rel => exact ⟨by rw [HE.out], rfl⟩
          case rest =>
            obtain ⟨rfl, rfl⟩ := hcut
            have wc9 : IntKind.i64.wrap (acc + (wd - wv) * (wd - wv)) = acc + (wd - wv) * (wd - wv) := IntWalk.i64_in _ ⟨by omega, by omega⟩
            go_wp2_with fail
            go_roundw
            case rel =>
              refine ⟨ws.length + 1, (clusters s).length, acc + (wd - wv) * (wd - wv), f2, by rw [HSa.out.2], rfl, rfl, by simp, by omega, by simp; omega, H10.out, .inr ⟨rfl, hideW ?_⟩⟩
              have h := HBd.out
              unfold BdOk at h ⊢
              rw [HDr.out, badQ, HWX.out.2] at h
              rw [HF2.out]
              cases fb with
              | true => exact h
              | false =>
                rw [if_neg (by decide)] at h
                rw [Bool.false_or]
                by_cases hww : wd < wv
                · rw [if_pos hww] at h
                  rw [decide_eq_true hww, if_pos rfl]
                  exact h
                · rw [if_neg hww] at h
                  rw [decide_eq_false hww, if_neg (by decide), h]
                  simp
            case measure => simp [intOf]
      · have tl : ¬ ((ws.length + 1 : Nat) : Int) < (ws.length : Int) + 1 := by omega
        have tl2 : ¬ (ws.length : Int) + 1 < (ws.length : Int) + 1 := by omega
        have H7 := hideW (And.intro (H6.out.2.1.below hB) (bupW H6.out.1 hB))
        have hbd := HBd.out
        unfold BdOk at hbd
        cases fb with
        | true =>
          rw [if_pos rfl] at hbd
          have er : R = (0, 35) := by rw [← HRr.out, hbd]; rfl
          subst er
          clear hbd
          go_wp2_with fail
          refine (head10 N _ H7.out.1).mono ?_
          rintro e w8 ⟨rfl, b8⟩
          have H8 := hideW (bupW H7.out.2 b8)
          clear b8
          go_wp2_with fail
          refine bodyPost_ret (v := .bool true) (by simp [results, Tryd.results5, go_sem]) rfl ⟨rfl, H8.out⟩
        | false =>
          rw [if_neg (by decide)] at hbd
          have er : R = (acc, 0) := by rw [← HRr.out, hbd]; simp [tellB]
          subst er
          clear hbd
          go_wp2_with fail
          refine (head10 N _ H7.out.1).mono ?_
          rintro e w8 ⟨rfl, b8⟩
          have H8 := hideW (bupW H7.out.2 b8)
          clear b8
          go_wp2_with fail
          refine bodyPost_ret (v := .bool true) (by simp [results, Tryd.results5, go_sem]) rfl ⟨rfl, H8.out⟩
end Go.Proofs.YteignefcijmmeaaDoor
