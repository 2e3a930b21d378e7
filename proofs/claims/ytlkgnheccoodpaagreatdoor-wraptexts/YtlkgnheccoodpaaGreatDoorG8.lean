import Derived.Deep.QuietTactic
import Derived.BigQuiet
import Derived.Test.YtlkgnheccoodpaaGreatDoorG2
import Derived.Test.YtlkgnheccoodpaaGreatDoorG3
import Derived.Test.YtlkgnheccoodpaaGreatDoorGR
import Derived.Test.YtlkgnheccoodpaaGreatDoorWsG
namespace Go.Proofs.YtlkgnheccoodpaaGreatDoor
def stF (L : List Pt) : Nat → Nat → List St
 | _, 0 => []
 | k, n + 1 => (if kindL L (k + 1) = 0 then [] else [stpAt L (k + 1) (kindL L (k + 1))]) ++ stF L (k + 1) n
theorem stF_to (L : List Pt) : ∀ n k, stopsTo L (k + 1) ++ stF L k n = stopsTo L (k + n + 1)
 | 0, k => by simp [stF]
 | n + 1, k => by
  have ih := stF_to L n (k + 1)
  unfold stF
  rw [← List.append_assoc]
  have e : stopsTo L (k + 1) ++ (if kindL L (k + 1) = 0 then [] else [stpAt L (k + 1) (kindL L (k + 1))]) = stopsTo L (k + 1 + 1) := by
   show _ = stopsTo L (k + 1) ++ (if k + 1 = 0 ∨ kindL L (k + 1) = 0 then [] else [stpAt L (k + 1) (kindL L (k + 1))])
   by_cases h : kindL L (k + 1) = 0
   ·rw [if_pos h, if_pos (.inr h)]
   ·rw [if_neg h, if_neg (by omega)]
  rw [e, ih, show k + 1 + n + 1 = k + (n + 1) + 1 by omega]
theorem plS_stF (s : ByteArray) : plS s = stF (partsL s) 0 (clusters s).length := by
 have := stF_to (partsL s) (clusters s).length 0
 have e : stopsTo (partsL s) (0 + 1) = [] := by unfold stopsTo; rw [if_pos (.inl rfl)]; rfl
 rw [e, List.nil_append, Nat.zero_add] at this
 unfold plS
 rw [partsL_len, this]
theorem piece_cl (s : ByteArray) (i : Nat) (h : i < (clusters s).length) : endsB ((piecesL s).getD i pc0) = decide (((partsL s).getD i pt0).cl = 1) ∧ blankB ((piecesL s).getD i pc0) = decide (((partsL s).getD i pt0).cl = 2) ∧ ((piecesL s).getD i pc0).ce = ((clusters s).getD i cl0).cells := by
 obtain ⟨c, hc⟩ : ∃ c, (clusters s)[i]? = some c := ⟨_, List.getElem?_eq_getElem h⟩
 obtain ⟨p, hp, tp, _⟩ := partsL_at s i c hc
 rw [getD_at hp, getD_at (piecesL_at s i c hc), getD_at hc, tp.1]
 refine ⟨?_, ?_, rfl⟩
 ·have := cls_end (pcOf s c).r
  rw [Bool.eq_iff_iff, decide_eq_true_iff]
  exact this.symm
 ·have := cls_blank (pcOf s c)
  rw [Bool.eq_iff_iff, decide_eq_true_iff]
  exact this.symm
theorem sum_ce (s : ByteArray) (fr : Nat) : ∀ n, fr + n ≤ (clusters s).length → sumR (piecesL s) fr n = ((partsL s).getD (fr + n) pt0).ce - ((partsL s).getD fr pt0).ce
 | 0, h => by
  show (0 : Int) = _
  rw [Nat.add_zero]
  omega
 | n + 1, h => by
  have ih := sum_ce s fr n (by omega)
  have hc := (piece_cl s (fr + n) (by omega)).2.2
  unfold sumR
  rw [ih, hc, show fr + (n + 1) = fr + n + 1 by omega, ce_at s (fr + n + 1) (by omega), ce_at s (fr + n) (by omega), List.take_add_one, List.getElem?_eq_getElem (show fr + n < (clusters s).length by omega), getD_at (List.getElem?_eq_getElem (show fr + n < (clusters s).length by omega))]
  show _ = cellsOf (_ ++ [_]) - _
  rw [cellsOf_snoc]
  omega
def BgOk (L : List Pt) (fr : Nat) : Prop := fr = 0 ∨ ((L.getD (fr - 1) pt0).cl = 2 → (L.getD fr pt0).cl ≠ 1 ∧ (L.getD fr pt0).cl ≠ 2 ∧ (L.getD fr pt0).cl ≠ 6)
theorem bgOk_of (L : List Pt) (fr : Nat) (h : kindL L fr ≠ 0) : BgOk L fr := .inr fun h2 => by
 refine ⟨fun e => h ?_, fun e => h ?_, fun e => h ?_⟩
 all_goals
  have e1 : (L.getD (fr - 1) pt0).cl ≠ 1 := by omega
  unfold kindL kindI
  refine (if_neg e1).trans (if_pos ?_)
 ·exact .inl e
 ·exact .inr (.inl e)
 ·exact .inr (.inr e)
theorem strip_same (s : ByteArray) (fr : Nat) (hb : BgOk (partsL s) fr) : ∀ d, fr + d ≤ (clusters s).length → (d = 0 → fr = 0 ∨ (((partsL s).getD (fr - 1) pt0).cl ≠ 2)) → stripR (piecesL s) fr (fr + d) = stripB (partsL s) (fr + d) ∧ fr ≤ stripB (partsL s) (fr + d)
 | 0, h, h0 => by
  rw [Nat.add_zero]
  cases fr with
  | zero => exact ⟨rfl, Nat.le_refl _⟩
  | succ f =>
   have hn : ((partsL s).getD f pt0).cl ≠ 2 := by
    rcases h0 rfl with e | e
    ·omega
    ·exact e
   unfold stripR stripB
   rw [if_neg (by omega), if_neg hn]
   exact ⟨rfl, Nat.le_refl _⟩
 | d + 1, h, _ => by
  have hbl := (piece_cl s (fr + d) (by omega)).2.1
  rw [show fr + (d + 1) = fr + d + 1 by omega]
  unfold stripR stripB
  by_cases h2 : ((partsL s).getD (fr + d) pt0).cl = 2
  ·rw [if_pos ⟨by omega, by rw [hbl]; exact decide_eq_true h2⟩, if_pos h2]
   refine strip_same s fr hb d (by omega) (fun e => ?_)
   subst e
   rcases hb with hb | hb
   ·exact .inl hb
   ·exact .inr fun e => (hb e).2.1 h2
  ·rw [if_neg (fun e => h2 (of_decide_eq_true (hbl ▸ e.2))), if_neg h2]
   exact ⟨rfl, by omega⟩
theorem line_ce (s : ByteArray) (fr t : Nat) (k : Int) (hb : BgOk (partsL s) fr) (hft : fr ≤ t) (ht : t ≤ (clusters s).length) (hk : fr < t → (k = 1 ↔ ((partsL s).getD (t - 1) pt0).cl = 1)) (he : fr = t → k ≠ 1 ∧ (fr = 0 ∨ ((partsL s).getD (fr - 1) pt0).cl ≠ 2)) :
  lineT (piecesL s) fr t = stripB (partsL s) (stopE k t) ∧ fr ≤ stripB (partsL s) (stopE k t) ∧ sumR (piecesL s) fr (lineT (piecesL s) fr t - fr) = ((partsL s).getD (stripB (partsL s) (stopE k t)) pt0).ce - ((partsL s).getD fr pt0).ce := by
 have e1 : (if fr < t ∧ endsB ((piecesL s).getD (t - 1) pc0) = true then t - 1 else t) = stopE k t := by
  unfold stopE
  by_cases h : fr < t
  ·have hen := (piece_cl s (t - 1) (by omega)).1
   by_cases h1 : k = 1
   ·rw [if_pos h1, if_pos ⟨h, by rw [hen]; exact decide_eq_true ((hk h).1 h1)⟩]
   ·rw [if_neg h1, if_neg (fun e => h1 ((hk h).2 (of_decide_eq_true (hen ▸ e.2))))]
  ·rw [if_neg (fun e => h e.1), if_neg (he (by omega)).1]
 have hst : fr ≤ stopE k t ∧ stopE k t ≤ (clusters s).length := by
  unfold stopE
  split
  ·rename_i h1
   have : fr < t := by
    by_cases h : fr = t
    ·exact absurd h1 (he h).1
    ·omega
   omega
  ·omega
 have hss := strip_same s fr hb (stopE k t - fr) (by omega) (fun e => by
  by_cases h : fr = t
  ·exact (he h).2
  ·rcases hb with hb | hb
   ·exact .inl hb
   ·refine .inr fun h2 => ?_
    have h3 := hb h2
    have h4 : stopE k t = fr := by omega
    unfold stopE at h4
    split at h4
    ·rename_i h1
     have := (hk (by omega)).1 h1
     rw [show t - 1 = fr by omega] at this
     exact h3.1 this
    ·omega)
 rw [show fr + (stopE k t - fr) = stopE k t by omega] at hss
 have e2 : lineT (piecesL s) fr t = stripB (partsL s) (stopE k t) := by
  unfold lineT
  rw [e1, hss.1]
 have hle := stripB_le (partsL s) (stopE k t)
 refine ⟨e2, hss.2, ?_⟩
 rw [e2, sum_ce s fr _ (by omega), show fr + (stripB (partsL s) (stopE k t) - fr) = stripB (partsL s) (stopE k t) by omega]
end Go.Proofs.YtlkgnheccoodpaaGreatDoor
namespace Go.Proofs.YtlkgnheccoodpaaGreatDoor
theorem sbad_no (k c b wd : Int) (h : wd < c - b) : sbadI k c b wd = (0, false) := by unfold sbadI; rw [if_pos (by omega)]
theorem sbad_yes (k c b wd : Int) (h : ¬ wd < c - b) : sbadI k c b wd = ((wd - (c - b)) * (wd - (c - b)) + (if k = 3 then 1048576 else 0), true) := by unfold sbadI; rw [if_neg (by omega)]
theorem hard_cl (L : List Pt) (t : Nat) : kindL L t = 1 ↔ (L.getD (t - 1) pt0).cl = 1 := (kindI_set _ _ _).1
end Go.Proofs.YtlkgnheccoodpaaGreatDoor
namespace Go.Proofs.YtlkgnheccoodpaaGreatDoor
theorem sgs_signs (s : ByteArray) : ∀ b pos, (sgF2 s b pos).map (fun x => x.1) = (sgns s b pos).map (fun x => x.loc)
 | 0, _ => rfl
 | b + 1, pos => by
  unfold sgF2 sgns
  by_cases hp : pos < s.size
  ·rw [if_pos hp, if_pos hp, List.map_cons, List.map_cons, sgs_signs s b, (sgn_dec s pos hp).1]
  ·rw [if_neg hp, if_neg hp]
   rfl
theorem signs_sgs (s : ByteArray) : (signs s).length = (sgs s).length := by
 have h := congrArg List.length (sgs_signs s s.size 0)
 rw [List.length_map, List.length_map] at h
 exact h.symm
theorem rclF_to (R : Nat → Int) (A : Nat → Nat) (n : Nat) : ∀ b fr, ∀ c ∈ rclF R A n b fr, ∃ k t : Nat, c.fr = (k : Int) ∧ c.to = (t : Int) ∧ c.loc + c.len = (A t : Int) ∧ k < t ∧ t ≤ n
 | 0, _, c, h => by simp [rclF] at h
 | b + 1, fr, c, h => by
  unfold rclF at h
  split at h
  ·rename_i hf
   rcases List.mem_cons.1 h with rfl | h
   ·exact ⟨fr, _, rfl, rfl, by simp only; omega, toF_ge R n fr n (fr + 1), toF_le R n fr n (fr + 1) hf⟩
   ·exact rclF_to R A n b _ c h
  ·simp at h
theorem cl_ends (s : ByteArray) (c : Cl) (h : c ∈ clusters s) : ∃ k t : Nat, c.fr = (k : Int) ∧ c.to = (t : Int) ∧ c.loc + c.len = (placeAt s t : Int) ∧ k < t ∧ t ≤ (sgs s).length := by
 rw [← rcl_clusters] at h
 exact rclF_to _ _ _ _ _ c h
theorem loc_end (s : ByteArray) (n : Nat) (hn : n ≤ (clusters s).length) : ((partsL s).getD n pt0).loc = (endG ((clusters s).take n) (0, 0, 0)).1 ∧ ((partsL s).getD n pt0).sg = (endG ((clusters s).take n) (0, 0, 0)).2.1 := by
 by_cases hl : n = (clusters s).length
 ·subst hl
  rw [List.take_length]
  unfold partsL
  rw [List.getD, clsL_ge s _ _ _ _ (Nat.le_refl _)]
  unfold partsR
  rw [List.getElem?_append_right (by rw [partsG_len]; exact Nat.le_refl _), partsG_len, Nat.sub_self]
  exact ⟨rfl, rfl⟩
 ·have hl2 : n < (clusters s).length := by omega
  unfold partsL
  rw [List.getD, clsL_lt s _ _ _ _ hl2]
  unfold partsR
  rw [List.getElem?_append_left (by rw [partsG_len]; exact hl2), partsG_at2 _ _ _ _ (List.getElem?_eq_getElem hl2)]
  exact ⟨rfl, rfl⟩
theorem loc_at (s : ByteArray) (n : Nat) (hn : n ≤ (clusters s).length) : ∃ k : Nat, ((partsL s).getD n pt0).sg = (k : Int) ∧ ((partsL s).getD n pt0).loc = (placeAt s k : Int) ∧ k ≤ (sgs s).length := by
 obtain ⟨h1, h2⟩ := loc_end s n hn
 rw [h1, h2]
 cases n with
 | zero => exact ⟨0, rfl, by rw [at_first]; rfl, Nat.zero_le _⟩
 | succ m =>
  obtain ⟨c, hc⟩ : ∃ c, (clusters s)[m]? = some c := ⟨_, List.getElem?_eq_getElem (by omega)⟩
  obtain ⟨k, t, e1, e2, e3, e4, e5⟩ := cl_ends s c (List.mem_of_getElem? hc)
  rw [List.take_add_one, hc]
  show ∃ k : Nat, (endG (_ ++ [c]) _).2.1 = _ ∧ (endG (_ ++ [c]) _).1 = _ ∧ _
  rw [endG_snoc]
  exact ⟨t, e2, e3, e5⟩
theorem fr_sg (s : ByteArray) (n : Nat) (hn : n < (clusters s).length) : ((piecesL s).getD n pc0).fr = ((partsL s).getD n pt0).sg := by
 obtain ⟨d, hd⟩ : ∃ d, (clusters s)[n]? = some d := ⟨_, List.getElem?_eq_getElem hn⟩
 rw [getD_at (piecesL_at s n d hd), (loc_end s n (by omega)).2]
 show d.fr = _
 cases n with
 | zero =>
  rw [← rcl_clusters] at hd
  exact rclF_head _ _ _ _ _ d hd
 | succ m =>
  obtain ⟨c, hc⟩ : ∃ c, (clusters s)[m]? = some c := ⟨_, List.getElem?_eq_getElem (by omega)⟩
  rw [endG_to s m c hc]
  exact (chain_to s m c d hc hd).symm
theorem tt_sg (s : ByteArray) (n : Nat) (hn : n < (clusters s).length) : ((piecesL s).getD n pc0).tt = ((partsL s).getD (n + 1) pt0).sg := by
 obtain ⟨d, hd⟩ : ∃ d, (clusters s)[n]? = some d := ⟨_, List.getElem?_eq_getElem hn⟩
 rw [getD_at (piecesL_at s n d hd), (loc_end s (n + 1) (by omega)).2, endG_to s n d hd]
 rfl
theorem sg_le (s : ByteArray) (n : Nat) : ∀ d, n + d ≤ (clusters s).length → ((partsL s).getD n pt0).sg ≤ ((partsL s).getD (n + d) pt0).sg
 | 0, _ => Int.le_refl _
 | d + 1, h => by
  have ih := sg_le s n d (by omega)
  have h1 := fr_sg s (n + d) (by omega)
  have h2 := tt_sg s (n + d) (by omega)
  obtain ⟨c, hc⟩ : ∃ c, (clusters s)[n + d]? = some c := ⟨_, List.getElem?_eq_getElem (by omega)⟩
  obtain ⟨k, t, e1, e2, _, e4, _⟩ := cl_ends s c (List.mem_of_getElem? hc)
  rw [getD_at (piecesL_at s _ c hc)] at h1 h2
  have h1 : c.fr = _ := h1
  have h2 : c.to = _ := h2
  rw [show n + (d + 1) = n + d + 1 by omega]
  omega
end Go.Proofs.YtlkgnheccoodpaaGreatDoor
namespace Go.Proofs.YtlkgnheccoodpaaGreatDoor
def enP (P : List Pc) : Bool := decide (0 < P.length) && endsB (P.getD (P.length - 1) pc0)
def tbS (P : List Pc) (wd : Int) : Tb := ⟨kindRL P, fun fr t => sumR P fr (lineT P fr t - fr), wd, P.length, enP P⟩
def stp (s : ByteArray) (i : Nat) : St := stpAt (partsL s) i (kindL (partsL s) i)
theorem bg_of (s : ByteArray) (wd : Int) (fr : Nat) (hn : fr ≤ (clusters s).length) (h : fr = 0 ∨ 0 < (tbS (piecesL s) wd).k fr) : BgOk (partsL s) fr := by
 rcases h with h | h
 ·exact .inl h
 ·by_cases h0 : fr = 0
  ·exact .inl h0
  ·refine bgOk_of _ _ ?_
   rw [kindL_same s fr (by omega) hn]
   have : 0 < kindRL (piecesL s) fr := h
   omega
theorem wl_self (P : List Pc) (fr : Nat) : sumR P fr (lineT P fr fr - fr) = 0 := by
 have : lineT P fr fr ≤ fr := by
  unfold lineT
  refine Nat.le_trans (stripR_le _ _ _) ?_
  split <;> omega
 rw [show lineT P fr fr - fr = 0 by omega]
 rfl
theorem pieces_ce2 (s : ByteArray) : ∀ x ∈ piecesL s, 0 ≤ x.ce ∧ x.ce ≤ 2 := fun x hx => by
 unfold piecesL at hx
 obtain ⟨c, hc, rfl⟩ := List.mem_map.1 hx
 rw [rcl_clusters] at hc
 exact clusters_cells s c hc
theorem wl_at (s : ByteArray) (fr t : Nat) (hb : BgOk (partsL s) fr) (h : fr < t) (ht : t ≤ (clusters s).length) : ∃ k : Int, (k = 1 ↔ ((partsL s).getD (t - 1) pt0).cl = 1) ∧
  sumR (piecesL s) fr (lineT (piecesL s) fr t - fr) = ((partsL s).getD (stripB (partsL s) (stopE k t)) pt0).ce - ((partsL s).getD fr pt0).ce := by
 by_cases hc : ((partsL s).getD (t - 1) pt0).cl = 1
 ·exact ⟨1, ⟨fun _ => hc, fun _ => rfl⟩, (line_ce s fr t 1 hb (by omega) ht (fun _ => ⟨fun _ => hc, fun _ => rfl⟩) (fun e => by omega)).2.2⟩
 ·have h0 : (0 : Int) = 1 ↔ ((partsL s).getD (t - 1) pt0).cl = 1 := ⟨fun e => absurd e (by decide), fun e => absurd e hc⟩
  exact ⟨0, h0, (line_ce s fr t 0 hb (by omega) ht (fun _ => h0) (fun e => by omega)).2.2⟩
theorem wl_mono (s : ByteArray) (fr a b : Nat) (hb : BgOk (partsL s) fr) (h1 : fr ≤ a) (h2 : a ≤ b) (h3 : b ≤ (clusters s).length) : sumR (piecesL s) fr (lineT (piecesL s) fr a - fr) ≤ sumR (piecesL s) fr (lineT (piecesL s) fr b - fr) := by
 by_cases e : a = b
 ·rw [e]
  exact Int.le_refl _
 ·by_cases ea : a = fr
  ·subst ea
   rw [wl_self]
   exact (sumR_bd _ _ (pieces_ce2 s) _).1
  ·obtain ⟨ka, _, wa⟩ := wl_at s fr a hb (by omega) (by omega)
   obtain ⟨kb, _, wb⟩ := wl_at s fr b hb (by omega) h3
   have := fin_le (rise_of s) a b ka kb (by omega) h3
   omega
theorem cst_same (s : ByteArray) (wd : Int) {fr : Nat} {ws : List Nat} (h : Rd (tbS (piecesL s) wd) fr ws) : fr ≤ (clusters s).length → BgOk (partsL s) fr →
  cstE (tbS (piecesL s) wd) fr ws = if fitsW wd ((partsL s).getD fr pt0).ce (ws.map (stp s) ++ [fnS s]) = true then some (costW wd ((partsL s).getD fr pt0).ce (ws.map (stp s) ++ [fnS s])) else none := by
 induction h with
 | nil fr hk =>
  intro hfn hb
  have hR := rise_of s
  have hN : (tbS (piecesL s) wd).n = (clusters s).length := piecesL_len s
  rw [hN] at hk
  have hk2 : ∀ j, fr < j → j ≤ (clusters s).length → kindL (partsL s) j ≠ 1 := fun j a b => by
   rw [kindL_same s j (by omega) b]
   exact hk j a b
  have hln := line_ce s fr (clusters s).length 0 hb hfn (Nat.le_refl _) (fun h1 => ⟨fun e => absurd e (by decide), fun e => absurd ((hard_cl _ _).2 e) (hk2 _ h1 (Nat.le_refl _))⟩) (fun e => ⟨by decide, by
   rcases hb with hb | hb
   ·exact .inl hb
   ·refine .inr fun h2 => (hb h2).2.2 ?_
    rw [e]
    exact hR.fin⟩)
  have ef : (fnS s).fin.ce = ((partsL s).getD (stripB (partsL s) (stopE 0 (clusters s).length)) pt0).ce := by
   unfold fnS
   rw [partsL_len, Nat.add_sub_cancel]
   rfl
  unfold cstE
  rw [hN]
  show (if wd < sumR (piecesL s) fr (lineT (piecesL s) fr (clusters s).length - fr) then none else some ((wd - sumR (piecesL s) fr (lineT (piecesL s) fr (clusters s).length - fr)) * (wd - sumR (piecesL s) fr (lineT (piecesL s) fr (clusters s).length - fr)))) = if ((sbadI (fnS s).kind (fnS s).fin.ce ((partsL s).getD fr pt0).ce wd).2 && true) = true then some ((sbadI (fnS s).kind (fnS s).fin.ce ((partsL s).getD fr pt0).ce wd).1 + 0) else none
  rw [hln.2.2, ← ef]
  have hk0 : (fnS s).kind = 0 := rfl
  rw [Bool.and_true, hk0]
  by_cases hw : wd < (fnS s).fin.ce - ((partsL s).getD fr pt0).ce
  ·rw [if_pos hw, sbad_no _ _ _ _ hw]
   rfl
  ·rw [if_neg hw, sbad_yes _ _ _ _ hw, if_neg (show ¬ (0 : Int) = 3 by decide)]
   simp
 | cons fr t ws h1 h2 h3 h4 h5 ih =>
  intro hfn hb
  have hN : (tbS (piecesL s) wd).n = (clusters s).length := piecesL_len s
  rw [hN] at h2
  have hkt := kindL_same s t (by omega) h2
  have h3' : 0 < kindRL (piecesL s) t := h3
  have ih := ih h2 (bgOk_of _ _ (by omega))
  have hln := line_ce s fr t (kindL (partsL s) t) hb (by omega) h2 (fun _ => hard_cl _ _) (fun e => by omega)
  unfold cstE
  rw [ih]
  show (if wd < sumR (piecesL s) fr (lineT (piecesL s) fr t - fr) then none else Option.map (fun r => (wd - sumR (piecesL s) fr (lineT (piecesL s) fr t - fr)) * (wd - sumR (piecesL s) fr (lineT (piecesL s) fr t - fr)) + (if kindRL (piecesL s) t = 3 then 1048576 else 0) + r) _) = _
  rw [hln.2.2, ← hkt, List.map_cons, List.cons_append]
  obtain ⟨X, hX⟩ : ∃ X, stp s t = X := ⟨_, rfl⟩
  have x1 : ((partsL s).getD (stripB (partsL s) (stopE (kindL (partsL s) t) t)) pt0).ce = X.fin.ce := by rw [← hX]; rfl
  have x2 : ((partsL s).getD t pt0).ce = X.nxt.ce := by rw [← hX]; rfl
  have x3 : kindL (partsL s) t = X.kind := by rw [← hX]; rfl
  rw [hX, x1, x2, x3]
  show _ = if ((sbadI X.kind X.fin.ce ((partsL s).getD fr pt0).ce wd).2 && fitsW wd X.nxt.ce (ws.map (stp s) ++ [fnS s])) = true then some ((sbadI X.kind X.fin.ce ((partsL s).getD fr pt0).ce wd).1 + costW wd X.nxt.ce (ws.map (stp s) ++ [fnS s])) else none
  generalize ws.map (stp s) ++ [fnS s] = V
  by_cases hw : wd < X.fin.ce - ((partsL s).getD fr pt0).ce
  ·rw [if_pos hw, sbad_no _ _ _ _ hw]
   rfl
  ·rw [if_neg hw, sbad_yes _ _ _ _ hw, Bool.true_and]
   by_cases hf : fitsW wd X.nxt.ce V = true
   ·rw [if_pos hf, if_pos hf]
    rfl
   ·rw [if_neg hf, if_neg hf]
    rfl
theorem stF_skip (L : List Pt) (V : List St) (m : Nat) : ∀ d fr, (∀ j, fr < j → j ≤ fr + d → kindL L j ≠ 1) → SubK V (stF L (fr + d) m) → SubK V (stF L fr (d + m))
 | 0, fr, _, h => by rw [Nat.zero_add]; exact h
 | d + 1, fr, hk, h => by
  have ih := stF_skip L V m d (fr + 1) (fun j a b => hk j (by omega) (by omega)) (by rw [show fr + 1 + d = fr + (d + 1) by omega]; exact h)
  rw [show d + 1 + m = (d + m) + 1 by omega]
  unfold stF
  by_cases h0 : kindL L (fr + 1) = 0
  ·rw [if_pos h0]
   exact ih
  ·rw [if_neg h0]
   exact .skip _ _ _ (fun e => by
    have e : kindL L (fr + 1) = 1 ∨ kindL L (fr + 1) = 0 := e
    rcases e with e | e
    ·exact hk (fr + 1) (by omega) (by omega) e
    ·exact h0 e) ih
theorem sub_of_rd (s : ByteArray) (wd : Int) {fr : Nat} {ws : List Nat} (h : Rd (tbS (piecesL s) wd) fr ws) : fr ≤ (clusters s).length → SubK (ws.map (stp s)) (stF (partsL s) fr ((clusters s).length - fr)) := by
 have hN : (tbS (piecesL s) wd).n = (clusters s).length := piecesL_len s
 induction h with
 | nil fr hk =>
  intro hfn
  rw [hN] at hk
  have := stF_skip (partsL s) [] 0 ((clusters s).length - fr) fr (fun j a b => by
   rw [kindL_same s j (by omega) (by omega)]
   exact hk j a (by omega)) .nil
  rw [Nat.add_zero] at this
  exact this
 | cons fr t ws h1 h2 h3 h4 h5 ih =>
  intro hfn
  rw [hN] at h2
  have ih := ih h2
  have hkt := kindL_same s t (by omega) h2
  have h3' : 0 < kindRL (piecesL s) t := h3
  have e1 : stF (partsL s) (t - 1) ((clusters s).length - t + 1) = stp s t :: stF (partsL s) t ((clusters s).length - t) := by
   rw [stF, show t - 1 + 1 = t by omega, if_neg (by omega)]
   rfl
  have := stF_skip (partsL s) ((t :: ws).map (stp s)) ((clusters s).length - t + 1) (t - 1 - fr) fr (fun j a b => by
   rw [kindL_same s j (by omega) (by omega)]
   exact h4 j a (by omega)) (by
   rw [show fr + (t - 1 - fr) = t - 1 by omega, e1]
   exact .take _ _ _ ih)
  rw [show t - 1 - fr + ((clusters s).length - t + 1) = (clusters s).length - fr by omega] at this
  exact this
theorem rd_of_sub (s : ByteArray) (wd : Int) : ∀ (m fr : Nat) (V : List St), fr + m = (clusters s).length → SubK V (stF (partsL s) fr m) → ∃ ws, V = ws.map (stp s) ∧ ∀ f0, f0 ≤ fr → (∀ j, f0 < j → j ≤ fr → (tbS (piecesL s) wd).k j ≠ 1) → Rd (tbS (piecesL s) wd) f0 ws
 | 0, fr, V, e, h => by
  cases h with
  | nil => exact ⟨[], rfl, fun f0 h0 hk => .nil _ (fun j a b => hk j a (by
    have hN : (tbS (piecesL s) wd).n = (clusters s).length := piecesL_len s
    omega))⟩
 | m + 1, fr, V, e, h => by
  have hN : (tbS (piecesL s) wd).n = (clusters s).length := piecesL_len s
  have hk1 := kindL_same s (fr + 1) (by omega) (by omega)
  have hk2 : (tbS (piecesL s) wd).k (fr + 1) = kindRL (piecesL s) (fr + 1) := rfl
  have hge := kindRL_nonneg (piecesL s) (fr + 1)
  unfold stF at h
  have go : SubK V (stF (partsL s) (fr + 1) m) → kindL (partsL s) (fr + 1) ≠ 1 → ∃ ws, V = ws.map (stp s) ∧ ∀ f0, f0 ≤ fr → (∀ j, f0 < j → j ≤ fr → (tbS (piecesL s) wd).k j ≠ 1) → Rd (tbS (piecesL s) wd) f0 ws := fun h hn => by
   obtain ⟨ws, e1, e2⟩ := rd_of_sub s wd m (fr + 1) V (by omega) h
   exact ⟨ws, e1, fun f0 a b => e2 f0 (by omega) (fun j c d => by
    by_cases hj : j = fr + 1
    ·rw [hj, hk2, ← hk1]
     exact hn
    ·exact b j c (by omega))⟩
  by_cases h0 : kindL (partsL s) (fr + 1) = 0
  ·rw [if_pos h0] at h
   exact go h (by omega)
  ·rw [if_neg h0] at h
   have h : SubK V (stp s (fr + 1) :: stF (partsL s) (fr + 1) m) := h
   cases h with
   | take x V' S h =>
    obtain ⟨ws, e1, e2⟩ := rd_of_sub s wd m (fr + 1) V' (by omega) h
    refine ⟨(fr + 1) :: ws, by rw [e1]; rfl, fun f0 a b => .cons f0 (fr + 1) ws (by omega) (by omega) (by rw [hk2]; omega) (fun j c d => b j c (by omega)) (e2 (fr + 1) (Nat.le_refl _) (fun j c d => by omega))⟩
   | skip x V' S hn h => exact go h (fun e => hn (.inl e))
theorem fitsT_W (wd : Int) : ∀ (l : List St) (bg : Int), FitsT wd bg l → fitsW wd bg l = true
 | [], _, _ => rfl
 | x :: l, bg, h => by
  show ((sbadI x.kind x.fin.ce bg wd).2 && fitsW wd x.nxt.ce l) = true
  rw [h.1, fitsT_W wd l _ h.2]
  rfl
theorem subK_self : ∀ l : List St, SubK l l
 | [] => .nil
 | x :: l => .take x _ _ (subK_self l)
theorem way_is (s : ByteArray) (wd : Int) (hw : 2 ≤ wd) (fr : Nat) (hst : fr = 0 ∨ 0 < (tbS (piecesL s) wd).k fr) (hn : fr ≤ (clusters s).length) : ∃ vs c, Rd (tbS (piecesL s) wd) fr vs ∧ cstE (tbS (piecesL s) wd) fr vs = some c := by
 have hF : FitsT wd 0 (stopsTo (partsL s) (partsL s).length ++ [fnS s]) := fits_all (rise_of s) wd hw
 rw [partsL_len] at hF
 obtain ⟨ws, e1, e2⟩ := rd_of_sub s wd ((clusters s).length - fr) fr _ (by omega) (subK_self (stF (partsL s) fr ((clusters s).length - fr)))
 have hR := e2 fr (Nat.le_refl _) (fun j a b => by omega)
 have hb := bg_of s wd fr hn hst
 have hc := cst_same s wd hR hn hb
 have hs := stF_to (partsL s) ((clusters s).length - fr) fr
 rw [show fr + ((clusters s).length - fr) + 1 = (clusters s).length + 1 by omega] at hs
 rw [← hs] at hF
 have hfit : fitsW wd ((partsL s).getD fr pt0).ce (stF (partsL s) fr ((clusters s).length - fr) ++ [fnS s]) = true := by
  refine fitsT_W wd _ _ ?_
  by_cases h0 : fr = 0
  ·subst h0
   have e : stopsTo (partsL s) (0 + 1) = [] := by unfold stopsTo; rw [if_pos (.inl rfl)]; rfl
   rw [e, List.nil_append] at hF
   rw [(rise_of s).ce0]
   exact hF
  ·have hk : 0 < kindRL (piecesL s) fr := by
    rcases hst with h | h
    ·exact absurd h h0
    ·exact h
   have hkt := kindL_same s fr (by omega) hn
   have e : stopsTo (partsL s) (fr + 1) = stopsTo (partsL s) fr ++ [stp s fr] := by
    show stopsTo (partsL s) fr ++ (if fr = 0 ∨ kindL (partsL s) fr = 0 then [] else [stpAt (partsL s) fr (kindL (partsL s) fr)]) = _
    rw [if_neg (by omega)]
    rfl
   rw [e, List.append_assoc, List.append_assoc, List.singleton_append] at hF
   exact (fitsT_split wd _ _ _ _ hF).2
 rw [← e1, if_pos hfit] at hc
 exact ⟨ws, _, hR, hc⟩
theorem en_of (s : ByteArray) (wd : Int) (h : 0 < (tbS (piecesL s) wd).n) : (tbS (piecesL s) wd).k (tbS (piecesL s) wd).n = 1 ↔ (tbS (piecesL s) wd).en = true := by
 have hN : (tbS (piecesL s) wd).n = (clusters s).length := piecesL_len s
 have h' : 0 < (clusters s).length := by omega
 have hk := kindL_same s (clusters s).length (by omega) (Nat.le_refl _)
 have hc := piece_cl s ((clusters s).length - 1) (by omega)
 rw [hN]
 show kindRL (piecesL s) (clusters s).length = 1 ↔ enP (piecesL s) = true
 unfold enP
 rw [← hk, hard_cl, piecesL_len, hc.1]
 simp [h']
theorem lexN_ok (s : ByteArray) (z : St) : ∀ (W V : List Nat), (∀ t ∈ W, t ≤ (clusters s).length) → (∀ t ∈ V, t ≤ (clusters s).length) → W.length = V.length → LexN W V → LexOk (W.map (stp s) ++ [z]) (V.map (stp s) ++ [z])
 | [], [], _, _, _, _ => .inl ⟨rfl, trivial⟩
 | [], _ :: _, _, _, h, _ => by simp at h
 | _ :: _, [], _, _, h, _ => by simp at h
 | x :: W, y :: V, hx, hy, hl, h => by
  rcases h with ⟨rfl, h⟩ | h
  ·exact .inl ⟨rfl, lexN_ok s z W V (fun t ht => hx t (List.mem_cons_of_mem _ ht)) (fun t ht => hy t (List.mem_cons_of_mem _ ht)) (by simpa using hl) h⟩
  ·refine .inr ?_
   have := hy y (List.mem_cons_self ..)
   have := sg_lt s x (y - x - 1) (by omega)
   rw [show x + (y - x - 1) + 1 = y by omega] at this
   exact this
theorem lex_both : ∀ (W V : List St), W.length = V.length → LexOk W V → LexOk V W → W = V
 | [], [], _, _, _ => rfl
 | [], _ :: _, h, _, _ => by simp at h
 | _ :: _, [], h, _, _ => by simp at h
 | x :: W, y :: V, hl, h1, h2 => by
  rcases h1 with ⟨rfl, h1⟩ | h1
  ·rcases h2 with ⟨_, h2⟩ | h2
   ·rw [lex_both W V (by simpa using hl) h1 h2]
   ·omega
  ·rcases h2 with ⟨rfl, _⟩ | h2
   ·omega
   ·omega
theorem rd_le {D : Tb} {fr : Nat} {ws : List Nat} (h : Rd D fr ws) : ∀ t ∈ ws, 0 < t ∧ t ≤ D.n := by
 induction h with
 | nil fr hk => intro t ht; simp at ht
 | cons fr t ws h1 h2 h3 h4 h5 ih =>
  intro u hu
  rcases List.mem_cons.1 hu with rfl | hu
  ·exact ⟨by omega, h2⟩
  ·exact ih u hu
theorem least_rd (s : ByteArray) (hs : s.size ≤ 4096) (wd : Int) (hw : 2 ≤ wd ∧ wd ≤ 200) (way : List St) (x : St) (hway : wrapW s wd = way ++ [x]) :
  ∃ ws, way = ws.map (stp s) ∧ (∀ t ∈ ws, 0 < t ∧ t ≤ (clusters s).length) ∧ Fol (tbS (piecesL s) wd) (tabE (tbS (piecesL s) wd) 0) ws ∧ (tabE (tbS (piecesL s) wd) 0).bad = (wayB wd (way ++ [x])).1 ∧ Rd (tbS (piecesL s) wd) 0 ws := by
 obtain ⟨rfl, b1, b2, b3⟩ := best_all s hs wd hw way x hway
 have hN : (tbS (piecesL s) wd).n = (clusters s).length := piecesL_len s
 obtain ⟨ws, o1, o2, o3, o4, o5⟩ := opt_tab (tbS (piecesL s) wd) (fun fr a b h1 h2 h3 h4 => by
   rw [hN] at h4
   exact wl_mono s fr a b (bg_of s wd fr (by omega) h1) h2 h3 h4) (fun fr h1 h2 => way_is s wd hw.1 fr h1 (by rw [hN] at h2; exact h2)) (en_of s wd) (tbS (piecesL s) wd).n 0 (by omega) (Nat.zero_le _) (.inl rfl)
 rw [plS_stF] at b1
 obtain ⟨wv, e1, e2⟩ := rd_of_sub s wd (clusters s).length 0 way (by omega) b1
 have hRv := e2 0 (Nat.le_refl _) (fun j a b => by omega)
 have cv := cst_same s wd hRv (Nat.zero_le _) (.inl rfl)
 have cs := cst_same s wd o1 (Nat.zero_le _) (.inl rfl)
 rw [(rise_of s).ce0] at cv cs
 rw [← e1, if_pos b2] at cv
 have hsub := sub_of_rd s wd o1 (Nat.zero_le _)
 rw [Nat.sub_zero, ← plS_stF] at hsub
 have hfs : fitsW wd 0 (ws.map (stp s) ++ [fnS s]) = true := by
  apply Classical.byContradiction
  intro hne
  rw [if_neg hne, o2] at cs
  cases cs
 rw [if_pos hfs, o2] at cs
 have ecs := Option.some.inj cs
 obtain ⟨p1, p2⟩ := b3 _ hsub hfs
 obtain ⟨q1, q2⟩ := o5 wv _ hRv cv
 have l1 : way.length = wv.length := by rw [e1, List.length_map]
 have n1 : ((way ++ [fnS s]).length : Int) = (wv.length : Int) + 1 := by rw [List.length_append, List.length_singleton, l1]; omega
 have n2 : ((ws.map (stp s) ++ [fnS s]).length : Int) = (ws.length : Int) + 1 := by rw [List.length_append, List.length_singleton, List.length_map]; omega
 rw [n1, n2] at p1 p2
 rw [← o3] at q1 q2
 rw [ecs] at q1 q2
 unfold LEk at p1 q1
 have hc : costW wd 0 (way ++ [fnS s]) = costW wd 0 (ws.map (stp s) ++ [fnS s]) := by omega
 have hlen : ws.length = wv.length := by omega
 have x1 := p2 ⟨hc, by omega⟩
 have x2 := lexN_ok s (fnS s) ws wv (fun t ht => by have := (rd_le o1 t ht).2; omega) (fun t ht => by have := (rd_le hRv t ht).2; omega) hlen (q2 ⟨hc.symm, by omega⟩)
 rw [← e1] at x2
 have x3 := lex_both _ _ (by rw [List.length_append, List.length_append, List.length_map, l1, hlen]) x1 x2
 have x4 : way = ws.map (stp s) := (List.append_inj' x3 rfl).1
 refine ⟨ws, x4, fun t ht => by have := rd_le o1 t ht; omega, o4, ?_, o1⟩
 rw [wayB_cost, if_pos b2, ecs]
 exact hc.symm
theorem least_same (s : ByteArray) (hs : s.size ≤ 4096) (wd : Int) (hw : 2 ≤ wd ∧ wd ≤ 200) (way : List St) (x : St) (hway : wrapW s wd = way ++ [x]) :
  ∃ ws, way = ws.map (stp s) ∧ (∀ t ∈ ws, 0 < t ∧ t ≤ (clusters s).length) ∧ Fol (tbS (piecesL s) wd) (tabE (tbS (piecesL s) wd) 0) ws ∧ (tabE (tbS (piecesL s) wd) 0).bad = (wayB wd (way ++ [x])).1 := by
 obtain ⟨ws, h1, h2, h3, h4, _⟩ := least_rd s hs wd hw way x hway
 exact ⟨ws, h1, h2, h3, h4⟩
end Go.Proofs.YtlkgnheccoodpaaGreatDoor
namespace Go.Proofs.YtlkgnheccoodpaaGreatDoor
open Go.RowKit Go.Shelf
attribute [local go_sem] Oper.semAt_some
theorem PcR.crow {W : World} {g : Nat} {L : List Pc} (h : PcR W g L) : CRow L ⟨g, 0, none⟩ W := by
 refine ⟨h.1, fun i p hp => ?_⟩
 obtain ⟨h1, h2, h3, h4⟩ := h.2 i p hp
 have ha : ∀ n, (⟨g, 0, none⟩ : Addr).add n = ⟨g, n, none⟩ := fun n => by
  unfold Addr.add
  split
  ·rename_i h0
   rw [h0]
  ·simp
 rw [ha, ha, ha, ha]
 exact ⟨h1, h2, h3, h4⟩
def BRq (W : World) (ob : Option Addr) (B : List (Int × Int)) : Prop := ∀ (i : Nat) (b : Int × Int), B[i]? = some b → ∃ g, ob = some ⟨g, 0, none⟩ ∧ g < W.heap.size ∧ W.cell? ⟨g, i * 2, none⟩ = some (.int .i64 b.1) ∧ W.cell? ⟨g, i * 2 + 1, none⟩ = some (.int .i64 b.2)
theorem BRq.keep {W U : World} {ob : Option Addr} {B : List (Int × Int)} (h : BRq W ob B) (b : Below W.heap.size W U) : BRq U ob B := fun i x hx => by
 obtain ⟨g, h1, h2, h3, h4⟩ := h i x hx
 exact ⟨g, h1, Nat.lt_of_lt_of_le h2 b.size, (b.cell (p := ⟨g, i * 2, none⟩) h2).trans h3, (b.cell (p := ⟨g, i * 2 + 1, none⟩) h2).trans h4⟩
def natV (l : List Nat) : List Value := l.map fun n : Nat => Value.int .i64 (n : Int)
end Go.Proofs.YtlkgnheccoodpaaGreatDoor
namespace Go.Proofs.YtlkgnheccoodpaaGreatDoor
open Go.RowKit Go.Shelf
attribute [local go_sem] Oper.semAt_some
def ceF (P : List Pc) (fr : Nat) : Nat → Int
 | 0 => 0
 | d + 1 => if endsB (P.getD (fr + d) pc0) = true then ceF P fr d else ceF P fr d + (P.getD (fr + d) pc0).ce
def blF (P : List Pc) (fr : Nat) : Nat → Int
 | 0 => 0
 | d + 1 => if endsB (P.getD (fr + d) pc0) = true then blF P fr d else if blankB (P.getD (fr + d) pc0) = true then blF P fr d + (P.getD (fr + d) pc0).ce else 0
theorem getD_ce (P : List Pc) (h : ∀ x ∈ P, 0 ≤ x.ce ∧ x.ce ≤ 2) (i : Nat) : 0 ≤ (P.getD i pc0).ce ∧ (P.getD i pc0).ce ≤ 2 := by
 by_cases hl : i < P.length
 ·exact h _ (List.mem_of_getElem? (getD_some hl))
 ·have e : P.getD i pc0 = pc0 := by rw [List.getD, List.getElem?_eq_none (by omega)]; rfl
  rw [e]
  decide
theorem ceF_bd (P : List Pc) (fr : Nat) (h : ∀ x ∈ P, 0 ≤ x.ce ∧ x.ce ≤ 2) : ∀ d, (0 ≤ ceF P fr d ∧ ceF P fr d ≤ 2 * (d : Int)) ∧ 0 ≤ blF P fr d ∧ blF P fr d ≤ 2 * (d : Int)
 | 0 => ⟨⟨Int.le_refl _, Int.le_refl _⟩, Int.le_refl _, Int.le_refl _⟩
 | d + 1 => by
  have ih := ceF_bd P fr h d
  have hx := getD_ce P h (fr + d)
  unfold ceF blF
  split
  ·omega
  ·split <;> omega
theorem ceF_sum (P : List Pc) (fr : Nat) : ∀ d, (∀ j, j < d → endsB (P.getD (fr + j) pc0) = false) → ceF P fr d = sumR P fr d ∧ sumR P fr (stripR P fr (fr + d) - fr) = sumR P fr d - blF P fr d
 | 0, _ => by
  have := stripR_le P fr (fr + 0)
  rw [show stripR P fr (fr + 0) - fr = 0 by omega]
  exact ⟨rfl, rfl⟩
 | d + 1, h => by
  obtain ⟨i1, i2⟩ := ceF_sum P fr d (fun j hj => h j (by omega))
  have he := h d (by omega)
  have hs : sumR P fr (d + 1) = sumR P fr d + (P.getD (fr + d) pc0).ce := rfl
  unfold ceF blF
  rw [he, if_neg (by decide), if_neg (by decide), i1]
  refine ⟨rfl, ?_⟩
  rw [show fr + (d + 1) = (fr + d) + 1 by omega]
  by_cases hb : blankB (P.getD (fr + d) pc0) = true
  ·rw [if_pos hb, stripR, if_pos ⟨by omega, hb⟩, i2, hs]
   omega
  ·rw [if_neg hb, stripR, if_neg (fun e => hb e.2), show fr + d + 1 - fr = d + 1 by omega]
   omega
theorem wl_cb (P : List Pc) (fr : Nat) : ∀ d, (∀ j, j + 1 < d → endsB (P.getD (fr + j) pc0) = false) → ceF P fr d - blF P fr d = sumR P fr (lineT P fr (fr + d) - fr)
 | 0, _ => by
  rw [Nat.add_zero, wl_self]
  rfl
 | d + 1, h => by
  obtain ⟨i1, i2⟩ := ceF_sum P fr d (fun j hj => h j (by omega))
  unfold lineT
  rw [show fr + (d + 1) - 1 = fr + d by omega]
  by_cases he : endsB (P.getD (fr + d) pc0) = true
  ·have c1 : ceF P fr (d + 1) = ceF P fr d := by rw [ceF, if_pos he]
   have c2 : blF P fr (d + 1) = blF P fr d := by rw [blF, if_pos he]
   rw [if_pos ⟨by omega, he⟩, i2, c1, c2, i1]
  ·have he' : endsB (P.getD (fr + d) pc0) = false := by simpa using he
   rw [if_neg (fun e => he e.2)]
   obtain ⟨j1, j2⟩ := ceF_sum P fr (d + 1) (fun j hj => by
    by_cases hd : j = d
    ·rw [hd]; exact he'
    ·exact h j (by omega))
   rw [j2, j1]
theorem hard_ends (P : List Pc) (n : Nat) (h : kindRL P (n + 1) ≠ 1) : endsB (P.getD n pc0) = false := by
 cases hb : endsB (P.getD n pc0) with
 | false => rfl
 | true =>
  exfalso
  apply h
  unfold kindRL
  rw [show n + 1 - 1 = n by omega, hb]
  split
  ·rfl
  ·rfl
def TC (W : World) (G : Nat) (Q : List Be) : Prop := ∃ cur : Array Value, W.heap[G]? = some (.cells cur 96 (0, 0)) ∧ ∀ (i : Nat) (p : Be), Q[i]? = some p → cur[i * 3]? = some (.int .i64 p.bad) ∧ cur[i * 3 + 1]? = some (.int .i64 p.cnt) ∧ cur[i * 3 + 2]? = some (.int .i64 (p.nxt : Nat))
theorem TC.lt {W : World} {G : Nat} {Q : List Be} (h : TC W G Q) : G < W.heap.size := by
 obtain ⟨_, h1, _⟩ := h
 exact (Array.getElem?_eq_some_iff.1 h1).1
theorem TC.same {W U : World} {G : Nat} {Q : List Be} (h : TC W G Q) (e : U.heap[G]? = W.heap[G]?) : TC U G Q := by
 obtain ⟨cur, h1, h2⟩ := h
 exact ⟨cur, e.trans h1, h2⟩
theorem TC.keep {W U : World} {G : Nat} {Q : List Be} (h : TC W G Q) (b : Below W.heap.size W U) : TC U G Q := h.same (b.block G h.lt)
theorem TC.at {W : World} {G : Nat} {Q : List Be} (h : TC W G Q) {i : Nat} {p : Be} (hp : Q[i]? = some p) :
  (W.cell? ⟨G, i * 3, none⟩ = some (.int .i64 p.bad) ∧ W.cell? ⟨G, i * 3 + 1, none⟩ = some (.int .i64 p.cnt) ∧ W.cell? ⟨G, i * 3 + 2, none⟩ = some (.int .i64 (p.nxt : Nat))) ∧ W.frozen? ⟨G, i * 3, none⟩ = false ∧ W.frozen? ⟨G, i * 3 + 1, none⟩ = false ∧ W.frozen? ⟨G, i * 3 + 2, none⟩ = false := by
 obtain ⟨cur, h1, h2⟩ := h
 obtain ⟨c0, c1, c2⟩ := h2 i p hp
 simp [World.cell?, World.frozen?, h1, c0, c1, c2]
theorem TC.set {W : World} {G : Nat} {Q : List Be} (h : TC W G Q) (n : Nat) (v : Be) : TC (((W.setCell ⟨G, n * 3, none⟩ (.int .i64 v.bad)).setCell ⟨G, n * 3 + 1, none⟩ (.int .i64 v.cnt)).setCell ⟨G, n * 3 + 2, none⟩ (.int .i64 (v.nxt : Nat))) G (Q.set n v) := by
 obtain ⟨cur, h1, h2⟩ := h
 refine ⟨((cur.setIfInBounds (n * 3) (.int .i64 v.bad)).setIfInBounds (n * 3 + 1) (.int .i64 v.cnt)).setIfInBounds (n * 3 + 2) (.int .i64 (v.nxt : Nat)), set_at (set_at (set_at h1 _ _) _ _) _ _, fun i p hp => ?_⟩
 rw [List.getElem?_set] at hp
 by_cases c : n = i
 ·subst c
  rw [if_pos rfl] at hp
  split at hp
  ·rename_i hn
   obtain rfl : v = p := by simpa using hp
   obtain ⟨c0, c1, c2⟩ := h2 n Q[n] (List.getElem?_eq_getElem hn)
   have b0 := (Array.getElem?_eq_some_iff.1 c0).1
   have b1 := (Array.getElem?_eq_some_iff.1 c1).1
   have b2 := (Array.getElem?_eq_some_iff.1 c2).1
   refine ⟨?_, ?_, ?_⟩
   ·rw [Array.getElem?_setIfInBounds_ne (by omega), Array.getElem?_setIfInBounds_ne (by omega), Array.getElem?_setIfInBounds_self_of_lt b0]
   ·rw [Array.getElem?_setIfInBounds_ne (by omega), Array.getElem?_setIfInBounds_self_of_lt (by simpa using b1)]
   ·rw [Array.getElem?_setIfInBounds_self_of_lt (by simpa using b2)]
  ·cases hp
 ·rw [if_neg c] at hp
  obtain ⟨c0, c1, c2⟩ := h2 i p hp
  have ne : ∀ j, j < 3 → (((cur.setIfInBounds (n * 3) (.int .i64 v.bad)).setIfInBounds (n * 3 + 1) (.int .i64 v.cnt)).setIfInBounds (n * 3 + 2) (.int .i64 (v.nxt : Nat)))[i * 3 + j]? = cur[i * 3 + j]? := fun j hj => by
   rw [Array.getElem?_setIfInBounds_ne (by omega), Array.getElem?_setIfInBounds_ne (by omega), Array.getElem?_setIfInBounds_ne (by omega)]
  exact ⟨(ne 0 (by omega)).trans c0, (ne 1 (by omega)).trans c1, (ne 2 (by omega)).trans c2⟩
theorem TC.made {W : World} {base G n : Nat} (h : W.ownsRow base 96 3 (.slice (some ⟨G, 0, none⟩) n n) n (madeCells (Value.agg #[.int .i64 0, .int .i64 0, .int .i64 0]).cells (n * 3)).toList) : TC W G (List.replicate n be0) := by
 rcases h.2 with ⟨e, _⟩ | ⟨g2, cap2, cur, e, hb, hg, hcn, hcm, hs, h4⟩
 ·simp at e
 ·obtain ⟨rfl, rfl⟩ : G = g2 ∧ n = cap2 := by simpa using e
  refine ⟨cur, hg, fun i p hp => ?_⟩
  rw [List.getElem?_replicate] at hp
  split at hp
  ·rename_i hi
   obtain rfl : be0 = p := by simpa using hp
   have hk : ∀ j, j < n * 3 → cur[j]? = some (.int .i64 0) := fun j hj => by
    have : cur.toList[j]? = some (.int .i64 0) := by
     have h5 : (cur.toList.take (n * 3))[j]? = some (.int .i64 0) := by
      rw [h4]
      have h6 : (Value.agg #[.int .i64 0, .int .i64 0, .int .i64 0]).cells = #[.int .i64 0, .int .i64 0, .int .i64 0] := by kernel_rfl
      rw [h6]
      unfold madeCells
      simp [hj]
      have : j % 3 = 0 ∨ j % 3 = 1 ∨ j % 3 = 2 := by omega
      rcases this with e | e | e <;> rw [e] <;> rfl
     rw [List.getElem?_take] at h5
     simpa [hj] using h5
    simpa using this
   exact ⟨hk _ (by omega), hk _ (by omega), hk _ (by omega)⟩
  ·cases hp
theorem infoBe : (Tryz.prog.info? 96).map (fun i => (i.zero, i.size, i.bytes)) = some (some (.agg #[.int .i64 0, .int .i64 0, .int .i64 0]), 3, 24) := by kernel_rfl
set_option maxRecDepth 100000 in
set_option maxHeartbeats 400000 in
theorem rless_any (a b : Be) (w : World) : Calls Tryz.prog 82 #[.agg #[.int .i64 a.bad, .int .i64 a.cnt, .int .i64 (a.nxt : Nat)], .agg #[.int .i64 b.bad, .int .i64 b.cnt, .int .i64 (b.nxt : Nat)]] w fun e w' => e = .returned (.bool (lessE a b)) ∧ Below w.heap.size w w' := by
 obtain ⟨ab, ac, an⟩ := a
 obtain ⟨bb, bc, bn⟩ := b
 have HB := hideW (bupW (bel1W w (.cells #[.int .i64 ab, .int .i64 ac, .int .i64 (an : Nat)] 96)) (bel1W _ (.cells #[.int .i64 bb, .int .i64 bc, .int .i64 (bn : Nat)] 96)))
 unfold lessE
 by_cases h : ab = bb
 ·rw [if_pos h]
  have h1 : (ab != bb) = false := by simp [h]
  clear h
  go_enter Tryz.func82, Tryz.ntmps82
  go_wp2
  go_ret
  exact ⟨rfl, HB.out⟩
 ·rw [if_neg h]
  have h1 : (ab != bb) = true := by simp [h]
  clear h
  go_enter Tryz.func82, Tryz.ntmps82
  go_wp2
  go_ret
  exact ⟨rfl, HB.out⟩
end Go.Proofs.YtlkgnheccoodpaaGreatDoor
namespace Go.Proofs.YtlkgnheccoodpaaGreatDoor
open Go.RowKit Go.Shelf
attribute [local go_sem] Oper.semAt_some
set_option maxRecDepth 100000 in
theorem rcheckW_any (s : ByteArray) (wd : Int) (w : World) : Calls Tryz.prog 19 #[.string s, .int .i64 wd] w fun e w' => e = .returned (.int .i64 (wcheckI s.size wd)) ∧ w' = w := by
 unfold wcheckI
 by_cases h1 : wd < 2
 ·rw [if_pos (.inl h1)]
  go_enter Tryz.func19, Tryz.ntmps19
  go_wp2
  go_ret
  exact ⟨rfl, rfl⟩
 ·by_cases h2 : 200 < wd
  ·rw [if_pos (.inr h2)]
   go_enter Tryz.func19, Tryz.ntmps19
   go_wp2
   go_ret
   exact ⟨rfl, rfl⟩
  ·rw [if_neg (by omega)]
   by_cases h3 : 4096 < s.size
   ·rw [if_pos h3]
    have d3 : (4096 : Int) < (s.size : Int) := by omega
    go_enter Tryz.func19, Tryz.ntmps19
    go_wp2
    go_ret
    exact ⟨rfl, rfl⟩
   ·rw [if_neg h3]
    have d3 : ¬ (4096 : Int) < (s.size : Int) := by omega
    go_enter Tryz.func19, Tryz.ntmps19
    go_wp2
    go_ret
    exact ⟨rfl, rfl⟩
set_option maxRecDepth 100000 in
set_option maxHeartbeats 400000 in
theorem line_nil (oa : Option Addr) (ca : Nat) (w : World) :
  Calls Tryz.prog 24 #[.slice oa 0 ca, .int .i64 0, .int .i64 0] w fun e w' => e = .returned (.tuple #[.int .i64 0, .int .i64 0]) ∧ Below w.heap.size w w' := by
 go_enter Tryz.func24, Tryz.ntmps24
 go_wp2_with fail
 go_loopw [2] (fun tv wq => tv = .int .i64 0 ∧ wq = w) (fun _ _ => 0)
 case atStart => exact ⟨rfl, rfl⟩
 case round =>
  obtain ⟨rfl, rfl⟩ := hrel
  go_wp2_with fail
  go_loopw [8, 9] (fun nv iv wq => nv = .int .i64 0 ∧ iv = .int .i64 0 ∧ wq = wr) (fun _ _ _ => 0)
  case atStart => exact ⟨rfl, rfl, rfl⟩
  case round =>
   obtain ⟨rfl, rfl, rfl⟩ := hrel
   go_wp2_with fail
   refine bodyPost_ret (v := .tuple #[.int .i64 0, .int .i64 0]) (by simp [results, Tryz.results24, go_sem]) rfl ⟨rfl, Below.refl _ _⟩
end Go.Proofs.YtlkgnheccoodpaaGreatDoor
namespace Go.Proofs.YtlkgnheccoodpaaGreatDoor
open Go.RowKit Go.Shelf
attribute [local go_sem] Oper.semAt_some
theorem pieces_ce (s : ByteArray) : ∀ x ∈ piecesL s, 0 ≤ x.ce ∧ x.ce ≤ 2 := fun x hx => by
 unfold piecesL at hx
 obtain ⟨c, hc, rfl⟩ := List.mem_map.1 hx
 rw [rcl_clusters] at hc
 exact clusters_cells s c hc
theorem PcR.of_owns {W : World} {base g n cap : Nat} {Q : List Pc} (h : W.ownsRow base 64 4 (.slice (some ⟨g, 0, none⟩) n cap) n (flatPc Q)) (hn : n = Q.length) : PcR W g Q ∧ n ≤ cap ∧ cap ≤ maxLen := by
 rcases h.2 with ⟨e, _⟩ | ⟨g2, cap2, cur, e, hb, hg, hcn, hcm, _, h4⟩
 ·simp at e
 ·obtain ⟨rfl, rfl⟩ : g = g2 ∧ cap = cap2 := by simpa using e
  refine ⟨⟨(Array.getElem?_eq_some_iff.1 hg).1, fun i x hx => ?_⟩, hcn, hcm⟩
  obtain ⟨a0, a1, a2, a3⟩ := flatPc_at Q i x hx
  have hi := (List.getElem?_eq_some_iff.1 hx).1
  rw [← h4] at a0 a1 a2 a3
  rw [List.getElem?_take] at a0 a1 a2 a3
  rw [if_pos (by omega)] at a0 a1 a2 a3
  simp [World.cell?, hg] at a0 a1 a2 a3 ⊢
  exact ⟨a0, a1, a2, a3⟩
def NRow (W : World) (ov : Option Addr) (ws : List Nat) : Prop := ∀ (i t : Nat), ws[i]? = some t → ∃ g, ov = some ⟨g, 0, none⟩ ∧ g < W.heap.size ∧ W.cell? ⟨g, i, none⟩ = some (.int .i64 (t : Int))
theorem NRow.keep {W U : World} {ov : Option Addr} {ws : List Nat} (h : NRow W ov ws) (b : Below W.heap.size W U) : NRow U ov ws := fun i t ht => by
 obtain ⟨g, h1, h2, h3⟩ := h i t ht
 exact ⟨g, h1, Nat.lt_of_lt_of_le h2 b.size, (b.cell (p := ⟨g, i, none⟩) h2).trans h3⟩
theorem NRow.of_owns {W : World} {base : Nat} {v : Value} {ws : List Nat} (h : W.ownsRow base 3 1 v ws.length (natV ws)) : ∃ ov cap, v = .slice ov ws.length cap ∧ NRow W ov ws := by
 rcases h.2 with ⟨h1, h2⟩ | ⟨g, cap, cur, rfl, hb, hg, h3, h4, h5, h6⟩
 ·refine ⟨none, 0, by rw [h1, h2], fun i t ht => ?_⟩
  have := (List.getElem?_eq_some_iff.1 ht).1
  omega
 ·refine ⟨_, cap, rfl, fun i t ht => ⟨g, rfl, (Array.getElem?_eq_some_iff.1 hg).1, ?_⟩⟩
  have hi := (List.getElem?_eq_some_iff.1 ht).1
  have a : (natV ws)[i]? = some (.int .i64 (t : Int)) := by unfold natV; rw [List.getElem?_map, ht]; rfl
  rw [← h6, List.getElem?_take, if_pos (by omega)] at a
  simp [World.cell?, hg] at a ⊢
  exact a
end Go.Proofs.YtlkgnheccoodpaaGreatDoor
namespace Go.Proofs.YtlkgnheccoodpaaGreatDoor
open Go.RowKit Go.Shelf
attribute [local go_sem] Oper.semAt_some
set_option maxRecDepth 100000 in
set_option maxHeartbeats 2000000 in
theorem table_nil (oa : Option Addr) (ca : Nat) (wd : Int) (hw : 2 ≤ wd ∧ wd ≤ 200) (w : World) :
  Calls Tryz.prog 46 #[.slice oa 0 ca, .int .i64 wd] w fun e w' => ∃ G, e = .returned (.slice (some ⟨G, 0, none⟩) (0 + 1) (0 + 1)) ∧ TC w' G [⟨wd * wd, 0, 0⟩] ∧ Below w.heap.size w w' := by
 obtain ⟨i0, hi, hz0, hz1, hz2⟩ := info_partsC infoBe
 have HK := hideW (kinds_nil oa ca w)
 have u2 : 0 ≤ wd * wd ∧ wd * wd ≤ 40000 := by
  have m1 := Int.mul_nonneg (show 0 ≤ wd by omega) (show 0 ≤ wd by omega)
  have m2 : wd * wd ≤ 200 * 200 := Int.mul_le_mul hw.2 hw.2 (by omega) (by decide)
  omega
 have wa : IntKind.i64.wrap wd = wd := IntWalk.i64_in _ ⟨by omega, by omega⟩
 have wb : IntKind.i64.wrap (wd * wd) = wd * wd := IntWalk.i64_in _ ⟨by omega, by omega⟩
 have hw0 : ¬ wd < 0 := by omega
 go_enter Tryz.func46, Tryz.ntmps46
 go_wp2_with fail
 refine HK.out.mono ?_
 rintro e w1 ⟨rfl, b1⟩
 have H1 := hideW b1
 clear b1 HK
 go_wp2_with (at_make; refine wpList_make_full _ rfl _ _ 93 rfl w1.heap.size 96 i0 (.agg #[.int .i64 0, .int .i64 0, .int .i64 0]) 3 Tryz.underlying93 hi hz0 hz1 .i64 .i64 _ _ 1 rfl rfl (by omega) (by omega) (by rw [hz2]; omega) (by unfold maxLen; omega) (by simp) ?_; intro w2 own2 gr2)
 have B2 : Below w1.heap.size w1 w2 := Below.grown (Below.refl _ _) gr2 (Nat.le_refl _) (fun k hk => by cases hk)
 have hGw := H1.out.size
 have H2 := hideW (And.intro (TC.made own2) (bupW H1.out B2))
 clear own2 gr2 B2 H1
 go_loopw [8] (fun fv wq => (fv = .int .i64 0 ∧ wq = w2) ∨ (fv = .int .i64 (-1) ∧ TC wq w1.heap.size [⟨wd * wd, 0, 0⟩] ∧ Below w.heap.size w wq)) (fun fv _ => (intOf fv + 1).toNat)
 case atStart => exact .inl ⟨rfl, rfl⟩
 case round =>
  rcases hrel with ⟨rfl, rfl⟩ | ⟨rfl, hT, hB⟩
  ·obtain ⟨wq, rfl⟩ : ∃ wq, wq = wr := ⟨_, rfl⟩
   go_wp2_with fail
   go_loopw [9, 10, 11, 12] (fun fo cv bv tv wx => cv = .int .i64 0 ∧ bv = .int .i64 0 ∧ ((tv = .int .i64 0 ∧ fo = .bool false ∧ wx = wq) ∨ (tv = .int .i64 1 ∧ fo = .bool true ∧ TC wx w1.heap.size [⟨wd * wd, 0, 0⟩] ∧ Below w.heap.size w wx))) (fun _ _ _ tv _ => 2 - (intOf tv).toNat)
   case atStart => exact ⟨rfl, rfl, .inl ⟨rfl, rfl, rfl⟩⟩
   case round =>
    obtain ⟨rfl, rfl, hph⟩ := hrel
    rcases hph with ⟨rfl, rfl, rfl⟩ | ⟨rfl, rfl, hT, hB⟩
    ·obtain ⟨wq, rfl⟩ : ∃ wq, wq = wr := ⟨_, rfl⟩
     go_upto_region 33 with fail
     have hbY := bel1W wq (.cells #[.int .i64 (wd * wd), .int .i64 0, .int .i64 0] 96)
     have nY := World.alloc_heap_new wq (.cells #[.int .i64 (wd * wd), .int .i64 0, .int .i64 0] 96)
     generalize wq.alloc (.cells #[.int .i64 (wd * wd), .int .i64 0, .int .i64 0] 96) = wy at hbY nY ⊢
     have TY := H2.out.1.keep hbY
     have ⟨v0, v1, v2⟩ : wy.cell? ⟨wq.heap.size, 0, none⟩ = some (.int .i64 (wd * wd)) ∧ wy.cell? ⟨wq.heap.size, 1, none⟩ = some (.int .i64 0) ∧ wy.cell? ⟨wq.heap.size, 2, none⟩ = some (.int .i64 0) := by simp [World.cell?, nY]
     obtain ⟨⟨r0, r1, r2⟩, f0, f1, f2⟩ := TY.at (i := 0) (p := be0) rfl
     have HTY := hideW (And.intro TY (bupW H2.out.2 hbY))
     clear TY nY hbY
     go_quiet (fail)
     have a0 : (wy.drewN nq).frozen? ⟨w1.heap.size, 0, none⟩ = false := f0
     have a1 : (wy.drewN nq).frozen? ⟨w1.heap.size, 1, none⟩ = false := f1
     have a2 : (wy.drewN nq).frozen? ⟨w1.heap.size, 2, none⟩ = false := f2
     have g0 : (wy.drewN nq).cell? ⟨w1.heap.size, 0, none⟩ = _ := r0
     have g1 : (wy.drewN nq).cell? ⟨w1.heap.size, 1, none⟩ = _ := r1
     have g2 : (wy.drewN nq).cell? ⟨w1.heap.size, 2, none⟩ = _ := r2
     have b3 : (wy.drewN nq).cell? ⟨wq.heap.size, 0, none⟩ = _ := v0
     have b4 : (wy.drewN nq).cell? ⟨wq.heap.size, 1, none⟩ = _ := v1
     have b5 : (wy.drewN nq).cell? ⟨wq.heap.size, 2, none⟩ = _ := v2
     have HP := hideW ((HTY.out.1.keep (below_dnC (Below.refl _ _) nq)).set 0 ⟨wd * wd, 0, 0⟩)
     have HB := hideW ((((below_dnC HTY.out.2 nq).setCell (p := ⟨w1.heap.size, 0, none⟩) (by show w.heap.size ≤ w1.heap.size; omega) (.int .i64 (wd * wd))).setCell (p := ⟨w1.heap.size, 1, none⟩) (by show w.heap.size ≤ w1.heap.size; omega) (.int .i64 0)).setCell (p := ⟨w1.heap.size, 2, none⟩) (by show w.heap.size ≤ w1.heap.size; omega) (.int .i64 0))
     go_wp2_with fail
     go_roundw
     case rel => exact ⟨rfl, rfl, .inr ⟨rfl, rfl, HP.out, HB.out⟩⟩
     case measure => simp [intOf]
    ·have HF := hideW (And.intro hT hB)
     clear hT hB
     go_wp2_with fail
     go_roundw
     case rel => exact .inr ⟨rfl, HF.out.1, HF.out.2⟩
     case measure => simp [intOf]
  ·have HF := hideW (And.intro hT hB)
   clear hT hB
   go_wp2_with fail
   refine bodyPost_ret (v := .slice (some ⟨w1.heap.size, 0, none⟩) 1 1) (by simp [results, Tryz.results46, go_sem]) rfl ⟨_, rfl, HF.out.1, HF.out.2⟩
theorem slice_lenN {W : World} {base e sz n : Nat} {v : Value} {xs : List Value} (h : W.ownsRow base e sz v n xs) : ∃ oa cap, v = .slice oa n cap := by
 rcases h.2 with ⟨rfl, rfl⟩ | ⟨g, cap, cur, rfl, _⟩
 ·exact ⟨none, 0, rfl⟩
 ·exact ⟨_, _, rfl⟩
def lenVw : Value → Nat
 | .slice _ n _ => n
 | _ => 0
theorem natV_snoc2 (l : List Nat) (x : Nat) : natV (l ++ [x]) = natV l ++ [.int .i64 (x : Int)] := by simp [natV]
set_option maxRecDepth 100000 in
set_option maxHeartbeats 1000000 in
theorem way_walk (oa : Option Addr) (n ca : Nat) (wd : Int) (D : Tb) (hn : D.n ≤ 5000) (ws : List Nat) (hl : ws.length ≤ 5000) (hF : Fol D (tabE D 0) ws) (hws : ∀ t ∈ ws, 0 < t ∧ t ≤ D.n) (w : World)
  (hTab : Calls Tryz.prog 46 #[.slice oa n ca, .int .i64 wd] w fun e w' => ∃ G, e = .returned (.slice (some ⟨G, 0, none⟩) (D.n + 1) (D.n + 1)) ∧ TC w' G (rowT D (D.n + 1)) ∧ Below w.heap.size w w') :
  Calls Tryz.prog 22 #[.slice oa n ca, .int .i64 wd] w fun e w' => ∃ v, e = .returned (.tuple #[v, .int .i64 (tabE D 0).bad]) ∧ w'.ownsRow w.heap.size 3 1 v ws.length (natV ws) ∧ Below w.heap.size w w' := by
 obtain ⟨i0, hi, hz0, hz1, hz2⟩ := info_partsC infoI10
 have HTb := hideW hTab
 have HRow : Hid (∀ t, t ≤ D.n → (rowT D (D.n + 1))[t]? = some (tabE D t)) := fun t ht => getD_some (by rw [rowT_len]; omega)
 have HF := hideW (And.intro hF hws)
 clear hTab hF hws
 go_enter Tryz.func22, Tryz.ntmps22
 go_wp2_with fail
 refine HTb.out.mono ?_
 rintro e w1 ⟨G, rfl, tc, b1⟩
 obtain ⟨⟨c0, _, c2⟩, _⟩ := tc.at (HRow.out 0 (Nat.zero_le _))
 have H1 := hideW (And.intro tc b1)
 have z0 : (0 : Int) < (D.n : Int) + 1 := by omega
 rw [Nat.zero_mul] at c0
 rw [Nat.zero_mul, Nat.zero_add] at c2
 clear tc b1 HTb
 go_wp2_with fail
 go_loopw [7, 8] (fun ov av wq => ∃ (pre rest : List Nat) (cur : Be), ws = pre ++ rest ∧ av = .int .i64 (cur.nxt : Nat) ∧ Fol D cur rest ∧ wq.ownsRow w1.heap.size 3 1 ov pre.length (natV pre) ∧ TC wq G (rowT D (D.n + 1)) ∧ Below w1.heap.size w1 wq) (fun ov _ _ => ws.length + 1 - lenVw ov)
 case atStart => exact ⟨[], ws, tabE D 0, rfl, rfl, HF.out.1, World.ownsRow_nil _ _ _ _, H1.out.1, Below.refl _ _⟩
 case round =>
  obtain ⟨pre, rest, cur, hpr, rfl, hfo, hown, htc, hB⟩ := hrel
  have hz := hB.size
  have hln : ws.length = pre.length + rest.length := by rw [hpr, List.length_append]
  cases rest with
  | nil =>
   have e0 : cur.nxt = 0 := hfo
   rw [e0]
   obtain ⟨⟨d0, _, _⟩, _⟩ := htc.at (HRow.out 0 (Nat.zero_le _))
   rw [Nat.zero_mul] at d0
   rw [List.append_nil] at hpr
   subst hpr
   obtain ⟨oq, cq, rfl⟩ := slice_lenN hown
   have HW := hideW (And.intro hown (bupW H1.out.2 hB))
   have hzz := H1.out.2.size
   clear hown hB htc hfo hln
   go_wp2_with fail
   go_region_held3 (fun w' => w'.cell? ⟨G, 0, none⟩ = some (.int .i64 (tabE D 0).bad)) (first | go_keep | assumption) (fail)
   go_wp2_with fail
   refine bodyPost_ret (v := .tuple #[.slice oq ws.length cq, .int .i64 (tabE D 0).bad]) (by simp [results, Tryz.results22, go_sem]) rfl ⟨_, rfl, ?_, ?_⟩
   ·exact ownsRow_from HW.out.1.drew hzz
   ·exact HW.out.2.drew
  | cons t rest =>
   obtain ⟨e0, ht0, hfo⟩ : cur.nxt = t ∧ 0 < t ∧ Fol D (tabE D t) rest := hfo
   rw [e0]
   have htn := (HF.out.2 t (by rw [hpr]; simp)).2
   obtain ⟨⟨_, _, d2⟩, _⟩ := htc.at (HRow.out t htn)
   have gt : (0 : Int) < (t : Int) := by omega
   have tl : (t : Int) < (D.n : Int) + 1 := by omega
   have hl2 : pre.length + 1 ≤ 5000 := by rw [List.length_cons] at hln; omega
   have HW := hideW (And.intro hown (And.intro htc (And.intro hB (And.intro hfo hpr))))
   obtain ⟨oq, cq, rfl⟩ := slice_lenN hown
   clear hown htc hB hfo hpr
   go_wp2_with (at_builtin; refine wpList_append_own _ rfl _ _ 58 rfl w1.heap.size 3 i0 (.int .i64 0) 1 8 Tryz.underlying58 hi hz0 hz1 hz2 rfl (by decide) _ _ _ rfl (HW.out.1.alloc _) ⟨wr.heap.size, 0, none⟩ 1 1 [.int .i64 (t : Int)] rfl rfl (cell_oneT _ _ _) (fun u hu => by simp at hu; rcases hu with rfl; rfl) (by unfold maxLen; omega) (by omega) (by simp; omega) ?_; intro v6 w6 own6 gr6 _; have B6 := Below.grown (HW.out.2.2.1.alloc hz (.cells #[.int .i64 (t : Int)] 3)) gr6 (by simp; omega) (fun k hk => by have := (HW.out.1.lt k hk).1; omega); have T6 : TC w6 G (rowT D (D.n + 1)) := (by obtain ⟨cur', h1, h2⟩ := HW.out.2.1; exact ⟨cur', (gr6.block _ (by have := (Array.getElem?_eq_some_iff.1 h1).1; simp; omega) (row_apart HW.out.1 h1 (by decide))).trans ((Below.heap_alloc _ _ _ (Array.getElem?_eq_some_iff.1 h1).1).trans h1), h2⟩); obtain ⟨⟨_, _, d6⟩, _⟩ := T6.at (HRow.out t htn); have H6 := hideW (And.intro own6 (And.intro B6 T6)); obtain ⟨g6, cap6, rfl⟩ := ownsRow_succ own6; clear own6 B6 T6 gr6)
   go_roundw
   case rel =>
    refine ⟨pre ++ [t], rest, tabE D t, by rw [HW.out.2.2.2.2]; simp, rfl, HW.out.2.2.2.1, ?_, H6.out.2.2, H6.out.2.1⟩
    rw [natV_snoc2, List.length_append]
    exact H6.out.1
   case measure => simp [lenVw]; rw [List.length_cons] at hln; omega
end Go.Proofs.YtlkgnheccoodpaaGreatDoor
namespace Go.Proofs.YtlkgnheccoodpaaGreatDoor
open Go.RowKit Go.Shelf
attribute [local go_sem] Oper.semAt_some
end Go.Proofs.YtlkgnheccoodpaaGreatDoor
namespace Go.Proofs.YtlkgnheccoodpaaGreatDoor
open Go.RowKit Go.Shelf
attribute [local go_sem] Oper.semAt_some
end Go.Proofs.YtlkgnheccoodpaaGreatDoor
