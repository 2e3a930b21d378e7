/- Several texts, one behind the other. -/
import Derived.Test.YtipnefaggpigfaaGL
/- The map's own knots rise (chapter 6). -/
namespace Go.Proofs.Ytipnefaggpigfaa
open Go.RowKit Go.Shelf

theorem subA_ok {a b : Rt} (h : (subA a b).2 = 0) : rightB a = true ∧ rightB b = true ∧ rightB (subA a b).1 = true ∧ valQ (subA a b).1 = valQ a - valQ b := by
  unfold subA at *
  by_cases hr : (rightB a && rightB b) = true
  · rw [if_pos hr] at h ⊢
    rw [Bool.and_eq_true] at hr
    obtain ⟨h1, h2⟩ := low_ok_right _ h
    exact ⟨hr.1, hr.2, h1, h2⟩
  · rw [if_neg hr] at h
    cases h
theorem errK_all {f : Rt → Rt × Int} : ∀ {P : List (Rt × Int)}, errK f P = 0 → ∀ x ∈ P, x.2 = 0 ∧ (f x.1).2 = 0
  | [], _, x, hx => by cases hx
  | y :: P, h, x, hx => by
    have h' : (if ¬ y.2 = 0 then y.2 else if ¬ (f y.1).2 = 0 then (f y.1).2 else errK f P) = 0 := h
    by_cases h1 : y.2 = 0
    · rw [if_neg (fun e => e h1)] at h'
      by_cases h2 : (f y.1).2 = 0
      · rw [if_neg (fun e => e h2)] at h'
        rcases List.mem_cons.1 hx with rfl | hx
        · exact ⟨h1, h2⟩
        · exact errK_all h' x hx
      · rw [if_pos h2] at h'
        exact absurd h' h2
    · rw [if_pos h1] at h'
      exact absurd h' h1
theorem newE_zero {L : List Kn} (h : newE L = 0) : chkK L = 0 ∧ slE L = 0 ∧ errK (newF L) (ownP L) = 0 ∧ slE (newK L) = 0 := by
  unfold newE at h
  by_cases h1 : chkK L = 0
  · rw [if_neg (fun e => e h1)] at h
    by_cases h2 : slE L = 0
    · rw [if_neg (fun e => e h2)] at h
      by_cases h3 : errK (newF L) (ownP L) = 0
      · rw [if_neg (fun e => e h3)] at h
        exact ⟨h1, h2, h3, h⟩
      · rw [if_pos h3] at h
        exact absurd h h3
    · rw [if_pos h2] at h
      exact absurd h h2
  · rw [if_pos h1] at h
    exact absurd h h1
/-- Rising, right times. -/
def RisL (B : List Rt) : Prop := (∀ x ∈ B, rightB x = true) ∧ B.Pairwise fun a b => valQ a < valQ b
theorem bnd_ris {L : List Kn} (h : RisQ (·.i) L) : RisL (bndK L) := by
  have hs := bnt_sub L (slsK L)
  have e : bndK L = ((bntK L (slsK L)).map (·.1)).map (·.i) := by
    unfold bndK bndI
    rw [List.map_map]
    rfl
  rw [e]
  refine ⟨fun x hx => ?_, ?_⟩
  · obtain ⟨y, hy, rfl⟩ := List.mem_map.1 hx
    exact h.1 y (hs.subset hy)
  · rw [List.pairwise_map]
    exact h.2.sublist hs
theorem val_oneK : valQ ⟨1, 1⟩ = 1 := by decide +kernel
theorem pts_ris {B : List Rt} (h : RisL B) (he : ∀ x ∈ ptsA B, x.2 = 0) : RisL ((ptsA B).map (·.1)) := by
  cases B with
  | nil =>
    refine ⟨fun x hx => ?_, ?_⟩
    · simp only [ptsA, List.map_cons, List.map_nil, List.mem_cons, List.not_mem_nil, or_false] at hx
      rcases hx with rfl | rfl <;> decide +kernel
    · simp only [ptsA, List.map_cons, List.map_nil]
      refine List.Pairwise.cons (fun y hy => ?_) (List.pairwise_singleton _ _)
      rw [List.mem_singleton] at hy
      subst hy
      decide +kernel
  | cons b L =>
    have e1 : (subA b ⟨1, 1⟩).2 = 0 := he _ (by unfold ptsA; exact List.mem_cons_self ..)
    have e2 : (addA ((b :: L).getLastD b) ⟨1, 1⟩).2 = 0 := he _ (by unfold ptsA; exact List.mem_cons_of_mem _ (List.mem_append_right _ (List.mem_singleton.2 rfl)))
    obtain ⟨s1, s2, s3, s4⟩ := subA_ok e1
    obtain ⟨a1, a2, a3, a4⟩ := addA_ok e2
    rw [val_oneK] at s4 a4
    have hm : ((b :: L).map (fun t => (t, (0 : Int)))).map (·.1) = b :: L := by
      rw [List.map_map]
      exact List.map_id _
    have hmap : (ptsA (b :: L)).map (·.1) = (subA b ⟨1, 1⟩).1 :: ((b :: L) ++ [(addA ((b :: L).getLastD b) ⟨1, 1⟩).1]) := by
      unfold ptsA
      rw [List.map_cons, List.map_append, hm]
      rfl
    rw [hmap]
    have hge : ∀ x ∈ b :: L, valQ b ≤ valQ x := fun x hx => by
      rcases List.mem_cons.1 hx with rfl | hx
      · exact Rat.le_refl
      · have := (List.pairwise_cons.1 h.2).1 x hx
        grind
    have hla : ∀ x ∈ b :: L, valQ x ≤ valQ ((b :: L).getLastD b) := by
      have hlast := last_M b L
      obtain ⟨hl, hz⟩ := List.getElem?_eq_some_iff.1 hlast
      intro x hx
      obtain ⟨i, hi, rfl⟩ := List.getElem_of_mem hx
      rw [← hz]
      by_cases hi2 : i = L.length
      · subst hi2
        exact Rat.le_refl
      · have hi' : i < (b :: L).length := hi
        have := List.pairwise_iff_getElem.1 h.2 i L.length hi hl (by simp at hi'; omega)
        grind
    refine ⟨fun x hx => ?_, ?_⟩
    · rcases List.mem_cons.1 hx with rfl | hx
      · exact s3
      · rcases List.mem_append.1 hx with hx | hx
        · exact h.1 x hx
        · rw [List.mem_singleton] at hx
          rw [hx]
          exact a3
    · refine List.Pairwise.cons (fun y hy => ?_) ?_
      · rcases List.mem_append.1 hy with hy | hy
        · have := hge y hy
          rw [s4]
          grind
        · rw [List.mem_singleton] at hy
          rw [hy, s4, a4]
          have := hla b (List.mem_cons_self ..)
          grind
      · refine List.pairwise_append.2 ⟨h.2, List.pairwise_singleton _ _, fun x hx y hy => ?_⟩
        rw [List.mem_singleton] at hy
        rw [hy, a4]
        have := hla x hx
        grind
/-- The own knots' ins rise. -/
theorem new_ris {L : List Kn} (h : newE L = 0) : RisQ (·.i) (newK L) := by
  obtain ⟨h1, h2, h3, h4⟩ := newE_zero h
  obtain ⟨-, -, hi, -⟩ := chk_ok h1
  have hp := pts_ris (bnd_ris hi) (fun x hx => (errK_all h3 x hx).1)
  have e : (newK L).map (·.i) = (ptsA (bndK L)).map (·.1) := by
    unfold newK kntK ownP
    rw [List.map_map]
    rfl
  rw [← e] at hp
  refine ⟨fun x hx => hp.1 _ (List.mem_map.2 ⟨x, hx, rfl⟩), ?_⟩
  have := hp.2
  rw [List.pairwise_map] at this
  exact this
end Go.Proofs.Ytipnefaggpigfaa

/- Broken lines over the rationals (chapter 6): a map of times, as one says it. -/
namespace Go.Proofs.Ytipnefaggpigfaa

/-- The broken line through (x0, o0) that rises by s0, and by s behind each bend (i, s). -/
def hev (x0 o0 s0 : Rat) : List (Rat × Rat) → Rat → Rat
  | [], t => o0 + (t - x0) * s0
  | (i, s) :: R, t => if t ≤ i then o0 + (t - x0) * s0 else hev i (o0 + (i - x0) * s0) s R t
theorem hev_nil (x0 o0 s0 t : Rat) : hev x0 o0 s0 [] t = o0 + (t - x0) * s0 := rfl
theorem hev_cons (x0 o0 s0 t i s : Rat) (R : List (Rat × Rat)) : hev x0 o0 s0 ((i, s) :: R) t = if t ≤ i then o0 + (t - x0) * s0 else hev i (o0 + (i - x0) * s0) s R t := rfl
theorem hev_base (x0 o0 s0 i t : Rat) (R : List (Rat × Rat)) : hev i (o0 + (i - x0) * s0) s0 R t = hev x0 o0 s0 R t := by
  have e1 : ∀ j : Rat, o0 + (i - x0) * s0 + (j - i) * s0 = o0 + (j - x0) * s0 := fun j => by grind
  cases R with
  | nil => rw [hev_nil, hev_nil, e1]
  | cons y R =>
    obtain ⟨j, s⟩ := y
    rw [hev_cons, hev_cons, e1, e1]
theorem hev_drop (x0 o0 s0 i t : Rat) (R : List (Rat × Rat)) (h : ∀ y ∈ R, i ≤ y.1) : hev x0 o0 s0 ((i, s0) :: R) t = hev x0 o0 s0 R t := by
  rw [hev_cons, hev_base]
  split
  · rename_i ht
    cases R with
    | nil => rfl
    | cons y R =>
      obtain ⟨j, s⟩ := y
      have := h (j, s) (List.mem_cons_self ..)
      rw [hev_cons, if_pos (Rat.le_trans ht this)]
  · rfl
theorem hev_end (e t : Rat) : ∀ (R : List (Rat × Rat)) (x0 o0 s0 : Rat), hev x0 o0 s0 (R ++ [(e, (R.map (·.2)).getLastD s0)]) t = hev x0 o0 s0 R t
  | [], x0, o0, s0 => hev_drop x0 o0 s0 e t [] (fun _ h => by cases h)
  | (i, s) :: R, x0, o0, s0 => by
    rw [List.cons_append, hev_cons, hev_cons, List.map_cons, List.getLastD_cons, hev_end e t R]
/-- Rising bends. -/
def RisB (R : List (Rat × Rat)) : Prop := R.Pairwise fun a b => a.1 < b.1
theorem hev_first (x0 o0 s0 t : Rat) (R : List (Rat × Rat)) (h : ∀ y, R[0]? = some y → t ≤ y.1) : hev x0 o0 s0 R t = o0 + (t - x0) * s0 := by
  cases R with
  | nil => rfl
  | cons y R =>
    obtain ⟨j, s⟩ := y
    rw [hev_cons, if_pos (h (j, s) rfl)]
theorem hev_seg : ∀ (R : List (Rat × Rat)) (x0 o0 s0 : Rat) (k : Nat) (t i s : Rat), RisB R → R[k]? = some (i, s) → i ≤ t → (∀ y, R[k + 1]? = some y → t ≤ y.1) → hev x0 o0 s0 R t = hev x0 o0 s0 R i + (t - i) * s
  | [], _, _, _, _, _, _, _, _, h, _, _ => by cases h
  | (j, u) :: R, x0, o0, s0, 0, t, i, s, _, h, h1, h2 => by
    cases h
    rw [hev_cons, hev_cons, if_pos (Rat.le_refl : j ≤ j)]
    split
    · rename_i h3
      obtain rfl : t = j := Rat.le_antisymm h3 h1
      grind
    · rw [hev_first _ _ _ _ R (fun y hy => h2 y hy)]
  | (j, u) :: R, x0, o0, s0, k + 1, t, i, s, hp, h, h1, h2 => by
    have hji : j < i := (List.pairwise_cons.1 hp).1 (i, s) (List.mem_of_getElem? h)
    have n1 : ¬ i ≤ j := by grind
    have n2 : ¬ t ≤ j := by grind
    rw [hev_cons, hev_cons, if_neg n1, if_neg n2]
    exact hev_seg R _ _ _ k t i s (List.pairwise_cons.1 hp).2 h h1 (fun y hy => h2 y hy)
theorem mul_risesH {a b s : Rat} (h : a < b) (hs : 0 < s) : a * s < b * s := by
  have := Rat.mul_pos (show 0 < b - a by grind) hs
  grind
theorem hev_rises : ∀ (R : List (Rat × Rat)) (x0 o0 s0 t u : Rat), RisB R → 0 < s0 → (∀ y ∈ R, 0 < y.2) → t < u → hev x0 o0 s0 R t < hev x0 o0 s0 R u
  | [], x0, o0, s0, t, u, _, hs, _, htu => by
    have := mul_risesH (show t - x0 < u - x0 by grind) hs
    rw [hev_nil, hev_nil]
    grind
  | (i, s) :: R, x0, o0, s0, t, u, hp, hs, hq, htu => by
    have hp' := (List.pairwise_cons.1 hp)
    have hs' : 0 < s := hq (i, s) (List.mem_cons_self ..)
    have hq' : ∀ y ∈ R, 0 < y.2 := fun y hy => hq y (List.mem_cons_of_mem _ hy)
    rw [hev_cons, hev_cons]
    by_cases h1 : t ≤ i
    · rw [if_pos h1]
      by_cases h2 : u ≤ i
      · rw [if_pos h2]
        have := mul_risesH (show t - x0 < u - x0 by grind) hs
        grind
      · rw [if_neg h2]
        have e := hev_first i (o0 + (i - x0) * s0) s i R (fun y hy => by
          have := hp'.1 y (List.mem_of_getElem? hy)
          grind)
        have l1 := hev_rises R i (o0 + (i - x0) * s0) s i u hp'.2 hs' hq' (by grind)
        have l2 : (t - x0) * s0 ≤ (i - x0) * s0 := by
          by_cases h3 : t = i
          · rw [h3]; exact Rat.le_refl
          · have := mul_risesH (show t - x0 < i - x0 by grind) hs
            grind
        grind
    · have h2 : ¬ u ≤ i := by grind
      rw [if_neg h1, if_neg h2]
      exact hev_rises R _ _ _ _ _ hp'.2 hs' hq' htu
/-- The bends of rows of knots and slopes. -/
def lnK (K : List Kn) (T : List Rt) : List (Rat × Rat) := (K.zip T).map fun x => (valQ x.1.i, valQ x.2)
theorem lnK_cons (k : Kn) (K : List Kn) (b : Rt) (T : List Rt) : lnK (k :: K) (b :: T) = (valQ k.i, valQ b) :: lnK K T := rfl
theorem lnK_mem {K : List Kn} {T : List Rt} {y : Rat × Rat} (h : y ∈ lnK K T) : (∃ x ∈ K, y.1 = valQ x.i) ∧ ∃ s ∈ T, y.2 = valQ s := by
  obtain ⟨x, hx, rfl⟩ := List.mem_map.1 h
  have := List.of_mem_zip (a := x.1) (b := x.2) hx
  exact ⟨⟨_, this.1, rfl⟩, _, this.2, rfl⟩
theorem lnK_ris {K : List Kn} (h : K.Pairwise fun a b => valQ a.i < valQ b.i) : ∀ T : List Rt, RisB (lnK K T) := by
  induction K with
  | nil => intro T; exact List.Pairwise.nil
  | cons k K ih =>
    intro T
    cases T with
    | nil => exact List.Pairwise.nil
    | cons b T =>
      rw [lnK_cons]
      refine List.pairwise_cons.2 ⟨fun y hy => ?_, ih (List.pairwise_cons.1 h).2 T⟩
      obtain ⟨⟨x, hx, e⟩, -⟩ := lnK_mem hy
      rw [e]
      exact (List.pairwise_cons.1 h).1 x hx
def pqK (x : Kn × Rt) : Rat × Rat := (valQ x.1.i, valQ x.2)
theorem bent_not {a b : Rt} (h : ¬ bentB a b = true) : a = b := by
  obtain ⟨x, y⟩ := a
  obtain ⟨z, w⟩ := b
  simp [bentB] at h
  simp [h]
theorem hev_bnt (t : Rat) : ∀ (K : List Kn) (a : Rt) (T : List Rt) (x0 o0 : Rat), T.length = K.length → (K.Pairwise fun a b => valQ a.i < valQ b.i) → hev x0 o0 (valQ a) (lnK K T) t = hev x0 o0 (valQ a) ((bntK K (a :: T)).map pqK) t
  | [], a, T, x0, o0, hl, _ => by
    obtain rfl : T = [] := List.length_eq_zero_iff.1 hl
    rfl
  | k :: K, a, [], _, _, hl, _ => by cases hl
  | k :: K, a, b :: T, x0, o0, hl, hp => by
    have hp' := List.pairwise_cons.1 hp
    have hl' : T.length = K.length := by simpa using hl
    rw [lnK_cons]
    show _ = hev x0 o0 (valQ a) ((if bentB a b = true then (k, b) :: bntK K (b :: T) else bntK K (b :: T)).map pqK) t
    by_cases hb : bentB a b = true
    · rw [if_pos hb, List.map_cons]
      show _ = hev x0 o0 (valQ a) ((valQ k.i, valQ b) :: _) t
      rw [hev_cons, hev_cons, hev_bnt t K b T _ _ hl' hp'.2]
    · rw [if_neg hb]
      obtain rfl := bent_not hb
      rw [hev_drop, hev_bnt t K a T _ _ hl' hp'.2]
      intro y hy
      obtain ⟨⟨x, hx, e⟩, -⟩ := lnK_mem hy
      rw [e]
      have := hp'.1 x hx
      grind
end Go.Proofs.Ytipnefaggpigfaa

/- Rows of knots and slopes that do what a broken line says (chapter 6). -/
namespace Go.Proofs.Ytipnefaggpigfaa

theorem slope_ok {a b : Kn} (hi : valQ a.i < valQ b.i) (h : (slopeA a b).2 = 0) : rightB (slopeA a b).1 = true ∧ valQ (slopeA a b).1 * (valQ b.i - valQ a.i) = valQ b.o - valQ a.o := by
  unfold slopeA at *
  by_cases h1 : (subA b.o a.o).2 = 0
  · rw [if_neg (fun e => e h1)] at h ⊢
    by_cases h2 : (subA b.i a.i).2 = 0
    · rw [if_neg (fun e => e h2)] at h ⊢
      obtain ⟨_, _, r1, v1⟩ := subA_ok h1
      obtain ⟨_, _, r2, v2⟩ := subA_ok h2
      have hn : (subA b.i a.i).1.N ≠ 0 := by
        intro e
        have : valQ (subA b.i a.i).1 = 0 := by unfold valQ; rw [e]; exact Rat.zero_divInt _
        grind
      rw [divA_right r1 r2 hn] at h ⊢
      obtain ⟨q1, q2⟩ := low_ok_right _ h
      refine ⟨q1, ?_⟩
      rw [q2, v1, v2]
      exact Rat.div_mul_cancel (by grind)
    · rw [if_pos h2] at h
      exact absurd h h2
  · rw [if_pos h1] at h
    exact absurd h h1
theorem slE_two {a b : Kn} {t : List Kn} (h : slE (a :: b :: t) = 0) : (slopeA a b).2 = 0 ∧ slE (b :: t) = 0 := by
  have h' : (if (slopeA a b).2 = 0 then slE (b :: t) else (slopeA a b).2) = 0 := h
  by_cases h1 : (slopeA a b).2 = 0
  · rw [if_pos h1] at h'
    exact ⟨h1, h'⟩
  · rw [if_neg h1] at h'
    exact absurd h' h1
def InsR (L : List Kn) : Prop := L.Pairwise fun a b => valQ a.i < valQ b.i
theorem slL_right : ∀ L : List Kn, InsR L → slE L = 0 → ∀ s ∈ slL L, rightB s = true
  | [], _, _, s, hs => by cases hs
  | [_], _, _, s, hs => by cases hs
  | a :: b :: t, hp, he, s, hs => by
    obtain ⟨e1, e2⟩ := slE_two he
    have hp' := List.pairwise_cons.1 hp
    have hs' : s ∈ (slopeA a b).1 :: slL (b :: t) := hs
    rcases List.mem_cons.1 hs' with rfl | hs'
    · exact (slope_ok (hp'.1 b (List.mem_cons_self ..)) e1).1
    · exact slL_right (b :: t) hp'.2 e2 s hs'
theorem slL_pos : ∀ L : List Kn, InsR L → (L.Pairwise fun a b => valQ a.o < valQ b.o) → slE L = 0 → ∀ s ∈ slL L, 0 < valQ s
  | [], _, _, _, s, hs => by cases hs
  | [_], _, _, _, s, hs => by cases hs
  | a :: b :: t, hp, ho, he, s, hs => by
    obtain ⟨e1, e2⟩ := slE_two he
    have hp' := List.pairwise_cons.1 hp
    have ho' := List.pairwise_cons.1 ho
    have hs' : s ∈ (slopeA a b).1 :: slL (b :: t) := hs
    rcases List.mem_cons.1 hs' with rfl | hs'
    · have h1 := hp'.1 b (List.mem_cons_self ..)
      have h2 := ho'.1 b (List.mem_cons_self ..)
      have h3 := (slope_ok h1 e1).2
      by_cases hc : 0 < valQ (slopeA a b).1
      · exact hc
      · have := Rat.mul_nonneg (show 0 ≤ -valQ (slopeA a b).1 by grind) (show 0 ≤ valQ b.i - valQ a.i by grind)
        grind
    · exact slL_pos (b :: t) hp'.2 ho'.2 e2 s hs'
theorem sls_mem {L : List Kn} {p : Rt → Prop} (h : ∀ s ∈ slL L, p s) (h1 : p ⟨1, 1⟩) : ∀ s ∈ slsK L, p s := by
  have hd : p ((slL L).headD ⟨1, 1⟩) := by
    cases e : slL L with
    | nil => exact h1
    | cons x X => exact h x (by rw [e]; exact List.mem_cons_self ..)
  have hla : p ((slL L).getLastD ⟨1, 1⟩) := by
    rcases List.mem_cons.1 (lastD_mem ⟨1, 1⟩ (slL L)) with e | e
    · rw [e]; exact h1
    · exact h _ e
  intro s hs
  unfold slsK at hs
  rcases List.mem_cons.1 hs with rfl | hs
  · exact hd
  · rcases List.mem_append.1 hs with hs | hs
    · exact h s hs
    · rw [List.mem_singleton] at hs
      rw [hs]
      exact hla
theorem hev_outs (u : Rt) : ∀ (L : List Kn) (a : Kn) (h0 : Rt) (T : List Rt), InsR (a :: L) → slE (a :: L) = 0 → slL (a :: L) ++ [u] = h0 :: T → ∀ x ∈ a :: L, hev (valQ a.i) (valQ a.o) (valQ h0) (lnK L T) (valQ x.i) = valQ x.o
  | [], a, h0, T, _, _, hs, x, hx => by
    obtain rfl := List.mem_singleton.1 hx
    show hev _ _ _ [] _ = _
    rw [hev_nil]
    grind
  | b :: L, a, h0, T, hp, he, hs, x, hx => by
    obtain ⟨e1, e2⟩ := slE_two he
    have hp' := List.pairwise_cons.1 hp
    have hab := hp'.1 b (List.mem_cons_self ..)
    have hv := (slope_ok hab e1).2
    obtain ⟨h1, T', e⟩ : ∃ h1 T', slL (b :: L) ++ [u] = h1 :: T' := by cases slL (b :: L) <;> exact ⟨_, _, rfl⟩
    have hs' : (slopeA a b).1 :: (slL (b :: L) ++ [u]) = h0 :: T := hs
    rw [e] at hs'
    obtain ⟨rfl, rfl⟩ := List.cons.inj hs'
    have hb : valQ a.o + (valQ b.i - valQ a.i) * valQ (slopeA a b).1 = valQ b.o := by grind
    rw [lnK_cons, hev_cons, hb]
    rcases List.mem_cons.1 hx with rfl | hx'
    · rw [if_pos (by grind)]
      grind
    · by_cases hle : valQ x.i ≤ valQ b.i
      · rw [if_pos hle]
        rcases List.mem_cons.1 hx' with rfl | hx''
        · exact hb
        · have := (List.pairwise_cons.1 hp'.2).1 x hx''
          grind
      · rw [if_neg hle]
        exact hev_outs u L b h1 T' hp'.2 e2 e x hx'
/-- Rows that do what a broken line says. -/
structure LineOf (h : Rat → Rat) (K : List Kn) (S : List Rt) : Prop where
  ris : RisQ (·.i) K
  slp : ∀ s ∈ S, rightB s = true
  outs : ∀ x ∈ K, rightB x.o = true ∧ h (valQ x.i) = valQ x.o
  line : ∃ x0 o0 s0 T, S = s0 :: T ∧ T.length = K.length ∧ ∀ t, h t = hev x0 o0 (valQ s0) (lnK K T) t
theorem lnK_get {K : List Kn} {T : List Rt} {k : Nat} {x : Kn} {b : Rt} (hx : K[k]? = some x) (hb : T[k]? = some b) : (lnK K T)[k]? = some (valQ x.i, valQ b) := by
  unfold lnK
  rw [List.getElem?_map, (List.getElem?_zip_eq_some (z := (x, b))).2 ⟨hx, hb⟩]
  rfl
theorem lnK_of {K : List Kn} {T : List Rt} {k : Nat} {y : Rat × Rat} (h : (lnK K T)[k]? = some y) : ∃ x, K[k]? = some x ∧ y.1 = valQ x.i := by
  unfold lnK at h
  rw [List.getElem?_map, Option.map_eq_some_iff] at h
  obtain ⟨z, hz, rfl⟩ := h
  exact ⟨z.1, (List.getElem?_zip_eq_some.1 hz).1, rfl⟩
theorem recA_ok {t fr tw sl : Rt} (h : (recA mulA t fr tw sl).2 = 0) : rightB (recA mulA t fr tw sl).1 = true ∧ valQ (recA mulA t fr tw sl).1 = valQ tw + (valQ t - valQ fr) * valQ sl := by
  unfold recA at *
  by_cases h1 : (subA t fr).2 = 0
  · rw [if_neg (fun e => e h1)] at h ⊢
    by_cases h2 : (mulA (subA t fr).1 sl).2 = 0
    · rw [if_neg (fun e => e h2)] at h ⊢
      obtain ⟨_, _, _, v1⟩ := subA_ok h1
      obtain ⟨_, _, _, v2⟩ := mulA_ok h2
      obtain ⟨_, _, r3, v3⟩ := addA_ok h
      exact ⟨r3, by rw [v3, v2, v1]⟩
    · rw [if_pos h2] at h
      exact absurd h h2
  · rw [if_pos h1] at h
    exact absurd h h1
theorem app_right {K : List Kn} {S : List Rt} {t : Rt} (h : (appF K S t).2 = 0) : rightB t = true := by
  unfold appF at h
  by_cases hr : rightB t = true
  · exact hr
  · rw [if_neg hr] at h
    cases h
theorem line_piece {h : Rat → Rat} {K : List Kn} {S : List Rt} {t s : Rt} {x : Kn} (hl : LineOf h K S) (ht : rightB t = true) (hp : PieceOf (·.i) K S t x s) : h (valQ t) = valQ x.o + (valQ t - valQ x.i) * valQ s := by
  obtain ⟨x0, o0, s0, T, rfl, hT, hh⟩ := hl.line
  obtain ⟨k, k1, k2, k3, k4, k5⟩ := hp
  have hx := List.mem_of_getElem? k2
  have ho := (hl.outs x hx).2
  have hxr := hl.ris.1 x hx
  cases k with
  | zero =>
    have k2' : K[0]? = some x := k2
    have k3' : some s0 = some s := k3
    cases k3'
    have hlt := (cmp_pos hxr ht).1 (k5 x k2')
    have hfirst : ∀ y, (lnK K T)[0]? = some y → y.1 = valQ x.i := fun y hy => by
      obtain ⟨z, hz, e⟩ := lnK_of hy
      rw [k2'] at hz
      cases hz
      exact e
    rw [hh, hev_first _ _ _ _ _ (fun y hy => by rw [hfirst y hy]; exact Rat.le_refl)] at ho
    rw [hh, hev_first _ _ _ _ _ (fun y hy => by rw [hfirst y hy]; grind)]
    grind
  | succ k =>
    have k2' : K[k]? = some x := by simpa using k2
    have k3' : T[k]? = some s := by simpa using k3
    have hge : ¬ valQ t < valQ x.i := fun e => k4 (Nat.succ_pos k) ((cmp_pos hxr ht).2 e)
    have := hev_seg (lnK K T) x0 o0 (valQ s0) k (valQ t) (valQ x.i) (valQ s) (lnK_ris hl.ris.2 T) (lnK_get k2' k3') (by grind) (fun y hy => by
      obtain ⟨z, hz, e⟩ := lnK_of hy
      have hzr := hl.ris.1 z (List.mem_of_getElem? hz)
      have := (cmp_pos hzr ht).1 (k5 z hz)
      rw [e]
      grind)
    rw [hh, this, ← hh, ho]
theorem line_app {h : Rat → Rat} {K : List Kn} {S : List Rt} {t : Rt} (hl : LineOf h K S) (h1 : 1 ≤ K.length) (h0 : (appF K S t).2 = 0) : rightB (appF K S t).1 = true ∧ valQ (appF K S t).1 = h (valQ t) := by
  have ht := app_right h0
  have hS : S.length = K.length + 1 := by
    obtain ⟨x0, o0, s0, T, rfl, hT, _⟩ := hl.line
    rw [List.length_cons, hT]
  have hp := line_piece hl ht (piece_ix (·.i) K S t h1 hS)
  unfold appF at h0 ⊢
  rw [if_pos ht] at h0 ⊢
  obtain ⟨r, v⟩ := recA_ok h0
  exact ⟨r, by rw [v, hp]⟩
theorem low_zeroH : low 0 = (⟨0, 1⟩, 0) := by kernel_rfl
theorem zero_rightH : rightB ⟨0, 1⟩ = true := by decide +kernel
theorem val_zeroH : valQ ⟨0, 1⟩ = 0 := by decide +kernel
/-- At its knots a map tells their outs. -/
theorem line_knot {h : Rat → Rat} {K : List Kn} {S : List Rt} {y : Kn} (hl : LineOf h K S) (hy : y ∈ K) : appF K S y.i = (y.o, 0) := by
  have ht := hl.ris.1 y hy
  have h1 : 1 ≤ K.length := List.length_pos_of_mem hy
  have hS : S.length = K.length + 1 := by
    obtain ⟨x0, o0, s0, T, rfl, hT, _⟩ := hl.line
    rw [List.length_cons, hT]
  obtain ⟨j, hj, ej⟩ := List.getElem_of_mem hy
  have hyj : K[j]? = some y := by rw [List.getElem?_eq_getElem hj, ej]
  have hsj : S[j + 1]? = some (S[j + 1]'(by omega)) := List.getElem?_eq_getElem (by omega)
  have hp : PieceOf (·.i) K S y.i y (S[j + 1]'(by omega)) := by
    refine ⟨j + 1, by omega, by simpa using hyj, hsj, fun _ e => ?_, fun z hz => ?_⟩
    · rw [cmp_self] at e
      exact absurd e (by omega)
    · refine (cmp_pos (hl.ris.1 z (List.mem_of_getElem? hz)) ht).2 ?_
      obtain ⟨hj1, ez⟩ := List.getElem?_eq_some_iff.1 hz
      have := List.pairwise_iff_getElem.1 hl.ris.2 j (j + 1) hj hj1 (by omega)
      rw [ej, ez] at this
      exact this
  obtain ⟨e1, e2⟩ := piece_uniq (ris_mono hl.ris ht) (piece_ix (·.i) K S y.i h1 hS) hp
  have hs := hl.slp _ (List.mem_of_getElem? hsj)
  have ho := (hl.outs y hy).1
  unfold appF
  rw [if_pos ht, e1, e2]
  generalize S[j + 1]'(by omega) = s at hs
  unfold recA
  have a1 : subA y.i y.i = (⟨0, 1⟩, 0) := by rw [subA_right ht ht, show valQ y.i - valQ y.i = 0 by grind, low_zeroH]
  have a2 : mulA ⟨0, 1⟩ s = (⟨0, 1⟩, 0) := by rw [mulA_right zero_rightH hs, val_zeroH, Rat.zero_mul, low_zeroH]
  have a3 : addA y.o ⟨0, 1⟩ = (y.o, 0) := by rw [addA_right ho zero_rightH, val_zeroH, Rat.add_zero, low_right _ ho]
  rw [a1]
  simp [a2, a3]
end Go.Proofs.Ytipnefaggpigfaa

/- New's map does what the given knots say (chapter 6). -/
namespace Go.Proofs.Ytipnefaggpigfaa

theorem lastD_map {α β : Type} (f : α → β) : ∀ (V : List α) (v : α), (V.map f).getLastD (f v) = f (V.getLastD v)
  | [], v => rfl
  | x :: V, v => by rw [List.map_cons, List.getLastD_cons, List.getLastD_cons, lastD_map f V x]
theorem zip_back {α β : Type} : ∀ Q : List (α × β), (Q.map (·.1)).zip (Q.map (·.2)) = Q
  | [] => rfl
  | x :: Q => congrArg (x :: ·) (zip_back Q)
theorem lnK_zip (K : List Kn) (T : List Rt) : lnK K T = (K.map fun x => valQ x.i).zip (T.map valQ) := by
  unfold lnK
  rw [List.zip_map]
  rfl
theorem sl_vals {h : Rat → Rat} : ∀ (K : List Kn) (Q : List (Rat × Rat)), Q.map (·.1) = K.map (fun x => valQ x.i) → InsR K → slE K = 0 → (∀ x ∈ K, h (valQ x.i) = valQ x.o) →
    (∀ (k : Nat) (i s j u : Rat), Q[k]? = some (i, s) → Q[k + 1]? = some (j, u) → h j = h i + (j - i) * s) → (slL K).map valQ = Q.dropLast.map (·.2)
  | [], Q, hQ, _, _, _, _ => by
    obtain rfl : Q = [] := by simpa using hQ
    rfl
  | [a], Q, hQ, _, _, _, _ => by
    cases Q with
    | nil => cases hQ
    | cons q Q =>
      obtain rfl : Q = [] := by simpa using congrArg List.length hQ
      rfl
  | a :: b :: R, Q, hQ, hp, he, ho, hc => by
    obtain ⟨i, s, j, u, Q, rfl⟩ : ∃ i s j u Q', Q = (i, s) :: (j, u) :: Q' := by
      cases Q with
      | nil => cases hQ
      | cons q Q =>
        cases Q with
        | nil => simp at hQ
        | cons r Q => exact ⟨q.1, q.2, r.1, r.2, Q, rfl⟩
    simp only [List.map_cons, List.cons.injEq] at hQ
    obtain ⟨rfl, rfl, hQ⟩ := hQ
    obtain ⟨e1, e2⟩ := slE_two he
    have hp' := List.pairwise_cons.1 hp
    have hab := hp'.1 b (List.mem_cons_self ..)
    have hv := (slope_ok hab e1).2
    have h0 := hc 0 _ _ _ _ rfl rfl
    rw [ho b (by simp), ho a (by simp)] at h0
    have ih := sl_vals (b :: R) ((valQ b.i, u) :: Q) (by rw [List.map_cons, List.map_cons, hQ]) hp'.2 e2 (fun x hx => ho x (List.mem_cons_of_mem _ hx)) (fun k i s j u h1 h2 => hc (k + 1) i s j u h1 h2)
    show valQ (slopeA a b).1 :: (slL (b :: R)).map valQ = s :: ((((valQ b.i, u) :: Q)).dropLast.map (·.2))
    rw [ih]
    congr 1
    have h3 : (valQ (slopeA a b).1 - s) * (valQ b.i - valQ a.i) = 0 := by grind
    rcases Rat.mul_eq_zero.1 h3 with h4 | h4
    · grind
    · grind
/-- Knots that lie on a broken line whose bends are among their ins have its slopes. -/
theorem own_slopes {h : Rat → Rat} {K : List Kn} {q : Rat × Rat} {Q0 : List (Rat × Rat)} {e x0 o0 : Rat} (hQ : ((q :: Q0) ++ [(e, (Q0.map (·.2)).getLastD q.2)]).map (·.1) = K.map (fun x => valQ x.i)) (hr : RisQ (·.i) K) (he : slE K = 0)
    (ho : ∀ x ∈ K, rightB x.o = true ∧ h (valQ x.i) = valQ x.o) (hh : ∀ t, h t = hev x0 o0 q.2 ((q :: Q0) ++ [(e, (Q0.map (·.2)).getLastD q.2)]) t) : LineOf h K (slsK K) := by
  generalize hq : (q :: Q0) ++ [(e, (Q0.map (·.2)).getLastD q.2)] = Q at hQ hh
  have hlen : Q.length = K.length := by simpa using congrArg List.length hQ
  have hql : Q.length = Q0.length + 2 := by rw [← hq]; simp
  have hris : RisB Q := by
    have h1 : (Q.map (·.1)).Pairwise (· < ·) := by
      rw [hQ, List.pairwise_map]
      exact hr.2
    rw [List.pairwise_map] at h1
    exact h1
  have hv := sl_vals K Q hQ hr.2 he (fun x hx => (ho x hx).2) (fun k i s j u h1 h2 => by
    have hij : i < j := by
      obtain ⟨l1, g1⟩ := List.getElem?_eq_some_iff.1 h1
      obtain ⟨l2, g2⟩ := List.getElem?_eq_some_iff.1 h2
      have := List.pairwise_iff_getElem.1 hris k (k + 1) l1 l2 (by omega)
      rw [g1, g2] at this
      exact this
    rw [hh, hh]
    exact hev_seg Q x0 o0 q.2 k j i s hris h1 (by grind) (fun y hy => by
      rw [h2] at hy
      cases hy
      exact Rat.le_refl))
  rw [← hq, List.dropLast_concat, List.map_cons] at hv
  obtain ⟨v, V, hvV⟩ : ∃ v V, slL K = v :: V := by
    cases hs : slL K with
    | nil => rw [hs] at hv; cases hv
    | cons v V => exact ⟨v, V, rfl⟩
  have hslp : ∀ s ∈ slsK K, rightB s = true := sls_mem (slL_right K hr.2 he) (by decide +kernel)
  have e1 : slsK K = v :: (v :: V ++ [V.getLastD v]) := by
    unfold slsK
    rw [hvV, List.getLastD_cons]
    rfl
  rw [hvV, List.map_cons] at hv
  obtain ⟨hv0, hv1⟩ := List.cons.inj hv
  have e2 : lnK K (v :: V ++ [V.getLastD v]) = Q := by
    rw [lnK_zip, ← hQ, List.map_append, List.map_cons, List.map_cons, List.map_nil, ← lastD_map valQ V v, hv0, hv1]
    have : q.2 :: Q0.map (·.2) ++ [(Q0.map (·.2)).getLastD q.2] = Q.map (·.2) := by
      rw [← hq]
      simp
    rw [this]
    exact zip_back Q
  refine ⟨hr, hslp, ho, x0, o0, v, _, e1, ?_, fun t => ?_⟩
  · have := congrArg List.length e2
    have hVl : V.length = Q0.length := by simpa using congrArg List.length hv1
    simp
    omega
  · rw [e2, hv0]
    exact hh t
def ptV : List Rt → List Rat
  | [] => [0, 1]
  | b :: L => (valQ b - 1) :: ((b :: L).map valQ ++ [valQ ((b :: L).getLastD b) + 1])
theorem ptsA_vals {B : List Rt} (he : ∀ x ∈ ptsA B, x.2 = 0) : (ptsA B).map (fun x => valQ x.1) = ptV B := by
  cases B with
  | nil =>
    show [valQ ⟨0, 1⟩, valQ ⟨1, 1⟩] = _
    rw [val_zeroH, val_oneK]
    rfl
  | cons b L =>
    have e1 : (subA b ⟨1, 1⟩).2 = 0 := he _ (by unfold ptsA; exact List.mem_cons_self ..)
    have e2 : (addA ((b :: L).getLastD b) ⟨1, 1⟩).2 = 0 := he _ (by unfold ptsA; exact List.mem_cons_of_mem _ (List.mem_append_right _ (List.mem_singleton.2 rfl)))
    obtain ⟨_, _, _, s4⟩ := subA_ok e1
    obtain ⟨_, _, _, a4⟩ := addA_ok e2
    rw [val_oneK] at s4 a4
    show valQ (subA b ⟨1, 1⟩).1 :: (((b :: L).map (fun t => (t, (0 : Int))) ++ [addA ((b :: L).getLastD b) ⟨1, 1⟩]).map (fun x => valQ x.1)) = _
    rw [List.map_append, List.map_map, s4]
    show _ :: ((b :: L).map valQ ++ [valQ (addA ((b :: L).getLastD b) ⟨1, 1⟩).1]) = _
    rw [a4]
    rfl
theorem sls_two (L : List Kn) : ∃ s0 T', slsK L = s0 :: s0 :: T' ∧ slL L ++ [(slL L).getLastD ⟨1, 1⟩] = s0 :: T' := by
  unfold slsK
  cases slL L with
  | nil => exact ⟨_, _, rfl, rfl⟩
  | cons v V => exact ⟨_, _, rfl, rfl⟩
/-- The given knots lie on a broken line that rises. -/
theorem given_line {L : List Kn} (h1 : chkK L = 0) (h2 : slE L = 0) : ∃ h : Rat → Rat, (∀ t u, t < u → h t < h u) ∧ LineOf h L (slsK L) := by
  obtain ⟨hl1, _, hi, ho⟩ := chk_ok h1
  obtain ⟨a, L', rfl⟩ : ∃ a L', L = a :: L' := by
    cases L with
    | nil => exact absurd hl1 (by simp)
    | cons a L' => exact ⟨a, L', rfl⟩
  generalize hL : a :: L' = L at *
  obtain ⟨s0, T', hs, hsT⟩ := sls_two L
  have hlen := sls_len L hl1
  have hright : ∀ s ∈ slsK L, rightB s = true := sls_mem (slL_right L hi.2 h2) (by decide +kernel)
  have hpos : ∀ s ∈ slsK L, 0 < valQ s := sls_mem (slL_pos L hi.2 ho.2 h2) (by rw [val_oneK]; decide +kernel)
  have hT' : (s0 :: T').length = L.length := by
    rw [hs] at hlen
    simpa using hlen
  obtain ⟨h, hh⟩ : ∃ h : Rat → Rat, ∀ t, h t = hev (valQ a.i) (valQ a.o) (valQ s0) (lnK L (s0 :: T')) t := ⟨_, fun _ => rfl⟩
  have hdrop : ∀ t, h t = hev (valQ a.i) (valQ a.o) (valQ s0) (lnK L' T') t := fun t => by
    rw [hh, ← hL, lnK_cons, hev_drop]
    intro y hy
    obtain ⟨⟨x, hx, e⟩, -⟩ := lnK_mem hy
    rw [← hL] at hi
    have := (List.pairwise_cons.1 hi.2).1 x hx
    rw [e]
    grind
  refine ⟨h, fun t u htu => ?_, hi, hright, fun x hx => ⟨ho.1 x hx, ?_⟩, _, _, s0, s0 :: T', hs, hT', hh⟩
  · rw [hh, hh]
    refine hev_rises _ _ _ _ _ _ (lnK_ris hi.2 _) (hpos s0 (by rw [hs]; exact List.mem_cons_self ..)) (fun y hy => ?_) htu
    obtain ⟨-, s, hs1, e⟩ := lnK_mem hy
    rw [e]
    exact hpos s (by rw [hs]; exact List.mem_cons_of_mem _ hs1)
  · rw [hdrop]
    subst hL
    exact hev_outs _ L' a s0 T' hi.2 h2 hsT x hx
theorem line_bnt {h : Rat → Rat} {L : List Kn} (hl : LineOf h L (slsK L)) : ∃ x0 o0, ∀ t, h t = hev x0 o0 (valQ ((slsK L).headD ⟨1, 1⟩)) ((bntK L (slsK L)).map pqK) t := by
  obtain ⟨x0, o0, s0, T, hs, hT, hh⟩ := hl.line
  refine ⟨x0, o0, fun t => ?_⟩
  rw [hh, hs]
  exact hev_bnt t L s0 T _ _ hT hl.ris.2
/-- The knots that are kept do the same. -/
theorem pared_line {h : Rat → Rat} {L : List Kn} (h1 : 1 ≤ L.length) (hl : LineOf h L (slsK L)) : LineOf h (prdK L (slsK L)) (prdS L (slsK L)) := by
  obtain ⟨x0, o0, hbnt⟩ := line_bnt hl
  obtain ⟨s0, T', hs, -⟩ := sls_two L
  have hhd : (slsK L).headD ⟨1, 1⟩ = s0 := by rw [hs]; rfl
  have hbin := bnt_snd L (slsK L)
  rw [hhd] at hbnt
  refine ⟨ris_sub (prd_sub L _) hl.ris, ?_, fun x hx => hl.outs x ((prd_sub L _).subset hx), x0, o0, s0, ?_⟩
  · intro s hs'
    unfold prdS at hs'
    rw [hhd] at hs'
    have hs0 : rightB s0 = true := hl.slp s0 (by rw [hs]; exact List.mem_cons_self ..)
    rcases List.mem_cons.1 hs' with rfl | hs'
    · exact hs0
    · split at hs'
      · rw [List.mem_singleton] at hs'
        rw [hs']
        exact hs0
      · obtain ⟨x, hx, rfl⟩ := List.mem_map.1 hs'
        exact hl.slp _ (hbin x hx).2
  · unfold prdS prdK
    rw [hhd]
    by_cases hb : bntK L (slsK L) = []
    · rw [if_pos hb, if_pos hb]
      refine ⟨_, rfl, by simp; omega, fun t => ?_⟩
      rw [hbnt, hb]
      cases L with
      | nil => rfl
      | cons a L' =>
        show hev _ _ _ [] t = hev _ _ _ [(valQ a.i, valQ s0)] t
        rw [hev_drop _ _ _ _ _ _ (fun _ h => by cases h)]
    · rw [if_neg hb, if_neg hb]
      refine ⟨_, rfl, by simp, fun t => ?_⟩
      rw [hbnt, lnK_zip, List.map_map, List.map_map]
      have e := zip_back ((bntK L (slsK L)).map pqK)
      rw [List.map_map, List.map_map] at e
      exact congrArg (fun R => hev _ _ _ R t) e.symm
/-- What New makes does what the given knots say: one broken line. -/
theorem own_line {h : Rat → Rat} {L : List Kn} (hz : newE L = 0) (hl : LineOf h L (slsK L)) : LineOf h (newK L) (slsK (newK L)) := by
  have hnr := new_ris hz
  obtain ⟨h1, h2, h3, h4⟩ := newE_zero hz
  obtain ⟨hl1, _, hi, ho⟩ := chk_ok h1
  have hpar := pared_line hl1 hl
  obtain ⟨x0, o0, hbnt⟩ := line_bnt hl
  generalize hs0 : (slsK L).headD ⟨1, 1⟩ = s0 at hbnt
  have herr := errK_all h3
  have hpl := (prd_len L hl1).2.1
  have hko : ∀ x ∈ newK L, rightB x.o = true ∧ h (valQ x.i) = valQ x.o := fun x hx => by
    obtain ⟨p, hp, rfl⟩ := List.mem_map.1 hx
    have := line_app hpar hpl (herr p hp).2
    exact ⟨this.1, this.2.symm⟩
  have hins : (newK L).map (fun x => valQ x.i) = (ptsA (bndK L)).map (fun x => valQ x.1) := by
    unfold newK kntK ownP
    rw [List.map_map]
    rfl
  rw [ptsA_vals (fun x hx => (herr x hx).1)] at hins
  cases hb : bntK L (slsK L) with
  | nil =>
    have hbd : bndK L = [] := by unfold bndK bndI; rw [hb]; rfl
    rw [hbd] at hins
    refine own_slopes (q := (0, valQ s0)) (Q0 := []) (e := 1) (x0 := x0) (o0 := o0) (by rw [hins]; rfl) hnr h4 hko (fun t => ?_)
    show h t = hev _ _ (valQ s0) [(0, valQ s0), (1, valQ s0)] t
    rw [hbnt, hb, hev_drop _ _ _ _ _ _ (fun y hy => by rw [List.mem_singleton.1 hy]; exact (by decide +kernel : (0 : Rat) ≤ 1)), hev_drop _ _ _ _ _ _ (fun _ h => by cases h)]
    rfl
  | cons p P =>
    have hbd : bndK L = p.1.i :: (P.map fun x => x.1.i) := by unfold bndK bndI; rw [hb]; rfl
    have hbr := bnd_ris hi
    rw [hbd] at hins hbr
    refine own_slopes (q := (valQ p.1.i - 1, valQ s0)) (Q0 := (p :: P).map pqK) (e := valQ ((p.1.i :: (P.map fun x => x.1.i)).getLastD p.1.i) + 1) (x0 := x0) (o0 := o0) ?_ hnr h4 hko (fun t => ?_)
    · rw [hins]
      show (valQ p.1.i - 1) :: (((p :: P).map pqK ++ [_]).map (Prod.fst (α := Rat) (β := Rat))) = (valQ p.1.i - 1) :: ((p.1.i :: (P.map fun x => x.1.i)).map valQ ++ [_])
      simp only [List.map_append, List.map_map, List.map_cons, List.map_nil, Function.comp_def, pqK, List.cons_append]
    · rw [hbnt, hb]
      show _ = hev _ _ (valQ s0) ((_, valQ s0) :: ((p :: P).map pqK ++ [_])) t
      have hmem : ∀ y ∈ (p :: P).map pqK, valQ p.1.i ≤ y.1 := fun y hy => by
        obtain ⟨z, hz, rfl⟩ := List.mem_map.1 hy
        rcases List.mem_cons.1 hz with rfl | hz
        · exact Rat.le_refl
        · have := (List.pairwise_cons.1 hbr.2).1 z.1.i (List.mem_map.2 ⟨z, hz, rfl⟩)
          show valQ p.1.i ≤ valQ z.1.i
          grind
      have hlast : valQ p.1.i ≤ valQ ((p.1.i :: (P.map fun x => x.1.i)).getLastD p.1.i) := by
        rw [List.getLastD_cons]
        rcases List.mem_cons.1 (lastD_mem p.1.i (P.map fun x => x.1.i)) with e | e
        · rw [e]; exact Rat.le_refl
        · have := (List.pairwise_cons.1 hbr.2).1 _ e
          grind
      rw [hev_drop, hev_end]
      intro y hy
      rcases List.mem_append.1 hy with hy | hy
      · have := hmem y hy
        show valQ p.1.i - 1 ≤ y.1
        grind
      · rw [List.mem_singleton.1 hy]
        show valQ p.1.i - 1 ≤ _ + 1
        grind
/-- Both, from one broken line that rises. -/
theorem rises_line2 {L : List Kn} (hz : newE L = 0) : ∃ h : Rat → Rat, (∀ t u, t < u → h t < h u) ∧ LineOf h L (slsK L) ∧ LineOf h (newK L) (slsK (newK L)) := by
  obtain ⟨h1, h2, -, -⟩ := newE_zero hz
  obtain ⟨h, hm, hl⟩ := given_line h1 h2
  exact ⟨h, hm, hl, own_line hz hl⟩
theorem rises_line {L : List Kn} (hz : newE L = 0) : ∃ h : Rat → Rat, (∀ t u, t < u → h t < h u) ∧ (∀ x ∈ L, rightB x.o = true ∧ h (valQ x.i) = valQ x.o) ∧ LineOf h (newK L) (slsK (newK L)) := by
  obtain ⟨h, hm, hl, ho⟩ := rises_line2 hz
  exact ⟨h, hm, hl.outs, ho⟩
end Go.Proofs.Ytipnefaggpigfaa

/- A broken line has its bends: they are told by what it does (chapter 6). -/
namespace Go.Proofs.Ytipnefaggpigfaa

/-- Right of c the slope is s. -/
def RSl (f : Rat → Rat) (c s : Rat) : Prop := ∃ m o, c < m ∧ ∀ t, c < t → t ≤ m → f t = o + t * s
theorem RSl.uniq {f : Rat → Rat} {c s s' : Rat} (h : RSl f c s) (h' : RSl f c s') : s = s' := by
  obtain ⟨m, o, hm, h⟩ := h
  obtain ⟨m', o', hm', h'⟩ := h'
  obtain ⟨u, hu, hu1, hu2⟩ : ∃ u, c < u ∧ u ≤ m ∧ u ≤ m' := by
    by_cases hc : m ≤ m'
    · exact ⟨m, hm, Rat.le_refl, hc⟩
    · exact ⟨m', hm', by grind, Rat.le_refl⟩
  obtain ⟨t, ht1, ht2⟩ : ∃ t, c < t ∧ t < u := ⟨(c + u) / 2, by grind, by grind⟩
  have a1 := h u hu hu1
  have a2 := h t ht1 (by grind)
  have b1 := h' u hu hu2
  have b2 := h' t ht1 (by grind)
  have e : (u - t) * (s - s') = 0 := by grind
  rcases Rat.mul_eq_zero.1 e with e | e
  · grind
  · grind
theorem RSl.congr {f g : Rat → Rat} {c s : Rat} (h : RSl f c s) (e : ∀ t, c < t → f t = g t) : RSl g c s := by
  obtain ⟨m, o, hm, h⟩ := h
  exact ⟨m, o, hm, fun t h1 h2 => by rw [← e t h1]; exact h t h1 h2⟩
theorem rsl_hev {x0 o0 s c : Rat} {R : List (Rat × Rat)} (h : ∀ y ∈ R, c < y.1) : RSl (hev x0 o0 s R) c s := by
  cases R with
  | nil => exact ⟨c + 1, o0 - x0 * s, by grind, fun t _ _ => by rw [hev_nil]; grind⟩
  | cons y R =>
    obtain ⟨i, v⟩ := y
    exact ⟨i, o0 - x0 * s, h (i, v) (List.mem_cons_self ..), fun t _ h2 => by rw [hev_cons, if_pos h2]; grind⟩
theorem rsl_cons {x0 o0 s i v : Rat} {R : List (Rat × Rat)} (hp : RisB ((i, v) :: R)) : RSl (hev x0 o0 s ((i, v) :: R)) i v := by
  have h := rsl_hev (x0 := i) (o0 := o0 + (i - x0) * s) (s := v) (c := i) (R := R) (fun y hy => (List.pairwise_cons.1 hp).1 y hy)
  exact h.congr (fun t ht => by rw [hev_cons, if_neg (by grind)])
/-- Each bend is one. -/
def BentQ : Rat → List (Rat × Rat) → Prop
  | _, [] => True
  | s, (_, v) :: R => s ≠ v ∧ BentQ v R
theorem hev_uniq : ∀ (R1 R2 : List (Rat × Rat)) (x0 o0 s x1 o1 u c : Rat), RisB R1 → RisB R2 → BentQ s R1 → BentQ u R2 → (∀ y ∈ R1, c < y.1) → (∀ y ∈ R2, c < y.1) → (∀ t, c < t → hev x0 o0 s R1 t = hev x1 o1 u R2 t) → s = u ∧ R1 = R2
  | [], [], x0, o0, s, x1, o1, u, c, _, _, _, _, h1, h2, h => ⟨((rsl_hev h1).congr h).uniq (rsl_hev h2), rfl⟩
  | [], (j, v) :: R2, x0, o0, s, x1, o1, u, c, _, p2, _, b2, h1, h2, h => by
    have e := ((rsl_hev (x0 := x0) (o0 := o0) (s := s) h1).congr h).uniq (rsl_hev (x0 := x1) (o0 := o1) (s := u) h2)
    have hc := h2 (j, v) (List.mem_cons_self ..)
    have e2 := ((rsl_hev (x0 := x0) (o0 := o0) (s := s) (c := j) (R := []) (fun _ h => by cases h)).congr (fun t ht => h t (by grind))).uniq (rsl_cons p2)
    exact absurd (e.symm.trans e2) b2.1
  | (i, v) :: R1, [], x0, o0, s, x1, o1, u, c, p1, _, b1, _, h1, h2, h => by
    have e := ((rsl_hev (x0 := x0) (o0 := o0) (s := s) h1).congr h).uniq (rsl_hev (x0 := x1) (o0 := o1) (s := u) h2)
    have hc := h1 (i, v) (List.mem_cons_self ..)
    have e2 := ((rsl_hev (x0 := x1) (o0 := o1) (s := u) (c := i) (R := []) (fun _ h => by cases h)).congr (fun t ht => (h t (by grind)).symm)).uniq (rsl_cons p1)
    exact absurd (e.trans e2) b1.1
  | (i, v) :: R1, (j, z) :: R2, x0, o0, s, x1, o1, u, c, p1, p2, b1, b2, h1, h2, h => by
    have e := ((rsl_hev (x0 := x0) (o0 := o0) (s := s) h1).congr h).uniq (rsl_hev (x0 := x1) (o0 := o1) (s := u) h2)
    have hci := h1 (i, v) (List.mem_cons_self ..)
    have hcj := h2 (j, z) (List.mem_cons_self ..)
    have q1 := List.pairwise_cons.1 p1
    have q2 := List.pairwise_cons.1 p2
    by_cases hij : i < j
    · have e2 := ((rsl_hev (x0 := x1) (o0 := o1) (s := u) (c := i) (R := (j, z) :: R2) (fun y hy => by
        rcases List.mem_cons.1 hy with rfl | hy
        · exact hij
        · have := q2.1 y hy
          grind)).congr (fun t ht => (h t (by grind)).symm)).uniq (rsl_cons p1)
      exact absurd (e.trans e2) b1.1
    · by_cases hji : j < i
      · have e2 := ((rsl_hev (x0 := x0) (o0 := o0) (s := s) (c := j) (R := (i, v) :: R1) (fun y hy => by
          rcases List.mem_cons.1 hy with rfl | hy
          · exact hji
          · have := q1.1 y hy
            grind)).congr (fun t ht => h t (by grind))).uniq (rsl_cons p2)
        exact absurd (e.symm.trans e2) b2.1
      · obtain rfl : i = j := by grind
        obtain ⟨rfl, rfl⟩ := hev_uniq R1 R2 i (o0 + (i - x0) * s) v i (o1 + (i - x1) * u) z i q1.2 q2.2 b1.2 b2.2 q1.1 q2.1 (fun t ht => by
          have := h t (by grind)
          rw [hev_cons, hev_cons, if_neg (by grind), if_neg (by grind)] at this
          exact this)
        exact ⟨e, rfl⟩
theorem below_all : ∀ R : List (Rat × Rat), ∃ c : Rat, ∀ y ∈ R, c < y.1
  | [] => ⟨0, fun _ h => by cases h⟩
  | (i, v) :: R => by
    obtain ⟨c, hc⟩ := below_all R
    by_cases h : c < i
    · exact ⟨c, fun y hy => by
        rcases List.mem_cons.1 hy with rfl | hy
        · exact h
        · exact hc y hy⟩
    · exact ⟨i - 1, fun y hy => by
        rcases List.mem_cons.1 hy with rfl | hy
        · show i - 1 < i; grind
        · have := hc y hy; grind⟩
theorem bnt_bent : ∀ (K : List Kn) (a : Rt) (T : List Rt), (∀ s ∈ a :: T, rightB s = true) → BentQ (valQ a) ((bntK K (a :: T)).map pqK)
  | [], a, T, _ => True.intro
  | k :: K, a, [], _ => True.intro
  | k :: K, a, b :: T, h => by
    show BentQ (valQ a) ((if bentB a b = true then (k, b) :: bntK K (b :: T) else bntK K (b :: T)).map pqK)
    have hb := h b (by simp)
    have ha := h a (by simp)
    have ih := bnt_bent K b T (fun s hs => h s (List.mem_cons_of_mem _ hs))
    by_cases hab : bentB a b = true
    · rw [if_pos hab, List.map_cons]
      refine ⟨fun e => ?_, ih⟩
      have := right_inj a b ha hb e
      subst this
      simp [bentB] at hab
    · rw [if_neg hab]
      obtain rfl := bent_not hab
      exact ih
theorem bnt_ris {K : List Kn} (h : InsR K) (S : List Rt) : RisB ((bntK K S).map pqK) := by
  have hs := bnt_sub K S
  have : ((bntK K S).map (·.1)).Pairwise fun a b => valQ a.i < valQ b.i := h.sublist hs
  unfold RisB
  rw [List.pairwise_map] at this ⊢
  exact this
theorem pq_inj {L : List (Kn × Rt)} : ∀ {M : List (Kn × Rt)}, (∀ x ∈ L, ∀ y ∈ M, valQ x.1.i = valQ y.1.i → x.1 = y.1) → (∀ x ∈ L, ∀ y ∈ M, valQ x.2 = valQ y.2 → x.2 = y.2) → L.map pqK = M.map pqK → L = M := by
  induction L with
  | nil =>
    intro M _ _ h
    cases M with
    | nil => rfl
    | cons y M => cases h
  | cons x L ih =>
    intro M h1 h2 h
    cases M with
    | nil => cases h
    | cons y M =>
      rw [List.map_cons, List.map_cons] at h
      obtain ⟨e, e'⟩ := List.cons.inj h
      have e1 : valQ x.1.i = valQ y.1.i := congrArg Prod.fst e
      have e2 : valQ x.2 = valQ y.2 := congrArg Prod.snd e
      have a1 := h1 x (List.mem_cons_self ..) y (List.mem_cons_self ..) e1
      have a2 := h2 x (List.mem_cons_self ..) y (List.mem_cons_self ..) e2
      rw [ih (fun x hx y hy => h1 x (List.mem_cons_of_mem _ hx) y (List.mem_cons_of_mem _ hy)) (fun x hx y hy => h2 x (List.mem_cons_of_mem _ hx) y (List.mem_cons_of_mem _ hy)) e']
      obtain ⟨x1, x2⟩ := x
      obtain ⟨y1, y2⟩ := y
      simp only at a1 a2
      rw [a1, a2]
/-- One broken line, one row of bends. -/
theorem bnt_canon {h : Rat → Rat} {L M : List Kn} {S T : List Rt} (hL : LineOf h L S) (hM : LineOf h M T) : bntK L S = bntK M T ∧ S.headD ⟨1, 1⟩ = T.headD ⟨1, 1⟩ := by
  obtain ⟨x0, o0, s0, S', rfl, hS, h1⟩ := hL.line
  obtain ⟨x1, o1, u0, T', rfl, hT, h2⟩ := hM.line
  obtain ⟨c, hc⟩ := below_all ((bntK L (s0 :: S')).map pqK ++ (bntK M (u0 :: T')).map pqK)
  obtain ⟨e1, e2⟩ := hev_uniq _ _ x0 o0 (valQ s0) x1 o1 (valQ u0) c (bnt_ris hL.ris.2 _) (bnt_ris hM.ris.2 _) (bnt_bent L s0 S' hL.slp) (bnt_bent M u0 T' hM.slp)
    (fun y hy => hc y (List.mem_append_left _ hy)) (fun y hy => hc y (List.mem_append_right _ hy)) (fun t _ => by
      rw [← hev_bnt t L s0 S' x0 o0 hS hL.ris.2, ← hev_bnt t M u0 T' x1 o1 hT hM.ris.2, ← h1, ← h2])
  have kL := bnt_snd L (s0 :: S')
  have kM := bnt_snd M (u0 :: T')
  refine ⟨pq_inj (fun x hx y hy e => ?_) (fun x hx y hy e => right_inj _ _ (hL.slp _ (kL x hx).2) (hM.slp _ (kM y hy).2) e) e2, right_inj _ _ (hL.slp s0 (List.mem_cons_self ..)) (hM.slp u0 (List.mem_cons_self ..)) e1⟩
  have a1 := right_inj _ _ (hL.ris.1 _ (kL x hx).1) (hM.ris.1 _ (kM y hy).1) e
  have oL := hL.outs _ (kL x hx).1
  have oM := hM.outs _ (kM y hy).1
  have a2 := right_inj _ _ oL.1 oM.1 (by rw [← oL.2, ← oM.2, e])
  obtain ⟨⟨i, o⟩, s⟩ := x
  obtain ⟨⟨i', o'⟩, s'⟩ := y
  simp only at a1 a2
  rw [a1, a2]
end Go.Proofs.Ytipnefaggpigfaa

/- New of a map's own knots is it (chapter 6). -/
namespace Go.Proofs.Ytipnefaggpigfaa

theorem rise_back (g : Kn → Rt) : ∀ L : List Kn, (∀ x ∈ L, rightB (g x) = true) → (L.Pairwise fun a b => valQ (g a) < valQ (g b)) → riseB g L = true
  | [], _, _ => rfl
  | [_], _, _ => rfl
  | a :: b :: t, hr, hp => by
    show (decide (0 < cmpI (g b) (g a)) && riseB g (b :: t)) = true
    have hp' := List.pairwise_cons.1 hp
    rw [rise_back g (b :: t) (fun x hx => hr x (List.mem_cons_of_mem _ hx)) hp'.2, Bool.and_true, decide_eq_true_eq]
    exact (cmp_pos (hr b (by simp)) (hr a (by simp))).2 (hp'.1 b (List.mem_cons_self ..))
theorem chk_back {L : List Kn} (h1 : 1 ≤ L.length) (h2 : L.length ≤ 64) (hi : RisQ (·.i) L) (ho : RisQ (·.o) L) : chkK L = 0 := by
  unfold chkK
  have e3 : (L.all fun x => rightB x.i && rightB x.o) = true := List.all_eq_true.2 (fun x hx => by
    have a := hi.1 x hx
    have b := ho.1 x hx
    simp only at a b
    rw [a, b]
    rfl)
  rw [if_neg (by omega), if_neg (by omega), if_neg (by rw [e3]; simp), if_neg (by rw [rise_back _ L hi.1 hi.2]; simp), if_neg (by rw [rise_back _ L ho.1 ho.2]; simp)]
theorem bnt_short : ∀ (K : List Kn) (a : Rt) (T : List Rt), K ≠ [] → T.length = K.length → (∃ Z z, a :: T = Z ++ [z, z]) → (bntK K (a :: T)).length + 1 ≤ K.length
  | [], _, _, h, _, _ => absurd rfl h
  | [k], a, T, _, hl, ⟨Z, z, hz⟩ => by
    match T, hl with
    | [b], _ =>
      match Z, hz with
      | [], hz =>
        simp only [List.nil_append, List.cons.injEq, and_true] at hz
        obtain ⟨rfl, rfl⟩ := hz
        have : bntK [k] [b, b] = [] := by
          show (if bentB b b = true then (k, b) :: bntK [] [b] else bntK [] [b]) = []
          rw [if_neg (by simp [bentB])]
          rfl
        rw [this]
        simp
      | x :: Z, hz =>
        have := congrArg List.length hz
        simp at this
  | k :: k2 :: K, a, T, _, hl, ⟨Z, z, hz⟩ => by
    match T, hl with
    | b :: T, hl =>
      have ih := bnt_short (k2 :: K) b T (by simp) (by simpa using hl) (by
        cases Z with
        | nil => exact absurd (congrArg List.length hz) (by simp only [List.length_cons, List.length_append, List.length_nil] at hl ⊢; omega)
        | cons x Z => exact ⟨Z, z, (List.cons.inj hz).2⟩)
      show (if bentB a b = true then (k, b) :: bntK (k2 :: K) (b :: T) else bntK (k2 :: K) (b :: T)).length + 1 ≤ _
      split
      · simp only [List.length_cons] at ih ⊢
        omega
      · simp only [List.length_cons] at ih ⊢
        omega
theorem bnt_two {L : List Kn} (h : 2 ≤ L.length) : (bntK L (slsK L)).length + 2 ≤ L.length := by
  match L, h with
  | a :: b :: L', _ =>
    have hlen := sls_len (a :: b :: L') (by simp)
    have e : slL (a :: b :: L') = (slopeA a b).1 :: slL (b :: L') := rfl
    generalize hv : (slopeA a b).1 = v at e
    generalize hV : slL (b :: L') = V at e
    have e1 : slsK (a :: b :: L') = v :: v :: (V ++ [V.getLastD v]) := by
      unfold slsK
      rw [e, List.getLastD_cons]
      rfl
    have e2 : bntK (a :: b :: L') (v :: v :: (V ++ [V.getLastD v])) = bntK (b :: L') (v :: (V ++ [V.getLastD v])) := by
      show (if bentB v v = true then _ else _) = _
      rw [if_neg (by simp [bentB])]
    rw [e1] at hlen ⊢
    rw [e2]
    have := bnt_short (b :: L') v (V ++ [V.getLastD v]) (by simp) (by simpa using hlen) (by
      have hne : v :: V ≠ [] := by simp
      refine ⟨(v :: V).dropLast, V.getLastD v, ?_⟩
      have h1 := List.dropLast_concat_getLast hne
      have h2 : (v :: V).getLast hne = V.getLastD v := by
        rw [List.getLast_eq_getLastD]
      rw [h2] at h1
      rw [show (v :: V).dropLast ++ [V.getLastD v, V.getLastD v] = ((v :: V).dropLast ++ [V.getLastD v]) ++ [V.getLastD v] by simp, h1]
      rfl)
    simp only [List.length_cons] at this ⊢
    omega
theorem errK_zero {f : Rt → Rt × Int} : ∀ {P : List (Rt × Int)}, (∀ x ∈ P, x.2 = 0 ∧ (f x.1).2 = 0) → errK f P = 0
  | [], _ => rfl
  | y :: P, h => by
    have hy := h y (List.mem_cons_self ..)
    show (if ¬ y.2 = 0 then y.2 else if ¬ (f y.1).2 = 0 then (f y.1).2 else errK f P) = 0
    rw [if_neg (fun e => e hy.1), if_neg (fun e => e hy.2)]
    exact errK_zero (fun x hx => h x (List.mem_cons_of_mem _ hx))
theorem newF_ok {h : Rat → Rat} {L : List Kn} (h1 : 1 ≤ L.length) (hl : LineOf h L (slsK L)) {t : Rt} (h0 : (newF L t).2 = 0) : rightB (newF L t).1 = true ∧ valQ (newF L t).1 = h (valQ t) := line_app (pared_line h1 hl) (prd_len L h1).2.1 h0
theorem own_pts {h : Rat → Rat} {L M : List Kn} (hL : LineOf h L (slsK L)) (hM : LineOf h M (slsK M)) : ownP M = ownP L := by
  have e := (bnt_canon hL hM).1
  unfold ownP bndK
  rw [e]
theorem own_outs {h : Rat → Rat} {L M : List Kn} (l1 : 1 ≤ L.length) (m1 : 1 ≤ M.length) (hL : LineOf h L (slsK L)) (hM : LineOf h M (slsK M)) (eL : errK (newF L) (ownP L) = 0) (eM : errK (newF M) (ownP M) = 0) : newK M = newK L := by
  have hp := own_pts hL hM
  unfold newK kntK
  rw [hp] at eM ⊢
  refine List.map_congr_left fun x hx => ?_
  have a := newF_ok l1 hL (errK_all eL x hx).2
  have b := newF_ok m1 hM (errK_all eM x hx).2
  rw [right_inj _ _ a.1 b.1 (by rw [a.2, b.2])]
/-- Two rows of knots on one broken line make one map. -/
theorem own_same {h : Rat → Rat} {L M : List Kn} (zL : newE L = 0) (zM : newE M = 0) (hL : LineOf h L (slsK L)) (hM : LineOf h M (slsK M)) : newK M = newK L := by
  obtain ⟨a1, -, a3, -⟩ := newE_zero zL
  obtain ⟨b1, -, b3, -⟩ := newE_zero zM
  exact own_outs (chk_ok a1).1 (chk_ok b1).1 hL hM a3 b3
theorem own_again {L : List Kn} (hz : newE L = 0) : newE (newK L) = 0 ∧ newK (newK L) = newK L := by
  obtain ⟨h, hm, hl, hk⟩ := rises_line2 hz
  obtain ⟨h1, h2, h3, h4⟩ := newE_zero hz
  obtain ⟨hl1, hl64, hi, ho⟩ := chk_ok h1
  obtain ⟨hbnt, hhd⟩ := bnt_canon hl hk
  have hpt := own_pts hl hk
  have hlen : (newK L).length = (ptsA (bndK L)).length := by
    unfold newK kntK ownP
    rw [List.length_map]
  have hbl : (bndK L).length = (bntK L (slsK L)).length := by
    unfold bndK bndI
    rw [List.length_map]
  have hpl : (ptsA (bndK L)).length = (bndK L).length + 2 := by
    cases bndK L with
    | nil => rfl
    | cons b B => simp [ptsA]
  have hk1 : 1 ≤ (newK L).length := by omega
  have hk64 : (newK L).length ≤ 64 := by
    by_cases h2 : 2 ≤ L.length
    · have := bnt_two h2
      omega
    · have : (bntK L (slsK L)).length ≤ L.length - 1 := by
        have h3 : L.length = 1 := by omega
        obtain ⟨a, rfl⟩ := List.length_eq_one_iff.1 h3
        have : bntK [a] (slsK [a]) = [] := by
          show (if bentB ⟨1, 1⟩ ⟨1, 1⟩ = true then _ else _) = _
          rw [if_neg (by simp [bentB])]
          rfl
        rw [this]
        simp
      omega
  have hok : RisQ (·.o) (newK L) := by
    refine ⟨fun x hx => (hk.outs x hx).1, ?_⟩
    refine List.Pairwise.imp_of_mem (fun {a b} ha hb hab => ?_) hk.ris.2
    have := hm _ _ hab
    rw [(hk.outs a ha).2, (hk.outs b hb).2] at this
    exact this
  have hchk := chk_back hk1 hk64 hk.ris hok
  have herr : errK (newF (newK L)) (ownP (newK L)) = 0 := by
    cases hb : bntK L (slsK L) with
    | cons p P =>
      have hb2 : bntK (newK L) (slsK (newK L)) = p :: P := by rw [← hbnt, hb]
      have e1 : prdK (newK L) (slsK (newK L)) = prdK L (slsK L) := by
        unfold prdK
        rw [hb, hb2, if_neg (by simp), if_neg (by simp)]
      have e2 : prdS (newK L) (slsK (newK L)) = prdS L (slsK L) := by
        unfold prdS
        rw [hb, hb2, if_neg (by simp), if_neg (by simp), hhd]
      have e3 : newF (newK L) = newF L := by
        unfold newF
        rw [e1, e2]
      rw [e3, hpt]
      exact h3
    | nil =>
      have hb2 : bntK (newK L) (slsK (newK L)) = [] := by rw [← hbnt, hb]
      have hbd : bndK L = [] := by unfold bndK bndI; rw [hb]; rfl
      have hkk : newK L = [⟨⟨0, 1⟩, (newF L ⟨0, 1⟩).1⟩, ⟨⟨1, 1⟩, (newF L ⟨1, 1⟩).1⟩] := by
        unfold newK ownP
        rw [hbd]
        rfl
      have hpp : ownP (newK L) = [(⟨0, 1⟩, 0), (⟨1, 1⟩, 0)] := by
        rw [hpt]
        unfold ownP
        rw [hbd]
        rfl
      generalize newK L = K at *
      obtain ⟨s0, T', hs, -⟩ := sls_two K
      have hpar := pared_line hk1 hk
      have e1 : prdK K (slsK K) = [⟨⟨0, 1⟩, (newF L ⟨0, 1⟩).1⟩] := by
        unfold prdK
        rw [hb2, if_pos rfl, hkk]
        rfl
      have e2 : prdS K (slsK K) = [s0, s0] := by
        unfold prdS
        rw [hb2, if_pos rfl, hs]
        rfl
      have hs0 : rightB s0 = true := hk.slp s0 (by rw [hs]; exact List.mem_cons_self ..)
      have ho0 := hk.outs ⟨⟨0, 1⟩, (newF L ⟨0, 1⟩).1⟩ (by rw [hkk]; simp)
      have ho1 := hk.outs ⟨⟨1, 1⟩, (newF L ⟨1, 1⟩).1⟩ (by rw [hkk]; simp)
      rw [e1, e2] at hpar
      have one_right : rightB ⟨1, 1⟩ = true := by decide +kernel
      rw [hpp]
      refine errK_zero (fun x hx => ?_)
      have hnf : newF K = appF [⟨⟨0, 1⟩, (newF L ⟨0, 1⟩).1⟩] [s0, s0] := by
        show appF (prdK K (slsK K)) (prdS K (slsK K)) = _
        rw [e1, e2]
      rw [hnf]
      generalize (newF L ⟨0, 1⟩).1 = r0 at *
      generalize (newF L ⟨1, 1⟩).1 = r1 at *
      rcases List.mem_cons.1 hx with rfl | hx
      · refine ⟨rfl, ?_⟩
        have := line_knot hpar (y := ⟨⟨0, 1⟩, r0⟩) (List.mem_singleton.2 rfl)
        simp only at this
        rw [this]
      · rw [List.mem_singleton] at hx
        subst hx
        refine ⟨rfl, ?_⟩
        have hpc : PieceOf (·.i) [⟨⟨0, 1⟩, r0⟩] [s0, s0] ⟨1, 1⟩ ⟨⟨0, 1⟩, r0⟩ s0 := ⟨1, by simp, rfl, rfl, fun _ => (by decide +kernel : ¬ 0 < cmpI ⟨0, 1⟩ ⟨1, 1⟩), fun y hy => by cases hy⟩
        have hv := line_piece hpar one_right hpc
        have hpi := piece_uniq (ris_mono hpar.ris one_right) (piece_ix (·.i) [⟨⟨0, 1⟩, r0⟩] [s0, s0] ⟨1, 1⟩ (by simp) (by simp)) hpc
        unfold appF
        rw [if_pos one_right, hpi.1, hpi.2]
        unfold recA
        have a1 : subA ⟨1, 1⟩ ⟨0, 1⟩ = (⟨1, 1⟩, 0) := by kernel_rfl
        have a2 : mulA ⟨1, 1⟩ s0 = (s0, 0) := by rw [mulA_right one_right hs0, val_oneK, Rat.one_mul, low_right _ hs0]
        have a3 : addA r0 s0 = (r1, 0) := by
          rw [addA_right ho0.1 hs0, show valQ r0 + valQ s0 = valQ r1 by
            rw [← ho1.2]
            simp only
            rw [hv, val_oneK, val_zeroH]
            grind, low_right _ ho1.1]
        simp only [a1]
        simp [a2, a3]
  have hsame := own_outs hl1 hk1 hl hk h3 herr
  refine ⟨?_, hsame⟩
  unfold newE
  rw [if_neg (fun e => e hchk), if_neg (fun e => e h4), if_neg (fun e => e herr), hsame]
  exact h4
end Go.Proofs.Ytipnefaggpigfaa

/- A knot laid down on a map's line changes nothing (chapter 6). -/
namespace Go.Proofs.Ytipnefaggpigfaa

theorem hev_ins (e t : Rat) (R2 : List (Rat × Rat)) (h : ∀ y ∈ R2, e ≤ y.1) : ∀ (R1 : List (Rat × Rat)) (x0 o0 s0 : Rat), hev x0 o0 s0 (R1 ++ (e, (R1.map (·.2)).getLastD s0) :: R2) t = hev x0 o0 s0 (R1 ++ R2) t
  | [], x0, o0, s0 => hev_drop x0 o0 s0 e t R2 h
  | (i, s) :: R1, x0, o0, s0 => by
    rw [List.cons_append, List.cons_append, hev_cons, hev_cons, List.map_cons, List.getLastD_cons, hev_ins e t R2 h R1]
/-- The last slope is the one ahead of it. -/
def LSl : Rat → List (Rat × Rat) → Prop
  | _, [] => False
  | s, [(_, v)] => v = s
  | _, (_, v) :: y :: R => LSl v (y :: R)
theorem lsl_step {s v i : Rat} {R : List (Rat × Rat)} (hR : R ≠ []) : LSl s ((i, v) :: R) ↔ LSl v R := by
  cases R with
  | nil => exact absurd rfl hR
  | cons y R => exact Iff.rfl
theorem lsl_form : ∀ (R : List (Rat × Rat)) (s : Rat), LSl s R → ∃ R0 e, R = R0 ++ [(e, (R0.map (·.2)).getLastD s)]
  | [], s, h => h.elim
  | [(i, v)], s, h => ⟨[], i, by rw [show v = s from h]; rfl⟩
  | (i, v) :: y :: R, s, h => by
    obtain ⟨R0, e, hR⟩ := lsl_form (y :: R) v h
    exact ⟨(i, v) :: R0, e, by rw [hR, List.map_cons, List.getLastD_cons]; rfl⟩
theorem lsl_ins (e : Rat) (R2 : List (Rat × Rat)) : ∀ (R1 : List (Rat × Rat)) (s : Rat), LSl s (R1 ++ R2) → LSl s (R1 ++ (e, (R1.map (·.2)).getLastD s) :: R2)
  | [], s, h => by
    show LSl s ((e, s) :: R2)
    have hne : R2 ≠ [] := by
      rintro rfl
      exact h.elim
    exact (lsl_step hne).2 h
  | (i, v) :: R1, s, h => by
    rw [List.cons_append] at h ⊢
    rw [List.map_cons, List.getLastD_cons, lsl_step (by simp)]
    by_cases hne : R1 ++ R2 = []
    · obtain ⟨rfl, rfl⟩ := List.append_eq_nil_iff.1 hne
      show v = v
      rfl
    · exact lsl_ins e R2 R1 v ((lsl_step hne).1 h)
theorem lnK_last : ∀ (V : List Rt) (v : Rt) (K : List Kn), K.length = V.length + 1 → LSl (valQ v) (lnK K (V ++ [V.getLastD v]))
  | [], v, K, h => by
    match K, h with
    | [k], _ => exact rfl
  | x :: V, v, K, h => by
    match K, h with
    | k :: k2 :: K, h =>
      rw [List.getLastD_cons, List.cons_append, lnK_cons, lsl_step]
      · exact lnK_last V x (k2 :: K) (by simpa using h)
      · cases V <;> simp [lnK]
theorem lnK_fst : ∀ (K : List Kn) (T : List Rt), T.length = K.length → (lnK K T).map (·.1) = K.map fun x => valQ x.i
  | [], T, _ => rfl
  | k :: K, [], h => by cases h
  | k :: K, b :: T, h => by
    rw [lnK_cons, List.map_cons, List.map_cons, lnK_fst K T (by simpa using h)]
theorem more_line {h : Rat → Rat} {L : List Kn} {kt : Kn} {p : Nat} (h2 : 2 ≤ L.length) (hl : LineOf h L (slsK L)) (hr : RisQ (·.i) (L.take p ++ kt :: L.drop p)) (he : slE (L.take p ++ kt :: L.drop p) = 0) (ho : rightB kt.o = true ∧ h (valQ kt.i) = valQ kt.o) : LineOf h (L.take p ++ kt :: L.drop p) (slsK (L.take p ++ kt :: L.drop p)) := by
  obtain ⟨x0, o0, s0, T, hs, hT, hh⟩ := hl.line
  obtain ⟨q, R, hq, hq2, hls⟩ : ∃ q R, lnK L T = q :: R ∧ q.2 = valQ s0 ∧ LSl (valQ s0) R := by
    match L, h2 with
    | a :: b :: L', _ =>
      have e : slL (a :: b :: L') = (slopeA a b).1 :: slL (b :: L') := rfl
      have hlv : (slL (b :: L')).length = L'.length := by rw [slL_len]; simp
      generalize (slopeA a b).1 = v at e
      generalize slL (b :: L') = V at e hlv
      have e1 : slsK (a :: b :: L') = v :: v :: (V ++ [V.getLastD v]) := by
        unfold slsK
        rw [e, List.getLastD_cons]
        rfl
      rw [e1] at hs
      obtain ⟨rfl, rfl⟩ := List.cons.inj hs
      exact ⟨_, _, rfl, rfl, lnK_last V v (b :: L') (by simp [hlv])⟩
  have hfst := lnK_fst L T hT
  generalize lnK L T = Q at *
  have hspl : Q.take p ++ Q.drop p = Q := List.take_append_drop p Q
  have hm1 : (Q.take p).map (·.1) = (L.take p).map fun x => valQ x.i := by rw [List.map_take, hfst, List.map_take]
  have hm2 : (Q.drop p).map (·.1) = (L.drop p).map fun x => valQ x.i := by rw [List.map_drop, hfst, List.map_drop]
  have hge : ∀ y ∈ Q.drop p, valQ kt.i ≤ y.1 := fun y hy => by
    have hy' : y.1 ∈ (L.drop p).map fun x => valQ x.i := by rw [← hm2]; exact List.mem_map.2 ⟨y, hy, rfl⟩
    obtain ⟨x, hx, e⟩ := List.mem_map.1 hy'
    have := (List.pairwise_cons.1 (List.pairwise_append.1 hr.2).2.1).1 x hx
    rw [← e]
    grind
  have hh2 : ∀ t, h t = hev x0 o0 (valQ s0) (Q.take p ++ (valQ kt.i, ((Q.take p).map (·.2)).getLastD (valQ s0)) :: Q.drop p) t := fun t => by
    rw [hh, hev_ins _ _ _ hge, hspl]
  have hmap : (Q.take p ++ (valQ kt.i, ((Q.take p).map (·.2)).getLastD (valQ s0)) :: Q.drop p).map (·.1) = (L.take p ++ kt :: L.drop p).map fun x => valQ x.i := by
    rw [List.map_append, List.map_append, List.map_cons, List.map_cons, hm1, hm2]
  obtain ⟨q2, R2, hQ2, hq22, hls2⟩ : ∃ q2 R2, Q.take p ++ (valQ kt.i, ((Q.take p).map (·.2)).getLastD (valQ s0)) :: Q.drop p = q2 :: R2 ∧ q2.2 = valQ s0 ∧ LSl (valQ s0) R2 := by
    rw [hq]
    cases p with
    | zero =>
      refine ⟨(valQ kt.i, valQ s0), q :: R, rfl, rfl, ?_⟩
      have hne : R ≠ [] := by
        rintro rfl
        exact hls.elim
      obtain ⟨q1, qs⟩ := q
      rw [lsl_step hne, show qs = valQ s0 from hq2]
      exact hls
    | succ p =>
      rw [List.take_succ_cons, List.drop_succ_cons, List.map_cons, List.getLastD_cons, hq2]
      refine ⟨q, _, rfl, hq2, ?_⟩
      refine lsl_ins _ _ _ _ ?_
      rw [List.take_append_drop]
      exact hls
  obtain ⟨R0, e, hR0⟩ := lsl_form R2 (valQ s0) hls2
  rw [hQ2, hR0, ← hq22] at hh2 hmap
  refine own_slopes (q := q2) (Q0 := R0) (e := e) (x0 := x0) (o0 := o0) hmap hr he (fun x hx => ?_) hh2
  rcases List.mem_append.1 hx with hx | hx
  · exact hl.outs x (List.mem_of_mem_take hx)
  · rcases List.mem_cons.1 hx with rfl | hx
    · exact ho
    · exact hl.outs x (List.mem_of_mem_drop hx)
/-- With a knot more on its line New makes the same map. -/
theorem more_same {L : List Kn} {t : Rt} {p : Nat} (hz : newE L = 0) (h2 : 2 ≤ L.length) (h0 : (appF (newK L) (slsK (newK L)) t).2 = 0) (hm : newE (L.take p ++ ⟨t, (appF (newK L) (slsK (newK L)) t).1⟩ :: L.drop p) = 0) :
    newK (L.take p ++ ⟨t, (appF (newK L) (slsK (newK L)) t).1⟩ :: L.drop p) = newK L := by
  obtain ⟨h, hr, hl, hk⟩ := rises_line2 hz
  have h1 : 1 ≤ (newK L).length := by
    unfold newK kntK ownP
    rw [List.length_map]
    cases bndK L <;> simp [ptsA]
  have ho := line_app hk h1 h0
  obtain ⟨a1, a2, -, -⟩ := newE_zero hm
  exact own_same hz hm hl (more_line h2 hl (chk_ok a1).2.2.1 a2 ⟨ho.1, ho.2.symm⟩)
end Go.Proofs.Ytipnefaggpigfaa

/- The line of the turned knots is the inverse function (chapter 6). -/
namespace Go.Proofs.Ytipnefaggpigfaa

/-- The bends of the inverse. -/
def invB (x0 o0 s0 : Rat) : List (Rat × Rat) → List (Rat × Rat)
  | [] => []
  | (i, s) :: R => (o0 + (i - x0) * s0, s⁻¹) :: invB i (o0 + (i - x0) * s0) s R
theorem invB_cons (x0 o0 s0 i s : Rat) (R : List (Rat × Rat)) : invB x0 o0 s0 ((i, s) :: R) = (o0 + (i - x0) * s0, s⁻¹) :: invB i (o0 + (i - x0) * s0) s R := rfl
theorem inv_posK {s : Rat} (h : 0 < s) : 0 < s⁻¹ := Rat.inv_pos.2 h
theorem inv_oneK {x0 o0 s0 t : Rat} (h : 0 < s0) : x0 + (o0 + (t - x0) * s0 - o0) * s0⁻¹ = t := by
  have h1 : s0 * s0⁻¹ = 1 := Rat.mul_inv_cancel s0 (by grind)
  have h2 : (t - x0) * s0 * s0⁻¹ = t - x0 := by rw [Rat.mul_assoc, h1, Rat.mul_one]
  have h3 : o0 + (t - x0) * s0 - o0 = (t - x0) * s0 := by grind
  rw [h3, h2]
  grind
theorem mul_leK {a b s : Rat} (h : a ≤ b) (hs : 0 < s) : a * s ≤ b * s := by
  by_cases h3 : a = b
  · rw [h3]; exact Rat.le_refl
  · have := mul_risesH (show a < b by grind) hs
    grind
theorem inv_hev : ∀ (R : List (Rat × Rat)) (x0 o0 s0 t : Rat), 0 < s0 → (∀ y ∈ R, 0 < y.2) → RisB R → hev o0 x0 s0⁻¹ (invB x0 o0 s0 R) (hev x0 o0 s0 R t) = t
  | [], x0, o0, s0, t, h0, _, _ => by
    show hev o0 x0 s0⁻¹ [] (o0 + (t - x0) * s0) = t
    rw [hev_nil]
    exact inv_oneK h0
  | (i, s) :: R, x0, o0, s0, t, h0, hp, hr => by
    have hs : 0 < s := hp (i, s) (List.mem_cons_self ..)
    have hp' : ∀ y ∈ R, 0 < y.2 := fun y hy => hp y (List.mem_cons_of_mem _ hy)
    have hr' := List.pairwise_cons.1 hr
    rw [invB_cons, hev_cons]
    by_cases ht : t ≤ i
    · have := mul_leK (show t - x0 ≤ i - x0 by grind) h0
      rw [hev_cons, if_pos ht, if_pos (by grind)]
      exact inv_oneK h0
    · have e := hev_first i (o0 + (i - x0) * s0) s i R (fun y hy => by
        have := hr'.1 y (List.mem_of_getElem? hy)
        grind)
      have l1 := hev_rises R i (o0 + (i - x0) * s0) s i t hr'.2 hs hp' (by grind)
      rw [hev_cons, if_neg ht, if_neg (by grind), inv_oneK h0]
      exact inv_hev R i _ s t hs hp' hr'.2
theorem invB_fst : ∀ (R : List (Rat × Rat)) (x0 o0 s0 : Rat), RisB R → (invB x0 o0 s0 R).map (·.1) = R.map fun y => hev x0 o0 s0 R y.1
  | [], _, _, _, _ => rfl
  | (i, s) :: R, x0, o0, s0, hr => by
    have hr' := List.pairwise_cons.1 hr
    rw [invB_cons, List.map_cons, List.map_cons, invB_fst R _ _ _ hr'.2, hev_cons, if_pos Rat.le_refl]
    congr 1
    refine List.map_congr_left fun y hy => ?_
    have := hr'.1 y hy
    rw [hev_cons, if_neg (by grind)]
theorem invB_pos : ∀ (R : List (Rat × Rat)) (x0 o0 s0 : Rat), (∀ y ∈ R, 0 < y.2) → ∀ y ∈ invB x0 o0 s0 R, 0 < y.2
  | [], _, _, _, _, y, hy => by cases hy
  | (i, s) :: R, x0, o0, s0, hp, y, hy => by
    rw [invB_cons] at hy
    rcases List.mem_cons.1 hy with rfl | hy
    · exact inv_posK (hp (i, s) (List.mem_cons_self ..))
    · exact invB_pos R _ _ _ (fun y hy => hp y (List.mem_cons_of_mem _ hy)) y hy
theorem lsl_inv : ∀ (R : List (Rat × Rat)) (x0 o0 s0 s : Rat), LSl s R → LSl s⁻¹ (invB x0 o0 s0 R)
  | [], _, _, _, _, h => h.elim
  | [(i, v)], x0, o0, s0, s, h => by
    show v⁻¹ = s⁻¹
    rw [show v = s from h]
  | (i, v) :: (j, u) :: R, x0, o0, s0, s, h => by
    rw [invB_cons, lsl_step (by rw [invB_cons]; simp)]
    exact lsl_inv ((j, u) :: R) _ _ _ _ h
/-- The line of knots with their slopes, written out. -/
theorem line_form {h : Rat → Rat} {L : List Kn} (h2 : 2 ≤ L.length) (hl : LineOf h L (slsK L)) : ∃ x0 o0 q R, q.2 = valQ ((slsK L).headD ⟨1, 1⟩) ∧ LSl q.2 R ∧ (q :: R).map (·.1) = L.map (fun x => valQ x.i) ∧ (∀ y ∈ q :: R, ∃ s ∈ slsK L, y.2 = valQ s) ∧ ∀ t, h t = hev x0 o0 q.2 (q :: R) t := by
  obtain ⟨x0, o0, s0, T, hs, hT, hh⟩ := hl.line
  obtain ⟨q, R, hq, hq2, hls⟩ : ∃ q R, lnK L T = q :: R ∧ q.2 = valQ s0 ∧ LSl (valQ s0) R := by
    match L, h2 with
    | a :: b :: L', _ =>
      have e : slL (a :: b :: L') = (slopeA a b).1 :: slL (b :: L') := rfl
      have hlv : (slL (b :: L')).length = L'.length := by rw [slL_len]; simp
      generalize (slopeA a b).1 = v at e
      generalize slL (b :: L') = V at e hlv
      have e1 : slsK (a :: b :: L') = v :: v :: (V ++ [V.getLastD v]) := by
        unfold slsK
        rw [e, List.getLastD_cons]
        rfl
      rw [e1] at hs
      obtain ⟨rfl, rfl⟩ := List.cons.inj hs
      exact ⟨_, _, rfl, rfl, lnK_last V v (b :: L') (by simp [hlv])⟩
  have hfst := lnK_fst L T hT
  have hhd : (slsK L).headD ⟨1, 1⟩ = s0 := by rw [hs]; rfl
  refine ⟨x0, o0, q, R, by rw [hhd]; exact hq2, by rw [hq2]; exact hls, by rw [← hq]; exact hfst, fun y hy => ?_, fun t => ?_⟩
  · rw [← hq] at hy
    obtain ⟨-, s, hs1, e⟩ := lnK_mem hy
    exact ⟨s, by rw [hs]; exact List.mem_cons_of_mem _ hs1, e⟩
  · rw [hh, hq, hq2]
def swK (L : List Kn) : List Kn := L.map fun x => ⟨x.o, x.i⟩
theorem sw_sw (L : List Kn) : swK (swK L) = L := by
  unfold swK
  rw [List.map_map]
  exact List.map_id L
theorem sw_len (L : List Kn) : (swK L).length = L.length := by unfold swK; simp
theorem outs_ris {h : Rat → Rat} {L : List Kn} (hm : ∀ t u, t < u → h t < h u) (hl : RisQ (·.i) L) (ho : ∀ x ∈ L, rightB x.o = true ∧ h (valQ x.i) = valQ x.o) : RisQ (·.o) L := by
  refine ⟨fun x hx => (ho x hx).1, ?_⟩
  refine List.Pairwise.imp_of_mem (fun {a b} ha hb hab => ?_) hl.2
  have := hm _ _ hab
  rw [(ho a ha).2, (ho b hb).2] at this
  exact this
theorem sls_pos {L : List Kn} (hi : RisQ (·.i) L) (ho : RisQ (·.o) L) (he : slE L = 0) : ∀ s ∈ slsK L, 0 < valQ s := sls_mem (slL_pos L hi.2 ho.2 he) (by rw [val_oneK]; decide +kernel)
/-- The turned knots lie on the inverse. -/
theorem line_inv {h : Rat → Rat} {L : List Kn} (h2 : 2 ≤ L.length) (hm : ∀ t u, t < u → h t < h u) (hl : LineOf h L (slsK L)) (he : slE L = 0) (hs : slE (swK L) = 0) :
    ∃ g : Rat → Rat, (∀ t, g (h t) = t) ∧ (∀ u, h (g u) = u) ∧ (∀ t u, t < u → g t < g u) ∧ LineOf g (swK L) (slsK (swK L)) := by
  have ho := outs_ris hm hl.ris hl.outs
  have hpos := sls_pos hl.ris ho he
  obtain ⟨x0, o0, q, R, hq2, hls, hfst, hmem, hh⟩ := line_form h2 hl
  have hrb : RisB (q :: R) := by
    have h1 : ((q :: R).map (·.1)).Pairwise (· < ·) := by
      rw [hfst, List.pairwise_map]
      exact hl.ris.2
    rw [List.pairwise_map] at h1
    exact h1
  have hpq : ∀ y ∈ q :: R, 0 < y.2 := fun y hy => by
    obtain ⟨s, hs, e⟩ := hmem y hy
    rw [e]
    exact hpos s hs
  have hq0 : 0 < q.2 := hpq q (List.mem_cons_self ..)
  obtain ⟨g, hg⟩ : ∃ g : Rat → Rat, ∀ u, g u = hev o0 x0 q.2⁻¹ (invB x0 o0 q.2 (q :: R)) u := ⟨_, fun _ => rfl⟩
  have hgh : ∀ t, g (h t) = t := fun t => by
    rw [hg, hh]
    exact inv_hev (q :: R) x0 o0 q.2 t hq0 hpq hrb
  have hf1 : (invB x0 o0 q.2 (q :: R)).map (·.1) = L.map fun x => valQ x.o := by
    rw [invB_fst _ _ _ _ hrb]
    have e : ((q :: R).map fun y => hev x0 o0 q.2 (q :: R) y.1) = ((q :: R).map (·.1)).map h := by
      rw [List.map_map]
      exact List.map_congr_left fun y _ => (hh y.1).symm
    rw [e, hfst, List.map_map]
    exact List.map_congr_left fun x hx => (hl.outs x hx).2
  have hrb2 : RisB (invB x0 o0 q.2 (q :: R)) := by
    have h1 : ((invB x0 o0 q.2 (q :: R)).map (·.1)).Pairwise (· < ·) := by
      rw [hf1, List.pairwise_map]
      exact ho.2
    rw [List.pairwise_map] at h1
    exact h1
  have hgm : ∀ t u, t < u → g t < g u := fun t u htu => by
    rw [hg, hg]
    exact hev_rises _ _ _ _ _ _ hrb2 (inv_posK hq0) (invB_pos _ _ _ _ hpq) htu
  have hhg : ∀ u, h (g u) = u := fun u => by
    have e := hgh (g u)
    by_cases h1 : h (g u) < u
    · have := hgm _ _ h1; grind
    · by_cases h3 : u < h (g u)
      · have := hgm _ _ h3; grind
      · grind
  refine ⟨g, hgh, hhg, hgm, ?_⟩
  obtain ⟨q1, q2⟩ := q
  have hls2 := lsl_inv R q1 (o0 + (q1 - x0) * q2) q2 q2 hls
  obtain ⟨R0, e, hR0⟩ := lsl_form _ _ hls2
  have hQ : invB x0 o0 q2 ((q1, q2) :: R) = (o0 + (q1 - x0) * q2, q2⁻¹) :: R0 ++ [(e, (R0.map (·.2)).getLastD q2⁻¹)] := by
    rw [invB_cons, hR0]
    rfl
  have hsw : (swK L).map (fun x => valQ x.i) = L.map fun x => valQ x.o := by
    unfold swK
    rw [List.map_map]
    rfl
  have hri : RisQ (·.i) (swK L) := by
    refine ⟨fun x hx => ?_, ?_⟩
    · obtain ⟨y, hy, rfl⟩ := List.mem_map.1 hx
      exact ho.1 y hy
    · unfold swK
      rw [List.pairwise_map]
      exact ho.2
  refine own_slopes (q := (o0 + (q1 - x0) * q2, q2⁻¹)) (Q0 := R0) (e := e) (x0 := o0) (o0 := x0) (by rw [← hQ, hf1, hsw]) hri hs (fun x hx => ?_) (fun t => by rw [hg, ← hQ])
  obtain ⟨y, hy, rfl⟩ := List.mem_map.1 hx
  exact ⟨hl.ris.1 y hy, by show g (valQ y.o) = valQ y.i; rw [← (hl.outs y hy).2, hgh]⟩
end Go.Proofs.Ytipnefaggpigfaa
