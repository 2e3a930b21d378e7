/- Several texts, one behind the other. -/
import Derived.Test.YtjbkhbhobnlhcaaKnQ
/- The map's own knots rise (chapter 6). -/
namespace Go.Proofs.Ytjbkhbhobnlhcaa
open Go.RowKit Go.Shelf

theorem subA_ok {a b : Rt} (h : (subA a b).2 = 0) : rightB a = true ∧ rightB b = true ∧ rightB (subA a b).1 = true ∧ valQ (subA a b).1 = valQ a - valQ b := by
  unfold subA at *
  by_cases hr : (rightB a && rightB b) = true
  · rw [if_pos hr] at h ⊢
    rw [Bool.and_eq_true] at hr
    obtain ⟨h1, h2⟩ := low_ok_right _ h
    exact ⟨hr.1, hr.2, h1, h2⟩
  · rw [if_neg hr] at h
    cases h
theorem errK_all {f : Rt → Rt × Int} : ∀ {P : List (Rt × Int)}, errK f P = 0 → ∀ x ∈ P, x.2 = 0 ∧ (f x.1).2 = 0
  | [], _, x, hx => by cases hx
  | y :: P, h, x, hx => by
    have h' : (if ¬ y.2 = 0 then y.2 else if ¬ (f y.1).2 = 0 then (f y.1).2 else errK f P) = 0 := h
    by_cases h1 : y.2 = 0
    · rw [if_neg (fun e => e h1)] at h'
      by_cases h2 : (f y.1).2 = 0
      · rw [if_neg (fun e => e h2)] at h'
        rcases List.mem_cons.1 hx with rfl | hx
        · exact ⟨h1, h2⟩
        · exact errK_all h' x hx
      · rw [if_pos h2] at h'
        exact absurd h' h2
    · rw [if_pos h1] at h'
      exact absurd h' h1
theorem newE_zero {L : List Kn} (h : newE L = 0) : chkK L = 0 ∧ slE L = 0 ∧ errK (newF L) (ownP L) = 0 ∧ slE (newK L) = 0 := by
  unfold newE at h
  by_cases h1 : chkK L = 0
  · rw [if_neg (fun e => e h1)] at h
    by_cases h2 : slE L = 0
    · rw [if_neg (fun e => e h2)] at h
      by_cases h3 : errK (newF L) (ownP L) = 0
      · rw [if_neg (fun e => e h3)] at h
        exact ⟨h1, h2, h3, h⟩
      · rw [if_pos h3] at h
        exact absurd h h3
    · rw [if_pos h2] at h
      exact absurd h h2
  · rw [if_pos h1] at h
    exact absurd h h1
/-- Rising, right times. -/
def RisL (B : List Rt) : Prop := (∀ x ∈ B, rightB x = true) ∧ B.Pairwise fun a b => valQ a < valQ b
theorem bnd_ris {L : List Kn} (h : RisQ (·.i) L) : RisL (bndK L) := by
  have hs := bnt_sub L (slsK L)
  have e : bndK L = ((bntK L (slsK L)).map (·.1)).map (·.i) := by
    unfold bndK bndI
    rw [List.map_map]
    rfl
  rw [e]
  refine ⟨fun x hx => ?_, ?_⟩
  · obtain ⟨y, hy, rfl⟩ := List.mem_map.1 hx
    exact h.1 y (hs.subset hy)
  · rw [List.pairwise_map]
    exact h.2.sublist hs
theorem val_oneK : valQ ⟨1, 1⟩ = 1 := by decide +kernel
theorem pts_ris {B : List Rt} (h : RisL B) (he : ∀ x ∈ ptsA B, x.2 = 0) : RisL ((ptsA B).map (·.1)) := by
  cases B with
  | nil =>
    refine ⟨fun x hx => ?_, ?_⟩
    · simp only [ptsA, List.map_cons, List.map_nil, List.mem_cons, List.not_mem_nil, or_false] at hx
      rcases hx with rfl | rfl <;> decide +kernel
    · simp only [ptsA, List.map_cons, List.map_nil]
      refine List.Pairwise.cons (fun y hy => ?_) (List.pairwise_singleton _ _)
      rw [List.mem_singleton] at hy
      subst hy
      decide +kernel
  | cons b L =>
    have e1 : (subA b ⟨1, 1⟩).2 = 0 := he _ (by unfold ptsA; exact List.mem_cons_self ..)
    have e2 : (addA ((b :: L).getLastD b) ⟨1, 1⟩).2 = 0 := he _ (by unfold ptsA; exact List.mem_cons_of_mem _ (List.mem_append_right _ (List.mem_singleton.2 rfl)))
    obtain ⟨s1, s2, s3, s4⟩ := subA_ok e1
    obtain ⟨a1, a2, a3, a4⟩ := addA_ok e2
    rw [val_oneK] at s4 a4
    have hm : ((b :: L).map (fun t => (t, (0 : Int)))).map (·.1) = b :: L := by
      rw [List.map_map]
      exact List.map_id _
    have hmap : (ptsA (b :: L)).map (·.1) = (subA b ⟨1, 1⟩).1 :: ((b :: L) ++ [(addA ((b :: L).getLastD b) ⟨1, 1⟩).1]) := by
      unfold ptsA
      rw [List.map_cons, List.map_append, hm]
      rfl
    rw [hmap]
    have hge : ∀ x ∈ b :: L, valQ b ≤ valQ x := fun x hx => by
      rcases List.mem_cons.1 hx with rfl | hx
      · exact Rat.le_refl
      · have := (List.pairwise_cons.1 h.2).1 x hx
        grind
    have hla : ∀ x ∈ b :: L, valQ x ≤ valQ ((b :: L).getLastD b) := by
      have hlast := last_M b L
      obtain ⟨hl, hz⟩ := List.getElem?_eq_some_iff.1 hlast
      intro x hx
      obtain ⟨i, hi, rfl⟩ := List.getElem_of_mem hx
      rw [← hz]
      by_cases hi2 : i = L.length
      · subst hi2
        exact Rat.le_refl
      · have hi' : i < (b :: L).length := hi
        have := List.pairwise_iff_getElem.1 h.2 i L.length hi hl (by simp at hi'; omega)
        grind
    refine ⟨fun x hx => ?_, ?_⟩
    · rcases List.mem_cons.1 hx with rfl | hx
      · exact s3
      · rcases List.mem_append.1 hx with hx | hx
        · exact h.1 x hx
        · rw [List.mem_singleton] at hx
          rw [hx]
          exact a3
    · refine List.Pairwise.cons (fun y hy => ?_) ?_
      · rcases List.mem_append.1 hy with hy | hy
        · have := hge y hy
          rw [s4]
          grind
        · rw [List.mem_singleton] at hy
          rw [hy, s4, a4]
          have := hla b (List.mem_cons_self ..)
          grind
      · refine List.pairwise_append.2 ⟨h.2, List.pairwise_singleton _ _, fun x hx y hy => ?_⟩
        rw [List.mem_singleton] at hy
        rw [hy, a4]
        have := hla x hx
        grind
/-- The own knots' ins rise. -/
theorem new_ris {L : List Kn} (h : newE L = 0) : RisQ (·.i) (newK L) := by
  obtain ⟨h1, h2, h3, h4⟩ := newE_zero h
  obtain ⟨-, -, hi, -⟩ := chk_ok h1
  have hp := pts_ris (bnd_ris hi) (fun x hx => (errK_all h3 x hx).1)
  have e : (newK L).map (·.i) = (ptsA (bndK L)).map (·.1) := by
    unfold newK kntK ownP
    rw [List.map_map]
    rfl
  rw [← e] at hp
  refine ⟨fun x hx => hp.1 _ (List.mem_map.2 ⟨x, hx, rfl⟩), ?_⟩
  have := hp.2
  rw [List.pairwise_map] at this
  exact this
end Go.Proofs.Ytjbkhbhobnlhcaa

/- Broken lines over the rationals (chapter 6): a map of times, as one says it. -/
namespace Go.Proofs.Ytjbkhbhobnlhcaa

/-- The broken line through (x0, o0) that rises by s0, and by s behind each bend (i, s). -/
def hev (x0 o0 s0 : Rat) : List (Rat × Rat) → Rat → Rat
  | [], t => o0 + (t - x0) * s0
  | (i, s) :: R, t => if t ≤ i then o0 + (t - x0) * s0 else hev i (o0 + (i - x0) * s0) s R t
theorem hev_nil (x0 o0 s0 t : Rat) : hev x0 o0 s0 [] t = o0 + (t - x0) * s0 := rfl
theorem hev_cons (x0 o0 s0 t i s : Rat) (R : List (Rat × Rat)) : hev x0 o0 s0 ((i, s) :: R) t = if t ≤ i then o0 + (t - x0) * s0 else hev i (o0 + (i - x0) * s0) s R t := rfl
theorem hev_base (x0 o0 s0 i t : Rat) (R : List (Rat × Rat)) : hev i (o0 + (i - x0) * s0) s0 R t = hev x0 o0 s0 R t := by
  have e1 : ∀ j : Rat, o0 + (i - x0) * s0 + (j - i) * s0 = o0 + (j - x0) * s0 := fun j => by grind
  cases R with
  | nil => rw [hev_nil, hev_nil, e1]
  | cons y R =>
    obtain ⟨j, s⟩ := y
    rw [hev_cons, hev_cons, e1, e1]
theorem hev_drop (x0 o0 s0 i t : Rat) (R : List (Rat × Rat)) (h : ∀ y ∈ R, i ≤ y.1) : hev x0 o0 s0 ((i, s0) :: R) t = hev x0 o0 s0 R t := by
  rw [hev_cons, hev_base]
  split
  · rename_i ht
    cases R with
    | nil => rfl
    | cons y R =>
      obtain ⟨j, s⟩ := y
      have := h (j, s) (List.mem_cons_self ..)
      rw [hev_cons, if_pos (Rat.le_trans ht this)]
  · rfl
theorem hev_end (e t : Rat) : ∀ (R : List (Rat × Rat)) (x0 o0 s0 : Rat), hev x0 o0 s0 (R ++ [(e, (R.map (·.2)).getLastD s0)]) t = hev x0 o0 s0 R t
  | [], x0, o0, s0 => hev_drop x0 o0 s0 e t [] (fun _ h => by cases h)
  | (i, s) :: R, x0, o0, s0 => by
    rw [List.cons_append, hev_cons, hev_cons, List.map_cons, List.getLastD_cons, hev_end e t R]
/-- Rising bends. -/
def RisB (R : List (Rat × Rat)) : Prop := R.Pairwise fun a b => a.1 < b.1
theorem hev_first (x0 o0 s0 t : Rat) (R : List (Rat × Rat)) (h : ∀ y, R[0]? = some y → t ≤ y.1) : hev x0 o0 s0 R t = o0 + (t - x0) * s0 := by
  cases R with
  | nil => rfl
  | cons y R =>
    obtain ⟨j, s⟩ := y
    rw [hev_cons, if_pos (h (j, s) rfl)]
theorem hev_seg : ∀ (R : List (Rat × Rat)) (x0 o0 s0 : Rat) (k : Nat) (t i s : Rat), RisB R → R[k]? = some (i, s) → i ≤ t → (∀ y, R[k + 1]? = some y → t ≤ y.1) → hev x0 o0 s0 R t = hev x0 o0 s0 R i + (t - i) * s
  | [], _, _, _, _, _, _, _, _, h, _, _ => by cases h
  | (j, u) :: R, x0, o0, s0, 0, t, i, s, _, h, h1, h2 => by
    cases h
    rw [hev_cons, hev_cons, if_pos (Rat.le_refl : j ≤ j)]
    split
    · rename_i h3
      obtain rfl : t = j := Rat.le_antisymm h3 h1
      grind
    · rw [hev_first _ _ _ _ R (fun y hy => h2 y hy)]
  | (j, u) :: R, x0, o0, s0, k + 1, t, i, s, hp, h, h1, h2 => by
    have hji : j < i := (List.pairwise_cons.1 hp).1 (i, s) (List.mem_of_getElem? h)
    have n1 : ¬ i ≤ j := by grind
    have n2 : ¬ t ≤ j := by grind
    rw [hev_cons, hev_cons, if_neg n1, if_neg n2]
    exact hev_seg R _ _ _ k t i s (List.pairwise_cons.1 hp).2 h h1 (fun y hy => h2 y hy)
theorem mul_risesH {a b s : Rat} (h : a < b) (hs : 0 < s) : a * s < b * s := by
  have := Rat.mul_pos (show 0 < b - a by grind) hs
  grind
theorem hev_rises : ∀ (R : List (Rat × Rat)) (x0 o0 s0 t u : Rat), RisB R → 0 < s0 → (∀ y ∈ R, 0 < y.2) → t < u → hev x0 o0 s0 R t < hev x0 o0 s0 R u
  | [], x0, o0, s0, t, u, _, hs, _, htu => by
    have := mul_risesH (show t - x0 < u - x0 by grind) hs
    rw [hev_nil, hev_nil]
    grind
  | (i, s) :: R, x0, o0, s0, t, u, hp, hs, hq, htu => by
    have hp' := (List.pairwise_cons.1 hp)
    have hs' : 0 < s := hq (i, s) (List.mem_cons_self ..)
    have hq' : ∀ y ∈ R, 0 < y.2 := fun y hy => hq y (List.mem_cons_of_mem _ hy)
    rw [hev_cons, hev_cons]
    by_cases h1 : t ≤ i
    · rw [if_pos h1]
      by_cases h2 : u ≤ i
      · rw [if_pos h2]
        have := mul_risesH (show t - x0 < u - x0 by grind) hs
        grind
      · rw [if_neg h2]
        have e := hev_first i (o0 + (i - x0) * s0) s i R (fun y hy => by
          have := hp'.1 y (List.mem_of_getElem? hy)
          grind)
        have l1 := hev_rises R i (o0 + (i - x0) * s0) s i u hp'.2 hs' hq' (by grind)
        have l2 : (t - x0) * s0 ≤ (i - x0) * s0 := by
          by_cases h3 : t = i
          · rw [h3]; exact Rat.le_refl
          · have := mul_risesH (show t - x0 < i - x0 by grind) hs
            grind
        grind
    · have h2 : ¬ u ≤ i := by grind
      rw [if_neg h1, if_neg h2]
      exact hev_rises R _ _ _ _ _ hp'.2 hs' hq' htu
/-- The bends of rows of knots and slopes. -/
def lnK (K : List Kn) (T : List Rt) : List (Rat × Rat) := (K.zip T).map fun x => (valQ x.1.i, valQ x.2)
theorem lnK_cons (k : Kn) (K : List Kn) (b : Rt) (T : List Rt) : lnK (k :: K) (b :: T) = (valQ k.i, valQ b) :: lnK K T := rfl
theorem lnK_mem {K : List Kn} {T : List Rt} {y : Rat × Rat} (h : y ∈ lnK K T) : (∃ x ∈ K, y.1 = valQ x.i) ∧ ∃ s ∈ T, y.2 = valQ s := by
  obtain ⟨x, hx, rfl⟩ := List.mem_map.1 h
  have := List.of_mem_zip (a := x.1) (b := x.2) hx
  exact ⟨⟨_, this.1, rfl⟩, _, this.2, rfl⟩
theorem lnK_ris {K : List Kn} (h : K.Pairwise fun a b => valQ a.i < valQ b.i) : ∀ T : List Rt, RisB (lnK K T) := by
  induction K with
  | nil => intro T; exact List.Pairwise.nil
  | cons k K ih =>
    intro T
    cases T with
    | nil => exact List.Pairwise.nil
    | cons b T =>
      rw [lnK_cons]
      refine List.pairwise_cons.2 ⟨fun y hy => ?_, ih (List.pairwise_cons.1 h).2 T⟩
      obtain ⟨⟨x, hx, e⟩, -⟩ := lnK_mem hy
      rw [e]
      exact (List.pairwise_cons.1 h).1 x hx
def pqK (x : Kn × Rt) : Rat × Rat := (valQ x.1.i, valQ x.2)
theorem bent_not {a b : Rt} (h : ¬ bentB a b = true) : a = b := by
  obtain ⟨x, y⟩ := a
  obtain ⟨z, w⟩ := b
  simp [bentB] at h
  simp [h]
theorem hev_bnt (t : Rat) : ∀ (K : List Kn) (a : Rt) (T : List Rt) (x0 o0 : Rat), T.length = K.length → (K.Pairwise fun a b => valQ a.i < valQ b.i) → hev x0 o0 (valQ a) (lnK K T) t = hev x0 o0 (valQ a) ((bntK K (a :: T)).map pqK) t
  | [], a, T, x0, o0, hl, _ => by
    obtain rfl : T = [] := List.length_eq_zero_iff.1 hl
    rfl
  | k :: K, a, [], _, _, hl, _ => by cases hl
  | k :: K, a, b :: T, x0, o0, hl, hp => by
    have hp' := List.pairwise_cons.1 hp
    have hl' : T.length = K.length := by simpa using hl
    rw [lnK_cons]
    show _ = hev x0 o0 (valQ a) ((if bentB a b = true then (k, b) :: bntK K (b :: T) else bntK K (b :: T)).map pqK) t
    by_cases hb : bentB a b = true
    · rw [if_pos hb, List.map_cons]
      show _ = hev x0 o0 (valQ a) ((valQ k.i, valQ b) :: _) t
      rw [hev_cons, hev_cons, hev_bnt t K b T _ _ hl' hp'.2]
    · rw [if_neg hb]
      obtain rfl := bent_not hb
      rw [hev_drop, hev_bnt t K a T _ _ hl' hp'.2]
      intro y hy
      obtain ⟨⟨x, hx, e⟩, -⟩ := lnK_mem hy
      rw [e]
      have := hp'.1 x hx
      grind
end Go.Proofs.Ytjbkhbhobnlhcaa

/- Rows of knots and slopes that do what a broken line says (chapter 6). -/
namespace Go.Proofs.Ytjbkhbhobnlhcaa

theorem slope_ok {a b : Kn} (hi : valQ a.i < valQ b.i) (h : (slopeA a b).2 = 0) : rightB (slopeA a b).1 = true ∧ valQ (slopeA a b).1 * (valQ b.i - valQ a.i) = valQ b.o - valQ a.o := by
  unfold slopeA at *
  by_cases h1 : (subA b.o a.o).2 = 0
  · rw [if_neg (fun e => e h1)] at h ⊢
    by_cases h2 : (subA b.i a.i).2 = 0
    · rw [if_neg (fun e => e h2)] at h ⊢
      obtain ⟨_, _, r1, v1⟩ := subA_ok h1
      obtain ⟨_, _, r2, v2⟩ := subA_ok h2
      have hn : (subA b.i a.i).1.N ≠ 0 := by
        intro e
        have : valQ (subA b.i a.i).1 = 0 := by unfold valQ; rw [e]; exact Rat.zero_divInt _
        grind
      rw [divA_right r1 r2 hn] at h ⊢
      obtain ⟨q1, q2⟩ := low_ok_right _ h
      refine ⟨q1, ?_⟩
      rw [q2, v1, v2]
      exact Rat.div_mul_cancel (by grind)
    · rw [if_pos h2] at h
      exact absurd h h2
  · rw [if_pos h1] at h
    exact absurd h h1
theorem slE_two {a b : Kn} {t : List Kn} (h : slE (a :: b :: t) = 0) : (slopeA a b).2 = 0 ∧ slE (b :: t) = 0 := by
  have h' : (if (slopeA a b).2 = 0 then slE (b :: t) else (slopeA a b).2) = 0 := h
  by_cases h1 : (slopeA a b).2 = 0
  · rw [if_pos h1] at h'
    exact ⟨h1, h'⟩
  · rw [if_neg h1] at h'
    exact absurd h' h1
def InsR (L : List Kn) : Prop := L.Pairwise fun a b => valQ a.i < valQ b.i
theorem slL_right : ∀ L : List Kn, InsR L → slE L = 0 → ∀ s ∈ slL L, rightB s = true
  | [], _, _, s, hs => by cases hs
  | [_], _, _, s, hs => by cases hs
  | a :: b :: t, hp, he, s, hs => by
    obtain ⟨e1, e2⟩ := slE_two he
    have hp' := List.pairwise_cons.1 hp
    have hs' : s ∈ (slopeA a b).1 :: slL (b :: t) := hs
    rcases List.mem_cons.1 hs' with rfl | hs'
    · exact (slope_ok (hp'.1 b (List.mem_cons_self ..)) e1).1
    · exact slL_right (b :: t) hp'.2 e2 s hs'
theorem slL_pos : ∀ L : List Kn, InsR L → (L.Pairwise fun a b => valQ a.o < valQ b.o) → slE L = 0 → ∀ s ∈ slL L, 0 < valQ s
  | [], _, _, _, s, hs => by cases hs
  | [_], _, _, _, s, hs => by cases hs
  | a :: b :: t, hp, ho, he, s, hs => by
    obtain ⟨e1, e2⟩ := slE_two he
    have hp' := List.pairwise_cons.1 hp
    have ho' := List.pairwise_cons.1 ho
    have hs' : s ∈ (slopeA a b).1 :: slL (b :: t) := hs
    rcases List.mem_cons.1 hs' with rfl | hs'
    · have h1 := hp'.1 b (List.mem_cons_self ..)
      have h2 := ho'.1 b (List.mem_cons_self ..)
      have h3 := (slope_ok h1 e1).2
      by_cases hc : 0 < valQ (slopeA a b).1
      · exact hc
      · have := Rat.mul_nonneg (show 0 ≤ -valQ (slopeA a b).1 by grind) (show 0 ≤ valQ b.i - valQ a.i by grind)
        grind
    · exact slL_pos (b :: t) hp'.2 ho'.2 e2 s hs'
theorem sls_mem {L : List Kn} {p : Rt → Prop} (h : ∀ s ∈ slL L, p s) (h1 : p ⟨1, 1⟩) : ∀ s ∈ slsK L, p s := by
  have hd : p ((slL L).headD ⟨1, 1⟩) := by
    cases e : slL L with
    | nil => exact h1
    | cons x X => exact h x (by rw [e]; exact List.mem_cons_self ..)
  have hla : p ((slL L).getLastD ⟨1, 1⟩) := by
    rcases List.mem_cons.1 (lastD_mem ⟨1, 1⟩ (slL L)) with e | e
    · rw [e]; exact h1
    · exact h _ e
  intro s hs
  unfold slsK at hs
  rcases List.mem_cons.1 hs with rfl | hs
  · exact hd
  · rcases List.mem_append.1 hs with hs | hs
    · exact h s hs
    · rw [List.mem_singleton] at hs
      rw [hs]
      exact hla
theorem hev_outs (u : Rt) : ∀ (L : List Kn) (a : Kn) (h0 : Rt) (T : List Rt), InsR (a :: L) → slE (a :: L) = 0 → slL (a :: L) ++ [u] = h0 :: T → ∀ x ∈ a :: L, hev (valQ a.i) (valQ a.o) (valQ h0) (lnK L T) (valQ x.i) = valQ x.o
  | [], a, h0, T, _, _, hs, x, hx => by
    obtain rfl := List.mem_singleton.1 hx
    show hev _ _ _ [] _ = _
    rw [hev_nil]
    grind
  | b :: L, a, h0, T, hp, he, hs, x, hx => by
    obtain ⟨e1, e2⟩ := slE_two he
    have hp' := List.pairwise_cons.1 hp
    have hab := hp'.1 b (List.mem_cons_self ..)
    have hv := (slope_ok hab e1).2
    obtain ⟨h1, T', e⟩ : ∃ h1 T', slL (b :: L) ++ [u] = h1 :: T' := by cases slL (b :: L) <;> exact ⟨_, _, rfl⟩
    have hs' : (slopeA a b).1 :: (slL (b :: L) ++ [u]) = h0 :: T := hs
    rw [e] at hs'
    obtain ⟨rfl, rfl⟩ := List.cons.inj hs'
    have hb : valQ a.o + (valQ b.i - valQ a.i) * valQ (slopeA a b).1 = valQ b.o := by grind
    rw [lnK_cons, hev_cons, hb]
    rcases List.mem_cons.1 hx with rfl | hx'
    · rw [if_pos (by grind)]
      grind
    · by_cases hle : valQ x.i ≤ valQ b.i
      · rw [if_pos hle]
        rcases List.mem_cons.1 hx' with rfl | hx''
        · exact hb
        · have := (List.pairwise_cons.1 hp'.2).1 x hx''
          grind
      · rw [if_neg hle]
        exact hev_outs u L b h1 T' hp'.2 e2 e x hx'
/-- Rows that do what a broken line says. -/
structure LineOf (h : Rat → Rat) (K : List Kn) (S : List Rt) : Prop where
  ris : RisQ (·.i) K
  slp : ∀ s ∈ S, rightB s = true
  outs : ∀ x ∈ K, rightB x.o = true ∧ h (valQ x.i) = valQ x.o
  line : ∃ x0 o0 s0 T, S = s0 :: T ∧ T.length = K.length ∧ ∀ t, h t = hev x0 o0 (valQ s0) (lnK K T) t
theorem lnK_get {K : List Kn} {T : List Rt} {k : Nat} {x : Kn} {b : Rt} (hx : K[k]? = some x) (hb : T[k]? = some b) : (lnK K T)[k]? = some (valQ x.i, valQ b) := by
  unfold lnK
  rw [List.getElem?_map, (List.getElem?_zip_eq_some (z := (x, b))).2 ⟨hx, hb⟩]
  rfl
theorem lnK_of {K : List Kn} {T : List Rt} {k : Nat} {y : Rat × Rat} (h : (lnK K T)[k]? = some y) : ∃ x, K[k]? = some x ∧ y.1 = valQ x.i := by
  unfold lnK at h
  rw [List.getElem?_map, Option.map_eq_some_iff] at h
  obtain ⟨z, hz, rfl⟩ := h
  exact ⟨z.1, (List.getElem?_zip_eq_some.1 hz).1, rfl⟩
theorem recA_ok {t fr tw sl : Rt} (h : (recA mulA t fr tw sl).2 = 0) : rightB (recA mulA t fr tw sl).1 = true ∧ valQ (recA mulA t fr tw sl).1 = valQ tw + (valQ t - valQ fr) * valQ sl := by
  unfold recA at *
  by_cases h1 : (subA t fr).2 = 0
  · rw [if_neg (fun e => e h1)] at h ⊢
    by_cases h2 : (mulA (subA t fr).1 sl).2 = 0
    · rw [if_neg (fun e => e h2)] at h ⊢
      obtain ⟨_, _, _, v1⟩ := subA_ok h1
      obtain ⟨_, _, _, v2⟩ := mulA_ok h2
      obtain ⟨_, _, r3, v3⟩ := addA_ok h
      exact ⟨r3, by rw [v3, v2, v1]⟩
    · rw [if_pos h2] at h
      exact absurd h h2
  · rw [if_pos h1] at h
    exact absurd h h1
theorem app_right {K : List Kn} {S : List Rt} {t : Rt} (h : (appF K S t).2 = 0) : rightB t = true := by
  unfold appF at h
  by_cases hr : rightB t = true
  · exact hr
  · rw [if_neg hr] at h
    cases h
theorem line_piece {h : Rat → Rat} {K : List Kn} {S : List Rt} {t s : Rt} {x : Kn} (hl : LineOf h K S) (ht : rightB t = true) (hp : PieceOf (·.i) K S t x s) : h (valQ t) = valQ x.o + (valQ t - valQ x.i) * valQ s := by
  obtain ⟨x0, o0, s0, T, rfl, hT, hh⟩ := hl.line
  obtain ⟨k, k1, k2, k3, k4, k5⟩ := hp
  have hx := List.mem_of_getElem? k2
  have ho := (hl.outs x hx).2
  have hxr := hl.ris.1 x hx
  cases k with
  | zero =>
    have k2' : K[0]? = some x := k2
    have k3' : some s0 = some s := k3
    cases k3'
    have hlt := (cmp_pos hxr ht).1 (k5 x k2')
    have hfirst : ∀ y, (lnK K T)[0]? = some y → y.1 = valQ x.i := fun y hy => by
      obtain ⟨z, hz, e⟩ := lnK_of hy
      rw [k2'] at hz
      cases hz
      exact e
    rw [hh, hev_first _ _ _ _ _ (fun y hy => by rw [hfirst y hy]; exact Rat.le_refl)] at ho
    rw [hh, hev_first _ _ _ _ _ (fun y hy => by rw [hfirst y hy]; grind)]
    grind
  | succ k =>
    have k2' : K[k]? = some x := by simpa using k2
    have k3' : T[k]? = some s := by simpa using k3
    have hge : ¬ valQ t < valQ x.i := fun e => k4 (Nat.succ_pos k) ((cmp_pos hxr ht).2 e)
    have := hev_seg (lnK K T) x0 o0 (valQ s0) k (valQ t) (valQ x.i) (valQ s) (lnK_ris hl.ris.2 T) (lnK_get k2' k3') (by grind) (fun y hy => by
      obtain ⟨z, hz, e⟩ := lnK_of hy
      have hzr := hl.ris.1 z (List.mem_of_getElem? hz)
      have := (cmp_pos hzr ht).1 (k5 z hz)
      rw [e]
      grind)
    rw [hh, this, ← hh, ho]
theorem line_app {h : Rat → Rat} {K : List Kn} {S : List Rt} {t : Rt} (hl : LineOf h K S) (h1 : 1 ≤ K.length) (h0 : (appF K S t).2 = 0) : rightB (appF K S t).1 = true ∧ valQ (appF K S t).1 = h (valQ t) := by
  have ht := app_right h0
  have hS : S.length = K.length + 1 := by
    obtain ⟨x0, o0, s0, T, rfl, hT, _⟩ := hl.line
    rw [List.length_cons, hT]
  have hp := line_piece hl ht (piece_ix (·.i) K S t h1 hS)
  unfold appF at h0 ⊢
  rw [if_pos ht] at h0 ⊢
  obtain ⟨r, v⟩ := recA_ok h0
  exact ⟨r, by rw [v, hp]⟩
theorem low_zeroH : low 0 = (⟨0, 1⟩, 0) := by kernel_rfl
theorem zero_rightH : rightB ⟨0, 1⟩ = true := by decide +kernel
theorem val_zeroH : valQ ⟨0, 1⟩ = 0 := by decide +kernel
/-- At its knots a map tells their outs. -/
theorem line_knot {h : Rat → Rat} {K : List Kn} {S : List Rt} {y : Kn} (hl : LineOf h K S) (hy : y ∈ K) : appF K S y.i = (y.o, 0) := by
  have ht := hl.ris.1 y hy
  have h1 : 1 ≤ K.length := List.length_pos_of_mem hy
  have hS : S.length = K.length + 1 := by
    obtain ⟨x0, o0, s0, T, rfl, hT, _⟩ := hl.line
    rw [List.length_cons, hT]
  obtain ⟨j, hj, ej⟩ := List.getElem_of_mem hy
  have hyj : K[j]? = some y := by rw [List.getElem?_eq_getElem hj, ej]
  have hsj : S[j + 1]? = some (S[j + 1]'(by omega)) := List.getElem?_eq_getElem (by omega)
  have hp : PieceOf (·.i) K S y.i y (S[j + 1]'(by omega)) := by
    refine ⟨j + 1, by omega, by simpa using hyj, hsj, fun _ e => ?_, fun z hz => ?_⟩
    · rw [cmp_self] at e
      exact absurd e (by omega)
    · refine (cmp_pos (hl.ris.1 z (List.mem_of_getElem? hz)) ht).2 ?_
      obtain ⟨hj1, ez⟩ := List.getElem?_eq_some_iff.1 hz
      have := List.pairwise_iff_getElem.1 hl.ris.2 j (j + 1) hj hj1 (by omega)
      rw [ej, ez] at this
      exact this
  obtain ⟨e1, e2⟩ := piece_uniq (ris_mono hl.ris ht) (piece_ix (·.i) K S y.i h1 hS) hp
  have hs := hl.slp _ (List.mem_of_getElem? hsj)
  have ho := (hl.outs y hy).1
  unfold appF
  rw [if_pos ht, e1, e2]
  generalize S[j + 1]'(by omega) = s at hs
  unfold recA
  have a1 : subA y.i y.i = (⟨0, 1⟩, 0) := by rw [subA_right ht ht, show valQ y.i - valQ y.i = 0 by grind, low_zeroH]
  have a2 : mulA ⟨0, 1⟩ s = (⟨0, 1⟩, 0) := by rw [mulA_right zero_rightH hs, val_zeroH, Rat.zero_mul, low_zeroH]
  have a3 : addA y.o ⟨0, 1⟩ = (y.o, 0) := by rw [addA_right ho zero_rightH, val_zeroH, Rat.add_zero, low_right _ ho]
  rw [a1]
  simp [a2, a3]
end Go.Proofs.Ytjbkhbhobnlhcaa

/- New's map does what the given knots say (chapter 6). -/
namespace Go.Proofs.Ytjbkhbhobnlhcaa

theorem lastD_map {α β : Type} (f : α → β) : ∀ (V : List α) (v : α), (V.map f).getLastD (f v) = f (V.getLastD v)
  | [], v => rfl
  | x :: V, v => by rw [List.map_cons, List.getLastD_cons, List.getLastD_cons, lastD_map f V x]
theorem zip_back {α β : Type} : ∀ Q : List (α × β), (Q.map (·.1)).zip (Q.map (·.2)) = Q
  | [] => rfl
  | x :: Q => congrArg (x :: ·) (zip_back Q)
theorem lnK_zip (K : List Kn) (T : List Rt) : lnK K T = (K.map fun x => valQ x.i).zip (T.map valQ) := by
  unfold lnK
  rw [List.zip_map]
  rfl
theorem sl_vals {h : Rat → Rat} : ∀ (K : List Kn) (Q : List (Rat × Rat)), Q.map (·.1) = K.map (fun x => valQ x.i) → InsR K → slE K = 0 → (∀ x ∈ K, h (valQ x.i) = valQ x.o) →
    (∀ (k : Nat) (i s j u : Rat), Q[k]? = some (i, s) → Q[k + 1]? = some (j, u) → h j = h i + (j - i) * s) → (slL K).map valQ = Q.dropLast.map (·.2)
  | [], Q, hQ, _, _, _, _ => by
    obtain rfl : Q = [] := by simpa using hQ
    rfl
  | [a], Q, hQ, _, _, _, _ => by
    cases Q with
    | nil => cases hQ
    | cons q Q =>
      obtain rfl : Q = [] := by simpa using congrArg List.length hQ
      rfl
  | a :: b :: R, Q, hQ, hp, he, ho, hc => by
    obtain ⟨i, s, j, u, Q, rfl⟩ : ∃ i s j u Q', Q = (i, s) :: (j, u) :: Q' := by
      cases Q with
      | nil => cases hQ
      | cons q Q =>
        cases Q with
        | nil => simp at hQ
        | cons r Q => exact ⟨q.1, q.2, r.1, r.2, Q, rfl⟩
    simp only [List.map_cons, List.cons.injEq] at hQ
    obtain ⟨rfl, rfl, hQ⟩ := hQ
    obtain ⟨e1, e2⟩ := slE_two he
    have hp' := List.pairwise_cons.1 hp
    have hab := hp'.1 b (List.mem_cons_self ..)
    have hv := (slope_ok hab e1).2
    have h0 := hc 0 _ _ _ _ rfl rfl
    rw [ho b (by simp), ho a (by simp)] at h0
    have ih := sl_vals (b :: R) ((valQ b.i, u) :: Q) (by rw [List.map_cons, List.map_cons, hQ]) hp'.2 e2 (fun x hx => ho x (List.mem_cons_of_mem _ hx)) (fun k i s j u h1 h2 => hc (k + 1) i s j u h1 h2)
    show valQ (slopeA a b).1 :: (slL (b :: R)).map valQ = s :: ((((valQ b.i, u) :: Q)).dropLast.map (·.2))
    rw [ih]
    congr 1
    have h3 : (valQ (slopeA a b).1 - s) * (valQ b.i - valQ a.i) = 0 := by grind
    rcases Rat.mul_eq_zero.1 h3 with h4 | h4
    · grind
    · grind
/-- Knots that lie on a broken line whose bends are among their ins have its slopes. -/
theorem own_slopes {h : Rat → Rat} {K : List Kn} {q : Rat × Rat} {Q0 : List (Rat × Rat)} {e x0 o0 : Rat} (hQ : ((q :: Q0) ++ [(e, (Q0.map (·.2)).getLastD q.2)]).map (·.1) = K.map (fun x => valQ x.i)) (hr : RisQ (·.i) K) (he : slE K = 0)
    (ho : ∀ x ∈ K, rightB x.o = true ∧ h (valQ x.i) = valQ x.o) (hh : ∀ t, h t = hev x0 o0 q.2 ((q :: Q0) ++ [(e, (Q0.map (·.2)).getLastD q.2)]) t) : LineOf h K (slsK K) := by
  generalize hq : (q :: Q0) ++ [(e, (Q0.map (·.2)).getLastD q.2)] = Q at hQ hh
  have hlen : Q.length = K.length := by simpa using congrArg List.length hQ
  have hql : Q.length = Q0.length + 2 := by rw [← hq]; simp
  have hris : RisB Q := by
    have h1 : (Q.map (·.1)).Pairwise (· < ·) := by
      rw [hQ, List.pairwise_map]
      exact hr.2
    rw [List.pairwise_map] at h1
    exact h1
  have hv := sl_vals K Q hQ hr.2 he (fun x hx => (ho x hx).2) (fun k i s j u h1 h2 => by
    have hij : i < j := by
      obtain ⟨l1, g1⟩ := List.getElem?_eq_some_iff.1 h1
      obtain ⟨l2, g2⟩ := List.getElem?_eq_some_iff.1 h2
      have := List.pairwise_iff_getElem.1 hris k (k + 1) l1 l2 (by omega)
      rw [g1, g2] at this
      exact this
    rw [hh, hh]
    exact hev_seg Q x0 o0 q.2 k j i s hris h1 (by grind) (fun y hy => by
      rw [h2] at hy
      cases hy
      exact Rat.le_refl))
  rw [← hq, List.dropLast_concat, List.map_cons] at hv
  obtain ⟨v, V, hvV⟩ : ∃ v V, slL K = v :: V := by
    cases hs : slL K with
    | nil => rw [hs] at hv; cases hv
    | cons v V => exact ⟨v, V, rfl⟩
  have hslp : ∀ s ∈ slsK K, rightB s = true := sls_mem (slL_right K hr.2 he) (by decide +kernel)
  have e1 : slsK K = v :: (v :: V ++ [V.getLastD v]) := by
    unfold slsK
    rw [hvV, List.getLastD_cons]
    rfl
  rw [hvV, List.map_cons] at hv
  obtain ⟨hv0, hv1⟩ := List.cons.inj hv
  have e2 : lnK K (v :: V ++ [V.getLastD v]) = Q := by
    rw [lnK_zip, ← hQ, List.map_append, List.map_cons, List.map_cons, List.map_nil, ← lastD_map valQ V v, hv0, hv1]
    have : q.2 :: Q0.map (·.2) ++ [(Q0.map (·.2)).getLastD q.2] = Q.map (·.2) := by
      rw [← hq]
      simp
    rw [this]
    exact zip_back Q
  refine ⟨hr, hslp, ho, x0, o0, v, _, e1, ?_, fun t => ?_⟩
  · have := congrArg List.length e2
    have hVl : V.length = Q0.length := by simpa using congrArg List.length hv1
    simp
    omega
  · rw [e2, hv0]
    exact hh t
def ptV : List Rt → List Rat
  | [] => [0, 1]
  | b :: L => (valQ b - 1) :: ((b :: L).map valQ ++ [valQ ((b :: L).getLastD b) + 1])
theorem ptsA_vals {B : List Rt} (he : ∀ x ∈ ptsA B, x.2 = 0) : (ptsA B).map (fun x => valQ x.1) = ptV B := by
  cases B with
  | nil =>
    show [valQ ⟨0, 1⟩, valQ ⟨1, 1⟩] = _
    rw [val_zeroH, val_oneK]
    rfl
  | cons b L =>
    have e1 : (subA b ⟨1, 1⟩).2 = 0 := he _ (by unfold ptsA; exact List.mem_cons_self ..)
    have e2 : (addA ((b :: L).getLastD b) ⟨1, 1⟩).2 = 0 := he _ (by unfold ptsA; exact List.mem_cons_of_mem _ (List.mem_append_right _ (List.mem_singleton.2 rfl)))
    obtain ⟨_, _, _, s4⟩ := subA_ok e1
    obtain ⟨_, _, _, a4⟩ := addA_ok e2
    rw [val_oneK] at s4 a4
    show valQ (subA b ⟨1, 1⟩).1 :: (((b :: L).map (fun t => (t, (0 : Int))) ++ [addA ((b :: L).getLastD b) ⟨1, 1⟩]).map (fun x => valQ x.1)) = _
    rw [List.map_append, List.map_map, s4]
    show _ :: ((b :: L).map valQ ++ [valQ (addA ((b :: L).getLastD b) ⟨1, 1⟩).1]) = _
    rw [a4]
    rfl
/-- What New makes does what the given knots say: one broken line that rises. -/
theorem rises_line {L : List Kn} (hz : newE L = 0) : ∃ h : Rat → Rat, (∀ t u, t < u → h t < h u) ∧ (∀ x ∈ L, rightB x.o = true ∧ h (valQ x.i) = valQ x.o) ∧ LineOf h (newK L) (slsK (newK L)) := by
  have hnr := new_ris hz
  obtain ⟨h1, h2, h3, h4⟩ := newE_zero hz
  obtain ⟨hl1, _, hi, ho⟩ := chk_ok h1
  obtain ⟨a, L', rfl⟩ : ∃ a L', L = a :: L' := by
    cases L with
    | nil => exact absurd hl1 (by simp)
    | cons a L' => exact ⟨a, L', rfl⟩
  generalize hL : a :: L' = L at *
  obtain ⟨s0, T', hs, hsT⟩ : ∃ s0 T', slsK L = s0 :: s0 :: T' ∧ slL L ++ [(slL L).getLastD ⟨1, 1⟩] = s0 :: T' := by
    unfold slsK
    cases slL L with
    | nil => exact ⟨_, _, rfl, rfl⟩
    | cons v V => exact ⟨_, _, rfl, rfl⟩
  have hlen := sls_len L hl1
  have hright : ∀ s ∈ slsK L, rightB s = true := sls_mem (slL_right L hi.2 h2) (by decide +kernel)
  have hpos : ∀ s ∈ slsK L, 0 < valQ s := sls_mem (slL_pos L hi.2 ho.2 h2) (by rw [val_oneK]; decide +kernel)
  have hT' : (s0 :: T').length = L.length := by
    rw [hs] at hlen
    simpa using hlen
  obtain ⟨h, hh⟩ : ∃ h : Rat → Rat, ∀ t, h t = hev (valQ a.i) (valQ a.o) (valQ s0) (lnK L (s0 :: T')) t := ⟨_, fun _ => rfl⟩
  have hdrop : ∀ t, h t = hev (valQ a.i) (valQ a.o) (valQ s0) (lnK L' T') t := fun t => by
    rw [hh, ← hL, lnK_cons, hev_drop]
    intro y hy
    obtain ⟨⟨x, hx, e⟩, -⟩ := lnK_mem hy
    rw [← hL] at hi
    have := (List.pairwise_cons.1 hi.2).1 x hx
    rw [e]
    grind
  have houts : ∀ x ∈ L, rightB x.o = true ∧ h (valQ x.i) = valQ x.o := fun x hx => by
    refine ⟨ho.1 x hx, ?_⟩
    rw [hdrop]
    subst hL
    exact hev_outs _ L' a s0 T' hi.2 h2 hsT x hx
  have hbnt : ∀ t, h t = hev (valQ a.i) (valQ a.o) (valQ s0) ((bntK L (slsK L)).map pqK) t := fun t => by
    rw [hh, hs]
    exact hev_bnt t L s0 (s0 :: T') _ _ hT' hi.2
  have hbin := bnt_snd L (slsK L)
  have hhd : (slsK L).headD ⟨1, 1⟩ = s0 := by rw [hs]; rfl
  have hpar : LineOf h (prdK L (slsK L)) (prdS L (slsK L)) := by
    refine ⟨ris_sub (prd_sub L _) hi, ?_, fun x hx => houts x ((prd_sub L _).subset hx), valQ a.i, valQ a.o, s0, ?_⟩
    · intro s hs'
      unfold prdS at hs'
      rw [hhd] at hs'
      have hs0 : rightB s0 = true := hright s0 (by rw [hs]; exact List.mem_cons_self ..)
      rcases List.mem_cons.1 hs' with rfl | hs'
      · exact hs0
      · split at hs'
        · rw [List.mem_singleton] at hs'
          rw [hs']
          exact hs0
        · obtain ⟨x, hx, rfl⟩ := List.mem_map.1 hs'
          exact hright _ (hbin x hx).2
    · unfold prdS prdK
      rw [hhd]
      by_cases hb : bntK L (slsK L) = []
      · rw [if_pos hb, if_pos hb]
        refine ⟨_, rfl, by rw [← hL]; rfl, fun t => ?_⟩
        rw [hbnt, hb, ← hL]
        show hev _ _ _ [] t = hev _ _ _ [(valQ a.i, valQ s0)] t
        rw [hev_drop _ _ _ _ _ _ (fun _ h => by cases h)]
      · rw [if_neg hb, if_neg hb]
        refine ⟨_, rfl, by simp, fun t => ?_⟩
        rw [hbnt, lnK_zip, List.map_map, List.map_map]
        have e := zip_back ((bntK L (slsK L)).map pqK)
        rw [List.map_map, List.map_map] at e
        exact congrArg (fun R => hev _ _ _ R t) e.symm
  refine ⟨h, fun t u htu => ?_, houts, ?_⟩
  · rw [hh, hh]
    refine hev_rises _ _ _ _ _ _ (lnK_ris hi.2 _) (hpos s0 (by rw [hs]; exact List.mem_cons_self ..)) (fun y hy => ?_) htu
    obtain ⟨-, s, hs1, e⟩ := lnK_mem hy
    rw [e]
    exact hpos s (by rw [hs]; exact List.mem_cons_of_mem _ hs1)
  have herr := errK_all h3
  have hpl := (prd_len L hl1).2.1
  have hko : ∀ x ∈ newK L, rightB x.o = true ∧ h (valQ x.i) = valQ x.o := fun x hx => by
    obtain ⟨p, hp, rfl⟩ := List.mem_map.1 hx
    have := line_app hpar hpl (herr p hp).2
    exact ⟨this.1, this.2.symm⟩
  have hins : (newK L).map (fun x => valQ x.i) = (ptsA (bndK L)).map (fun x => valQ x.1) := by
    unfold newK kntK ownP
    rw [List.map_map]
    rfl
  rw [ptsA_vals (fun x hx => (herr x hx).1)] at hins
  cases hb : bntK L (slsK L) with
  | nil =>
    have hbd : bndK L = [] := by unfold bndK bndI; rw [hb]; rfl
    rw [hbd] at hins
    refine own_slopes (q := (0, valQ s0)) (Q0 := []) (e := 1) (x0 := valQ a.i) (o0 := valQ a.o) (by rw [hins]; rfl) hnr h4 hko (fun t => ?_)
    show h t = hev _ _ (valQ s0) [(0, valQ s0), (1, valQ s0)] t
    rw [hbnt, hb, hev_drop _ _ _ _ _ _ (fun y hy => by rw [List.mem_singleton.1 hy]; exact (by decide +kernel : (0 : Rat) ≤ 1)), hev_drop _ _ _ _ _ _ (fun _ h => by cases h)]
    rfl
  | cons p P =>
    have hbd : bndK L = p.1.i :: (P.map fun x => x.1.i) := by unfold bndK bndI; rw [hb]; rfl
    have hbr := bnd_ris hi
    rw [hbd] at hins hbr
    refine own_slopes (q := (valQ p.1.i - 1, valQ s0)) (Q0 := (p :: P).map pqK) (e := valQ ((p.1.i :: (P.map fun x => x.1.i)).getLastD p.1.i) + 1) (x0 := valQ a.i) (o0 := valQ a.o) ?_ hnr h4 hko (fun t => ?_)
    · rw [hins]
      show (valQ p.1.i - 1) :: (((p :: P).map pqK ++ [_]).map (Prod.fst (α := Rat) (β := Rat))) = (valQ p.1.i - 1) :: ((p.1.i :: (P.map fun x => x.1.i)).map valQ ++ [_])
      simp only [List.map_append, List.map_map, List.map_cons, List.map_nil, Function.comp_def, pqK, List.cons_append]
    · rw [hbnt, hb]
      show _ = hev _ _ (valQ s0) ((_, valQ s0) :: ((p :: P).map pqK ++ [_])) t
      have hmem : ∀ y ∈ (p :: P).map pqK, valQ p.1.i ≤ y.1 := fun y hy => by
        obtain ⟨z, hz, rfl⟩ := List.mem_map.1 hy
        rcases List.mem_cons.1 hz with rfl | hz
        · exact Rat.le_refl
        · have := (List.pairwise_cons.1 hbr.2).1 z.1.i (List.mem_map.2 ⟨z, hz, rfl⟩)
          show valQ p.1.i ≤ valQ z.1.i
          grind
      have hlast : valQ p.1.i ≤ valQ ((p.1.i :: (P.map fun x => x.1.i)).getLastD p.1.i) := by
        rw [List.getLastD_cons]
        rcases List.mem_cons.1 (lastD_mem p.1.i (P.map fun x => x.1.i)) with e | e
        · rw [e]; exact Rat.le_refl
        · have := (List.pairwise_cons.1 hbr.2).1 _ e
          grind
      rw [hev_drop, hev_end]
      intro y hy
      rcases List.mem_append.1 hy with hy | hy
      · have := hmem y hy
        show valQ p.1.i - 1 ≤ y.1
        grind
      · rw [List.mem_singleton.1 hy]
        show valQ p.1.i - 1 ≤ _ + 1
        grind
end Go.Proofs.Ytjbkhbhobnlhcaa

/- RetimeRises: what the walk wants to know of Apply (chapter 6). -/
namespace Go.Proofs.Ytjbkhbhobnlhcaa

theorem rises_facts {L : List Kn} (hz : newE L = 0) : (∀ x ∈ L, (appF (newK L) (slsK (newK L)) x.i).2 = 0 → (appF (newK L) (slsK (newK L)) x.i).1 = x.o) ∧
    (∀ y ∈ newK L, appF (newK L) (slsK (newK L)) y.i = (y.o, 0) ∧ rightB y.o = true) ∧
    ∀ t u : Rt, (appF (newK L) (slsK (newK L)) t).2 = 0 → (appF (newK L) (slsK (newK L)) u).2 = 0 → cmpI (appF (newK L) (slsK (newK L)) t).1 (appF (newK L) (slsK (newK L)) u).1 = cmpI t u := by
  obtain ⟨h, hm, ho, hl⟩ := rises_line hz
  have h1 : 1 ≤ (newK L).length := by
    unfold newK kntK ownP
    rw [List.length_map]
    cases bndK L <;> simp [ptsA]
  refine ⟨fun x hx h0 => ?_, fun y hy => ⟨line_knot hl hy, (hl.outs y hy).1⟩, fun t u h0 h2 => ?_⟩
  · obtain ⟨r, v⟩ := line_app hl h1 h0
    exact right_inj _ _ r (ho x hx).1 (by rw [v, (ho x hx).2])
  · obtain ⟨r1, v1⟩ := line_app hl h1 h0
    obtain ⟨r2, v2⟩ := line_app hl h1 h2
    rw [cmp_right r1 r2, cmp_right (app_right h0) (app_right h2), v1, v2]
    have e1 : h (valQ t) < h (valQ u) ↔ valQ t < valQ u := by
      refine ⟨fun e => ?_, hm _ _⟩
      by_cases hc : valQ t < valQ u
      · exact hc
      · by_cases he : valQ t = valQ u
        · rw [he] at e; grind
        · have := hm (valQ u) (valQ t) (by grind); grind
    have e2 : h (valQ u) < h (valQ t) ↔ valQ u < valQ t := by
      refine ⟨fun e => ?_, hm _ _⟩
      by_cases hc : valQ u < valQ t
      · exact hc
      · by_cases he : valQ t = valQ u
        · rw [he] at e; grind
        · have := hm (valQ t) (valQ u) (by grind); grind
    simp only [e1, e2]
end Go.Proofs.Ytjbkhbhobnlhcaa
