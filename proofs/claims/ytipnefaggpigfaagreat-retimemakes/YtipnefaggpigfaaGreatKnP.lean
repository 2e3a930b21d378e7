/- What New tells, as mathematics (chapter 6). -/
import Derived.Test.YtipnefaggpigfaaGreatKnL
import Derived.Test.YtipnefaggpigfaaGreatKnH
namespace Go.Proofs.YtipnefaggpigfaaGreat
open Go.RowKit Go.Shelf

/-- No two knots of a map turn back. -/
def MonoAt (g : Kn → Rt) (K : List Kn) (t : Rt) : Prop := ∀ (i j : Nat) (y z : Kn), i ≤ j → K[i]? = some y → K[j]? = some z → 0 < cmpI (g y) t → 0 < cmpI (g z) t
theorem piece_uniq {g : Kn → Rt} {K : List Kn} {S : List Rt} {t : Rt} {x x' : Kn} {s s' : Rt} (hm : MonoAt g K t) (h : PieceOf g K S t x s) (h' : PieceOf g K S t x' s') : x = x' ∧ s = s' := by
  obtain ⟨k, k1, k2, k3, k4, k5⟩ := h
  obtain ⟨m, m1, m2, m3, m4, m5⟩ := h'
  have no : ∀ {a b : Nat} {u : Kn}, b ≤ K.length → K[b - 1]? = some u → (0 < b → ¬ 0 < cmpI (g u) t) → (∀ y, K[a]? = some y → 0 < cmpI (g y) t) → ¬ a < b := fun {a b u} hb hu h0 hy hlt => by
    have ha : a < K.length := by omega
    exact h0 (by omega) (hm a (b - 1) _ _ (by omega) (List.getElem?_eq_getElem ha) hu (hy _ (List.getElem?_eq_getElem ha)))
  have e : k = m := by
    have h1 := no m1 m2 m4 k5
    have h2 := no k1 k2 k4 m5
    omega
  subst e
  rw [k2] at m2
  rw [k3] at m3
  cases m2
  cases m3
  exact ⟨rfl, rfl⟩
def pIx (g : Kn → Rt) (K : List Kn) (t : Rt) : Nat := K.findIdx fun y => decide (0 < cmpI (g y) t)
theorem piece_ix (g : Kn → Rt) (K : List Kn) (S : List Rt) (t : Rt) (h1 : 1 ≤ K.length) (hS : S.length = K.length + 1) : PieceOf g K S t ((K[pIx g K t - 1]?).getD ⟨⟨0, 0⟩, ⟨0, 0⟩⟩) ((S[pIx g K t]?).getD ⟨0, 0⟩) := by
  have hle : pIx g K t ≤ K.length := List.findIdx_le_length
  have e1 : K[pIx g K t - 1]? = some (K[pIx g K t - 1]'(by omega)) := List.getElem?_eq_getElem (by omega)
  have e2 : S[pIx g K t]? = some (S[pIx g K t]'(by omega)) := List.getElem?_eq_getElem (by omega)
  rw [e1, e2]
  refine ⟨pIx g K t, hle, e1, e2, fun h0 => ?_, fun y hy => ?_⟩
  · have h9 := List.not_of_lt_findIdx (p := fun y => decide (0 < cmpI (g y) t)) (xs := K) (i := pIx g K t - 1) (by unfold pIx at *; omega)
    simpa using h9
  · obtain ⟨hl, hy⟩ := List.getElem?_eq_some_iff.1 hy
    have h9 := List.findIdx_getElem (p := fun y => decide (0 < cmpI (g y) t)) (xs := K) (w := hl)
    have h8 : decide (0 < cmpI (g K[pIx g K t]) t) = true := h9
    rw [hy] at h8
    exact of_decide_eq_true h8
/-- Apply, Undo. -/
def appF (K : List Kn) (S : List Rt) (t : Rt) : Rt × Int := if rightB t = true then recA mulA t ((K[pIx (·.i) K t - 1]?).getD ⟨⟨0, 0⟩, ⟨0, 0⟩⟩).i ((K[pIx (·.i) K t - 1]?).getD ⟨⟨0, 0⟩, ⟨0, 0⟩⟩).o ((S[pIx (·.i) K t]?).getD ⟨0, 0⟩) else (⟨0, 0⟩, 12)
def undF (K : List Kn) (S : List Rt) (t : Rt) : Rt × Int := if rightB t = true then recA divA t ((K[pIx (·.o) K t - 1]?).getD ⟨⟨0, 0⟩, ⟨0, 0⟩⟩).o ((K[pIx (·.o) K t - 1]?).getD ⟨⟨0, 0⟩, ⟨0, 0⟩⟩).i ((S[pIx (·.o) K t]?).getD ⟨0, 0⟩) else (⟨0, 0⟩, 12)
/-- The ends rise. -/
def RisQ (g : Kn → Rt) (K : List Kn) : Prop := (∀ x ∈ K, rightB (g x) = true) ∧ K.Pairwise fun a b => valQ (g a) < valQ (g b)
theorem cmp_pos {a b : Rt} (ha : rightB a = true) (hb : rightB b = true) : 0 < cmpI a b ↔ valQ b < valQ a := by
  rw [cmp_right ha hb]
  by_cases h1 : valQ a < valQ b
  · rw [if_pos h1]
    constructor
    · intro h
      omega
    · intro h
      grind
  · rw [if_neg h1]
    by_cases h2 : valQ b < valQ a
    · rw [if_pos h2]
      exact ⟨fun _ => h2, fun _ => by omega⟩
    · rw [if_neg h2]
      constructor
      · intro h
        omega
      · intro h
        exact absurd h h2
theorem ris_mono {g : Kn → Rt} {K : List Kn} {t : Rt} (h : RisQ g K) (ht : rightB t = true) : MonoAt g K t := by
  intro i j y z hij hy hz hp
  rcases Nat.lt_or_eq_of_le hij with h1 | h1
  · have hy9 := h.1 y (List.mem_of_getElem? hy)
    have hz9 := h.1 z (List.mem_of_getElem? hz)
    rw [cmp_pos hy9 ht] at hp
    rw [cmp_pos hz9 ht]
    obtain ⟨li, rfl⟩ := List.getElem?_eq_some_iff.1 hy
    obtain ⟨lj, rfl⟩ := List.getElem?_eq_some_iff.1 hz
    have h9 := List.pairwise_iff_getElem.1 h.2 i j li lj h1
    grind
  · subst h1
    rw [hy] at hz
    cases hz
    exact hp
theorem ris_of (g : Kn → Rt) : ∀ L : List Kn, (∀ x ∈ L, rightB (g x) = true) → riseB g L = true → L.Pairwise fun a b => valQ (g a) < valQ (g b)
  | [], _, _ => List.Pairwise.nil
  | [_], _, _ => List.pairwise_singleton _ _
  | a :: b :: t, hr, hb => by
    have hb' : (decide (0 < cmpI (g b) (g a)) && riseB g (b :: t)) = true := hb
    rw [Bool.and_eq_true, decide_eq_true_eq] at hb'
    have ih := ris_of g (b :: t) (fun x hx => hr x (List.mem_cons_of_mem _ hx)) hb'.2
    have hab := (cmp_pos (hr b (by simp)) (hr a (by simp))).1 hb'.1
    refine List.Pairwise.cons (fun z hz => ?_) ih
    rcases List.mem_cons.1 hz with rfl | hz
    · exact hab
    · have := (List.pairwise_cons.1 ih).1 z hz
      grind
theorem bnt_sub : ∀ (K : List Kn) (S : List Rt), List.Sublist ((bntK K S).map (·.1)) K
  | [], S => by cases S <;> exact List.Sublist.refl _
  | k :: K, [] => List.nil_sublist _
  | k :: K, [_] => List.nil_sublist _
  | k :: K, a :: b :: S => by
    show List.Sublist ((if bentB a b = true then (k, b) :: bntK K (b :: S) else bntK K (b :: S)).map (·.1)) _
    split
    · exact (bnt_sub K (b :: S)).cons_cons k
    · exact (bnt_sub K (b :: S)).cons k
theorem prd_sub (K : List Kn) (S : List Rt) : List.Sublist (prdK K S) K := by
  unfold prdK
  split
  · exact List.take_sublist 1 K
  · exact bnt_sub K S
theorem bnt_snd : ∀ (K : List Kn) (S : List Rt), ∀ x ∈ bntK K S, x.1 ∈ K ∧ x.2 ∈ S
  | [], S, x, hx => by cases S <;> cases hx
  | k :: K, [], x, hx => by cases hx
  | k :: K, [_], x, hx => by cases hx
  | k :: K, a :: b :: S, x, hx => by
    have hx' : x ∈ (if bentB a b = true then (k, b) :: bntK K (b :: S) else bntK K (b :: S)) := hx
    split at hx'
    · rcases List.mem_cons.1 hx' with rfl | h
      · exact ⟨List.mem_cons_self .., List.mem_cons_of_mem _ (List.mem_cons_self ..)⟩
      · exact ⟨List.mem_cons_of_mem _ (bnt_snd K (b :: S) x h).1, List.mem_cons_of_mem _ (bnt_snd K (b :: S) x h).2⟩
    · exact ⟨List.mem_cons_of_mem _ (bnt_snd K (b :: S) x hx').1, List.mem_cons_of_mem _ (bnt_snd K (b :: S) x hx').2⟩
theorem sls_len (L : List Kn) (h : 1 ≤ L.length) : (slsK L).length = L.length + 1 := by
  unfold slsK
  rw [List.length_cons, List.length_append, slL_len]
  simp
  omega
theorem slL_in : ∀ L : List Kn, (∀ x ∈ L, KnIn x) → ∀ r ∈ slL L, RtIn r
  | [], _, r, hr => by cases hr
  | [_], _, r, hr => by cases hr
  | a :: b :: t, hL, r, hr => by
    have hr' : r ∈ (slopeA a b).1 :: slL (b :: t) := hr
    rcases List.mem_cons.1 hr' with rfl | h
    · unfold slopeA
      split
      · exact bad_inK
      · split
        · exact bad_inK
        · exact divA_inK _ _
    · exact slL_in (b :: t) (fun x hx => hL x (List.mem_cons_of_mem _ hx)) r h
theorem lastD_mem (x : Rt) (T : List Rt) : T.getLastD x ∈ x :: T := by
  induction T generalizing x with
  | nil => simp
  | cons y T ih =>
    rw [List.getLastD_cons]
    exact List.mem_cons_of_mem _ (ih y)
theorem one_inP : RtIn ⟨1, 1⟩ := ⟨⟨by simp, by simp⟩, ⟨by simp, by simp⟩⟩
theorem sls_in (L : List Kn) (hL : ∀ x ∈ L, KnIn x) : ∀ r ∈ slsK L, RtIn r := by
  have h := slL_in L hL
  have h1 : RtIn ((slL L).headD ⟨1, 1⟩) := by
    cases hh : slL L with
    | nil => exact one_inP
    | cons x T => exact h x (by rw [hh]; exact List.mem_cons_self ..)
  have h2 : RtIn ((slL L).getLastD ⟨1, 1⟩) := by
    cases hh : slL L with
    | nil => exact one_inP
    | cons x T =>
      rw [List.getLastD_cons]
      have h9 := lastD_mem x T
      exact h _ (by rw [hh]; exact h9)
  intro r hr
  unfold slsK at hr
  rcases List.mem_cons.1 hr with rfl | hr
  · exact h1
  · rcases List.mem_append.1 hr with hr | hr
    · exact h r hr
    · rw [List.mem_singleton] at hr
      rw [hr]
      exact h2
end Go.Proofs.YtipnefaggpigfaaGreat
