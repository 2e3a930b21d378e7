/- Several texts, one behind the other. -/
import Derived.Test.YtipnefaggpigfaaKnE
import Derived.Test.YtipnefaggpigfaaKnH
import Derived.Test.YtipnefaggpigfaaKnI
import Derived.Test.YtipnefaggpigfaaKnL
import Derived.Test.YtipnefaggpigfaaKnN
/- What New tells, as mathematics (chapter 6). -/
namespace Go.Proofs.Ytipnefaggpigfaa
open Go.RowKit Go.Shelf

/-- No two knots of a map turn back. -/
def MonoAt (g : Kn → Rt) (K : List Kn) (t : Rt) : Prop := ∀ (i j : Nat) (y z : Kn), i ≤ j → K[i]? = some y → K[j]? = some z → 0 < cmpI (g y) t → 0 < cmpI (g z) t
theorem piece_uniq {g : Kn → Rt} {K : List Kn} {S : List Rt} {t : Rt} {x x' : Kn} {s s' : Rt} (hm : MonoAt g K t) (h : PieceOf g K S t x s) (h' : PieceOf g K S t x' s') : x = x' ∧ s = s' := by
  obtain ⟨k, k1, k2, k3, k4, k5⟩ := h
  obtain ⟨m, m1, m2, m3, m4, m5⟩ := h'
  have no : ∀ {a b : Nat} {u : Kn}, b ≤ K.length → K[b - 1]? = some u → (0 < b → ¬ 0 < cmpI (g u) t) → (∀ y, K[a]? = some y → 0 < cmpI (g y) t) → ¬ a < b := fun {a b u} hb hu h0 hy hlt => by
    have ha : a < K.length := by omega
    exact h0 (by omega) (hm a (b - 1) _ _ (by omega) (List.getElem?_eq_getElem ha) hu (hy _ (List.getElem?_eq_getElem ha)))
  have e : k = m := by
    have h1 := no m1 m2 m4 k5
    have h2 := no k1 k2 k4 m5
    omega
  subst e
  rw [k2] at m2
  rw [k3] at m3
  cases m2
  cases m3
  exact ⟨rfl, rfl⟩
def pIx (g : Kn → Rt) (K : List Kn) (t : Rt) : Nat := K.findIdx fun y => decide (0 < cmpI (g y) t)
theorem piece_ix (g : Kn → Rt) (K : List Kn) (S : List Rt) (t : Rt) (h1 : 1 ≤ K.length) (hS : S.length = K.length + 1) : PieceOf g K S t ((K[pIx g K t - 1]?).getD ⟨⟨0, 0⟩, ⟨0, 0⟩⟩) ((S[pIx g K t]?).getD ⟨0, 0⟩) := by
  have hle : pIx g K t ≤ K.length := List.findIdx_le_length
  have e1 : K[pIx g K t - 1]? = some (K[pIx g K t - 1]'(by omega)) := List.getElem?_eq_getElem (by omega)
  have e2 : S[pIx g K t]? = some (S[pIx g K t]'(by omega)) := List.getElem?_eq_getElem (by omega)
  rw [e1, e2]
  refine ⟨pIx g K t, hle, e1, e2, fun h0 => ?_, fun y hy => ?_⟩
  · have h9 := List.not_of_lt_findIdx (p := fun y => decide (0 < cmpI (g y) t)) (xs := K) (i := pIx g K t - 1) (by unfold pIx at *; omega)
    simpa using h9
  · obtain ⟨hl, hy⟩ := List.getElem?_eq_some_iff.1 hy
    have h9 := List.findIdx_getElem (p := fun y => decide (0 < cmpI (g y) t)) (xs := K) (w := hl)
    have h8 : decide (0 < cmpI (g K[pIx g K t]) t) = true := h9
    rw [hy] at h8
    exact of_decide_eq_true h8
/-- Apply, Undo. -/
def appF (K : List Kn) (S : List Rt) (t : Rt) : Rt × Int := if rightB t = true then recA mulA t ((K[pIx (·.i) K t - 1]?).getD ⟨⟨0, 0⟩, ⟨0, 0⟩⟩).i ((K[pIx (·.i) K t - 1]?).getD ⟨⟨0, 0⟩, ⟨0, 0⟩⟩).o ((S[pIx (·.i) K t]?).getD ⟨0, 0⟩) else (⟨0, 0⟩, 12)
def undF (K : List Kn) (S : List Rt) (t : Rt) : Rt × Int := if rightB t = true then recA divA t ((K[pIx (·.o) K t - 1]?).getD ⟨⟨0, 0⟩, ⟨0, 0⟩⟩).o ((K[pIx (·.o) K t - 1]?).getD ⟨⟨0, 0⟩, ⟨0, 0⟩⟩).i ((S[pIx (·.o) K t]?).getD ⟨0, 0⟩) else (⟨0, 0⟩, 12)
/-- The ends rise. -/
def RisQ (g : Kn → Rt) (K : List Kn) : Prop := (∀ x ∈ K, rightB (g x) = true) ∧ K.Pairwise fun a b => valQ (g a) < valQ (g b)
theorem cmp_pos {a b : Rt} (ha : rightB a = true) (hb : rightB b = true) : 0 < cmpI a b ↔ valQ b < valQ a := by
  rw [cmp_right ha hb]
  by_cases h1 : valQ a < valQ b
  · rw [if_pos h1]
    constructor
    · intro h
      omega
    · intro h
      grind
  · rw [if_neg h1]
    by_cases h2 : valQ b < valQ a
    · rw [if_pos h2]
      exact ⟨fun _ => h2, fun _ => by omega⟩
    · rw [if_neg h2]
      constructor
      · intro h
        omega
      · intro h
        exact absurd h h2
theorem ris_mono {g : Kn → Rt} {K : List Kn} {t : Rt} (h : RisQ g K) (ht : rightB t = true) : MonoAt g K t := by
  intro i j y z hij hy hz hp
  rcases Nat.lt_or_eq_of_le hij with h1 | h1
  · have hy9 := h.1 y (List.mem_of_getElem? hy)
    have hz9 := h.1 z (List.mem_of_getElem? hz)
    rw [cmp_pos hy9 ht] at hp
    rw [cmp_pos hz9 ht]
    obtain ⟨li, rfl⟩ := List.getElem?_eq_some_iff.1 hy
    obtain ⟨lj, rfl⟩ := List.getElem?_eq_some_iff.1 hz
    have h9 := List.pairwise_iff_getElem.1 h.2 i j li lj h1
    grind
  · subst h1
    rw [hy] at hz
    cases hz
    exact hp
theorem ris_of (g : Kn → Rt) : ∀ L : List Kn, (∀ x ∈ L, rightB (g x) = true) → riseB g L = true → L.Pairwise fun a b => valQ (g a) < valQ (g b)
  | [], _, _ => List.Pairwise.nil
  | [_], _, _ => List.pairwise_singleton _ _
  | a :: b :: t, hr, hb => by
    have hb' : (decide (0 < cmpI (g b) (g a)) && riseB g (b :: t)) = true := hb
    rw [Bool.and_eq_true, decide_eq_true_eq] at hb'
    have ih := ris_of g (b :: t) (fun x hx => hr x (List.mem_cons_of_mem _ hx)) hb'.2
    have hab := (cmp_pos (hr b (by simp)) (hr a (by simp))).1 hb'.1
    refine List.Pairwise.cons (fun z hz => ?_) ih
    rcases List.mem_cons.1 hz with rfl | hz
    · exact hab
    · have := (List.pairwise_cons.1 ih).1 z hz
      grind
theorem bnt_sub : ∀ (K : List Kn) (S : List Rt), List.Sublist ((bntK K S).map (·.1)) K
  | [], S => by cases S <;> exact List.Sublist.refl _
  | k :: K, [] => List.nil_sublist _
  | k :: K, [_] => List.nil_sublist _
  | k :: K, a :: b :: S => by
    show List.Sublist ((if bentB a b = true then (k, b) :: bntK K (b :: S) else bntK K (b :: S)).map (·.1)) _
    split
    · exact (bnt_sub K (b :: S)).cons_cons k
    · exact (bnt_sub K (b :: S)).cons k
theorem prd_sub (K : List Kn) (S : List Rt) : List.Sublist (prdK K S) K := by
  unfold prdK
  split
  · exact List.take_sublist 1 K
  · exact bnt_sub K S
theorem bnt_snd : ∀ (K : List Kn) (S : List Rt), ∀ x ∈ bntK K S, x.1 ∈ K ∧ x.2 ∈ S
  | [], S, x, hx => by cases S <;> cases hx
  | k :: K, [], x, hx => by cases hx
  | k :: K, [_], x, hx => by cases hx
  | k :: K, a :: b :: S, x, hx => by
    have hx' : x ∈ (if bentB a b = true then (k, b) :: bntK K (b :: S) else bntK K (b :: S)) := hx
    split at hx'
    · rcases List.mem_cons.1 hx' with rfl | h
      · exact ⟨List.mem_cons_self .., List.mem_cons_of_mem _ (List.mem_cons_self ..)⟩
      · exact ⟨List.mem_cons_of_mem _ (bnt_snd K (b :: S) x h).1, List.mem_cons_of_mem _ (bnt_snd K (b :: S) x h).2⟩
    · exact ⟨List.mem_cons_of_mem _ (bnt_snd K (b :: S) x hx').1, List.mem_cons_of_mem _ (bnt_snd K (b :: S) x hx').2⟩
theorem sls_len (L : List Kn) (h : 1 ≤ L.length) : (slsK L).length = L.length + 1 := by
  unfold slsK
  rw [List.length_cons, List.length_append, slL_len]
  simp
  omega
theorem slL_in : ∀ L : List Kn, (∀ x ∈ L, KnIn x) → ∀ r ∈ slL L, RtIn r
  | [], _, r, hr => by cases hr
  | [_], _, r, hr => by cases hr
  | a :: b :: t, hL, r, hr => by
    have hr' : r ∈ (slopeA a b).1 :: slL (b :: t) := hr
    rcases List.mem_cons.1 hr' with rfl | h
    · unfold slopeA
      split
      · exact bad_inK
      · split
        · exact bad_inK
        · exact divA_inK _ _
    · exact slL_in (b :: t) (fun x hx => hL x (List.mem_cons_of_mem _ hx)) r h
theorem lastD_mem (x : Rt) (T : List Rt) : T.getLastD x ∈ x :: T := by
  induction T generalizing x with
  | nil => simp
  | cons y T ih =>
    rw [List.getLastD_cons]
    exact List.mem_cons_of_mem _ (ih y)
theorem one_inP : RtIn ⟨1, 1⟩ := ⟨⟨by simp, by simp⟩, ⟨by simp, by simp⟩⟩
theorem sls_in (L : List Kn) (hL : ∀ x ∈ L, KnIn x) : ∀ r ∈ slsK L, RtIn r := by
  have h := slL_in L hL
  have h1 : RtIn ((slL L).headD ⟨1, 1⟩) := by
    cases hh : slL L with
    | nil => exact one_inP
    | cons x T => exact h x (by rw [hh]; exact List.mem_cons_self ..)
  have h2 : RtIn ((slL L).getLastD ⟨1, 1⟩) := by
    cases hh : slL L with
    | nil => exact one_inP
    | cons x T =>
      rw [List.getLastD_cons]
      have h9 := lastD_mem x T
      exact h _ (by rw [hh]; exact h9)
  intro r hr
  unfold slsK at hr
  rcases List.mem_cons.1 hr with rfl | hr
  · exact h1
  · rcases List.mem_append.1 hr with hr | hr
    · exact h r hr
    · rw [List.mem_singleton] at hr
      rw [hr]
      exact h2
end Go.Proofs.Ytipnefaggpigfaa

/- A map that goes through knots: retime's New (chapter 6). -/
namespace Go.Proofs.Ytipnefaggpigfaa
open Go.RowKit Go.Shelf

theorem apply_fun (K : List Kn) (S : List Rt) (B : Nat) (t : Rt) (hK : ∀ x ∈ K, KnIn x) (hS : ∀ x ∈ S, RtIn x) (ht : RtIn t) (hKS : S.length = K.length + 1) (hl : K.length ≤ 1000) (h1K : 1 ≤ K.length) (hr : RisQ (·.i) K) (w : World) (hM : MapAt w B K S) :
    Calls Try.prog 16 #[.pointer (some ⟨B, 0, none⟩), .agg #[.int .i64 t.N, .int .i64 t.D]] w fun e w' => e = .returned (.tuple #[.agg #[.int .i64 (appF K S t).1.N, .int .i64 (appF K S t).1.D], .int .i64 (appF K S t).2]) ∧ Below w.heap.size w w' := by
  refine (apply_any6 K S B t hK hS ht hKS hl h1K w hM).mono ?_
  rintro e w' ⟨r, rfl, hr2, hb⟩
  have e9 : r = appF K S t := by
    unfold appF
    rcases hr2 with ⟨h1, h2⟩ | ⟨h1, x, s, h2, h3⟩
    · rw [if_neg (by rw [h1]; simp), h2]
    · rw [if_pos h1]
      obtain ⟨u1, u2⟩ := piece_uniq (ris_mono hr h1) h2 (piece_ix (·.i) K S t h1K hKS)
      rw [h3, ← u1, ← u2]
  rw [e9]
  exact ⟨rfl, hb⟩
theorem undo_fun (K : List Kn) (S : List Rt) (B : Nat) (t : Rt) (hK : ∀ x ∈ K, KnIn x) (hS : ∀ x ∈ S, RtIn x) (ht : RtIn t) (hKS : S.length = K.length + 1) (hl : K.length ≤ 1000) (h1K : 1 ≤ K.length) (hr : RisQ (·.o) K) (w : World) (hM : MapAt w B K S) :
    Calls Try.prog 17 #[.pointer (some ⟨B, 0, none⟩), .agg #[.int .i64 t.N, .int .i64 t.D]] w fun e w' => e = .returned (.tuple #[.agg #[.int .i64 (undF K S t).1.N, .int .i64 (undF K S t).1.D], .int .i64 (undF K S t).2]) ∧ Below w.heap.size w w' := by
  refine (undo_any6 K S B t hK hS ht hKS hl h1K w hM).mono ?_
  rintro e w' ⟨r, rfl, hr2, hb⟩
  have e9 : r = undF K S t := by
    unfold undF
    rcases hr2 with ⟨h1, h2⟩ | ⟨h1, x, s, h2, h3⟩
    · rw [if_neg (by rw [h1]; simp), h2]
    · rw [if_pos h1]
      obtain ⟨u1, u2⟩ := piece_uniq (ris_mono hr h1) h2 (piece_ix (·.o) K S t h1K hKS)
      rw [h3, ← u1, ← u2]
  rw [e9]
  exact ⟨rfl, hb⟩
def bndK (L : List Kn) : List Rt := bndI (bntK L (slsK L))
def ownP (L : List Kn) : List (Rt × Int) := ptsA (bndK L)
def newF (L : List Kn) : Rt → Rt × Int := appF (prdK L (slsK L)) (prdS L (slsK L))
/-- The map's own knots. -/
def newK (L : List Kn) : List Kn := kntK (newF L) (ownP L)
/-- Why there is no map. -/
def newE (L : List Kn) : Int := if ¬ chkK L = 0 then chkK L else if ¬ slE L = 0 then slE L else if ¬ errK (newF L) (ownP L) = 0 then errK (newF L) (ownP L) else slE (newK L)
theorem chk_ok {L : List Kn} (h : chkK L = 0) : 1 ≤ L.length ∧ L.length ≤ 64 ∧ RisQ (·.i) L ∧ RisQ (·.o) L := by
  unfold chkK at h
  split at h
  · cases h
  split at h
  · cases h
  split at h
  · cases h
  split at h
  · cases h
  split at h
  · cases h
  rename_i h1 h2 h3 h4 h5
  have h3' : (L.all fun x => rightB x.i && rightB x.o) = true := by simpa using h3
  have h4' : riseB (·.i) L = true := by simpa using h4
  have h5' : riseB (·.o) L = true := by simpa using h5
  have r1 : ∀ x ∈ L, rightB x.i = true := fun x hx => by
    have := List.all_eq_true.1 h3' x hx
    rw [Bool.and_eq_true] at this
    exact this.1
  have r2 : ∀ x ∈ L, rightB x.o = true := fun x hx => by
    have := List.all_eq_true.1 h3' x hx
    rw [Bool.and_eq_true] at this
    exact this.2
  exact ⟨by omega, by omega, ⟨r1, ris_of (·.i) L r1 h4'⟩, ⟨r2, ris_of (·.o) L r2 h5'⟩⟩
theorem ris_sub {g : Kn → Rt} {K L : List Kn} (h : List.Sublist K L) (hr : RisQ g L) : RisQ g K := ⟨fun x hx => hr.1 x (h.subset hx), hr.2.sublist h⟩
theorem prd_len (L : List Kn) (h1 : 1 ≤ L.length) : (prdS L (slsK L)).length = (prdK L (slsK L)).length + 1 ∧ 1 ≤ (prdK L (slsK L)).length ∧ (prdK L (slsK L)).length ≤ L.length := by
  have h9 := (prd_sub L (slsK L)).length_le
  unfold prdS prdK at *
  by_cases hb : bntK L (slsK L) = []
  · rw [if_pos hb] at h9 ⊢
    rw [if_pos hb]
    simp only [List.length_cons, List.length_nil, List.length_take] at *
    omega
  · rw [if_neg hb] at h9 ⊢
    rw [if_neg hb]
    have h8 := List.length_pos_iff.2 hb
    rw [List.length_map] at h9
    rw [List.length_cons, List.length_map, List.length_map]
    exact ⟨rfl, h8, h9⟩
theorem prd_in (L : List Kn) (hL : ∀ x ∈ L, KnIn x) : (∀ x ∈ prdK L (slsK L), KnIn x) ∧ ∀ x ∈ prdS L (slsK L), RtIn x := by
  refine ⟨fun x hx => hL x ((prd_sub L (slsK L)).subset hx), fun x hx => ?_⟩
  have hs := sls_in L hL
  have h0 : RtIn ((slsK L).headD ⟨1, 1⟩) := hs _ (by unfold slsK; exact List.mem_cons_self ..)
  unfold prdS at hx
  rcases List.mem_cons.1 hx with rfl | hx
  · exact h0
  · split at hx
    · rw [List.mem_singleton] at hx
      rw [hx]
      exact h0
    · obtain ⟨y, hy, rfl⟩ := List.mem_map.1 hx
      exact hs _ (bnt_snd _ _ y hy).2
theorem bnd_in (L : List Kn) (hL : ∀ x ∈ L, KnIn x) : ∀ x ∈ bndK L, RtIn x := fun x hx => by
  unfold bndK bndI at hx
  obtain ⟨y, hy, rfl⟩ := List.mem_map.1 hx
  exact (hL _ (bnt_snd _ _ y hy).1).1
theorem bnd_len (L : List Kn) : (bndK L).length ≤ L.length := by
  unfold bndK bndI
  have h := (bnt_sub L (slsK L)).length_le
  simpa using h
theorem pts_in (B : List Rt) (hB : ∀ x ∈ B, RtIn x) : (∀ x ∈ ptsA B, RtIn x.1) ∧ (ptsA B).length ≤ B.length + 2 ∧ 1 ≤ (ptsA B).length := by
  cases B with
  | nil =>
    refine ⟨fun x hx => ?_, by show 2 ≤ 0 + 2; omega, by show 1 ≤ 2; omega⟩
    rcases List.mem_cons.1 hx with rfl | hx
    · exact zero_in
    · rw [List.mem_singleton] at hx
      rw [hx]
      exact one_in
  | cons b L =>
    refine ⟨fun x hx => ?_, by simp [ptsA], by simp [ptsA]⟩
    unfold ptsA at hx
    rcases List.mem_cons.1 hx with rfl | hx
    · exact subA_inK _ _
    · rcases List.mem_append.1 hx with hx | hx
      · obtain ⟨y, hy, rfl⟩ := List.mem_map.1 hx
        exact hB y hy
      · rw [List.mem_singleton] at hx
        rw [hx]
        exact addA_inK _ _
theorem recA_in (by_ : Rt → Rt → Rt × Int) (t fr tw sl : Rt) : RtIn (recA by_ t fr tw sl).1 := by
  unfold recA
  split
  · exact bad_inK
  · split
    · exact bad_inK
    · exact addA_inK _ _
theorem appF_in (K : List Kn) (S : List Rt) (t : Rt) : RtIn (appF K S t).1 := by
  unfold appF
  split
  · exact recA_in _ _ _ _ _
  · exact bad_inK
theorem undF_in (K : List Kn) (S : List Rt) (t : Rt) : RtIn (undF K S t).1 := by
  unfold undF
  split
  · exact recA_in _ _ _ _ _
  · exact bad_inK
theorem new_in (L : List Kn) (hL : ∀ x ∈ L, KnIn x) : (∀ x ∈ newK L, KnIn x) ∧ (newK L).length = (ownP L).length := by
  refine ⟨fun x hx => ?_, by unfold newK kntK; exact List.length_map _⟩
  unfold newK kntK at hx
  obtain ⟨y, hy, rfl⟩ := List.mem_map.1 hx
  exact ⟨(pts_in _ (bnd_in L hL)).1 y hy, appF_in _ _ _⟩
end Go.Proofs.Ytipnefaggpigfaa
