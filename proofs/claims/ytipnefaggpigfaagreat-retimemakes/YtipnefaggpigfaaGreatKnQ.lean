/- A map that goes through knots: retime's New (chapter 6). -/
import Derived.Test.YtipnefaggpigfaaGreatKnP
import Derived.Test.YtipnefaggpigfaaGreatKnN
import Derived.Test.YtipnefaggpigfaaGreatKnI
import Derived.Test.YtipnefaggpigfaaGreatKnE
namespace Go.Proofs.YtipnefaggpigfaaGreat
open Go.RowKit Go.Shelf

theorem apply_fun (K : List Kn) (S : List Rt) (B : Nat) (t : Rt) (hK : ∀ x ∈ K, KnIn x) (hS : ∀ x ∈ S, RtIn x) (ht : RtIn t) (hKS : S.length = K.length + 1) (hl : K.length ≤ 1000) (h1K : 1 ≤ K.length) (hr : RisQ (·.i) K) (w : World) (hM : MapAt w B K S) :
    Calls Tryz.prog 14 #[.pointer (some ⟨B, 0, none⟩), .agg #[.int .i64 t.N, .int .i64 t.D]] w fun e w' => e = .returned (.tuple #[.agg #[.int .i64 (appF K S t).1.N, .int .i64 (appF K S t).1.D], .int .i64 (appF K S t).2]) ∧ Below w.heap.size w w' := by
  refine (apply_any6 K S B t hK hS ht hKS hl h1K w hM).mono ?_
  rintro e w' ⟨r, rfl, hr2, hb⟩
  have e9 : r = appF K S t := by
    unfold appF
    rcases hr2 with ⟨h1, h2⟩ | ⟨h1, x, s, h2, h3⟩
    · rw [if_neg (by rw [h1]; simp), h2]
    · rw [if_pos h1]
      obtain ⟨u1, u2⟩ := piece_uniq (ris_mono hr h1) h2 (piece_ix (·.i) K S t h1K hKS)
      rw [h3, ← u1, ← u2]
  rw [e9]
  exact ⟨rfl, hb⟩
theorem undo_fun (K : List Kn) (S : List Rt) (B : Nat) (t : Rt) (hK : ∀ x ∈ K, KnIn x) (hS : ∀ x ∈ S, RtIn x) (ht : RtIn t) (hKS : S.length = K.length + 1) (hl : K.length ≤ 1000) (h1K : 1 ≤ K.length) (hr : RisQ (·.o) K) (w : World) (hM : MapAt w B K S) :
    Calls Tryz.prog 15 #[.pointer (some ⟨B, 0, none⟩), .agg #[.int .i64 t.N, .int .i64 t.D]] w fun e w' => e = .returned (.tuple #[.agg #[.int .i64 (undF K S t).1.N, .int .i64 (undF K S t).1.D], .int .i64 (undF K S t).2]) ∧ Below w.heap.size w w' := by
  refine (undo_any6 K S B t hK hS ht hKS hl h1K w hM).mono ?_
  rintro e w' ⟨r, rfl, hr2, hb⟩
  have e9 : r = undF K S t := by
    unfold undF
    rcases hr2 with ⟨h1, h2⟩ | ⟨h1, x, s, h2, h3⟩
    · rw [if_neg (by rw [h1]; simp), h2]
    · rw [if_pos h1]
      obtain ⟨u1, u2⟩ := piece_uniq (ris_mono hr h1) h2 (piece_ix (·.o) K S t h1K hKS)
      rw [h3, ← u1, ← u2]
  rw [e9]
  exact ⟨rfl, hb⟩
def bndK (L : List Kn) : List Rt := bndI (bntK L (slsK L))
def ownP (L : List Kn) : List (Rt × Int) := ptsA (bndK L)
def newF (L : List Kn) : Rt → Rt × Int := appF (prdK L (slsK L)) (prdS L (slsK L))
/-- The map's own knots. -/
def newK (L : List Kn) : List Kn := kntK (newF L) (ownP L)
/-- Why there is no map. -/
def newE (L : List Kn) : Int := if ¬ chkK L = 0 then chkK L else if ¬ slE L = 0 then slE L else if ¬ errK (newF L) (ownP L) = 0 then errK (newF L) (ownP L) else slE (newK L)
theorem chk_ok {L : List Kn} (h : chkK L = 0) : 1 ≤ L.length ∧ L.length ≤ 64 ∧ RisQ (·.i) L ∧ RisQ (·.o) L := by
  unfold chkK at h
  split at h
  · cases h
  split at h
  · cases h
  split at h
  · cases h
  split at h
  · cases h
  split at h
  · cases h
  rename_i h1 h2 h3 h4 h5
  have h3' : (L.all fun x => rightB x.i && rightB x.o) = true := by simpa using h3
  have h4' : riseB (·.i) L = true := by simpa using h4
  have h5' : riseB (·.o) L = true := by simpa using h5
  have r1 : ∀ x ∈ L, rightB x.i = true := fun x hx => by
    have := List.all_eq_true.1 h3' x hx
    rw [Bool.and_eq_true] at this
    exact this.1
  have r2 : ∀ x ∈ L, rightB x.o = true := fun x hx => by
    have := List.all_eq_true.1 h3' x hx
    rw [Bool.and_eq_true] at this
    exact this.2
  exact ⟨by omega, by omega, ⟨r1, ris_of (·.i) L r1 h4'⟩, ⟨r2, ris_of (·.o) L r2 h5'⟩⟩
theorem ris_sub {g : Kn → Rt} {K L : List Kn} (h : List.Sublist K L) (hr : RisQ g L) : RisQ g K := ⟨fun x hx => hr.1 x (h.subset hx), hr.2.sublist h⟩
theorem prd_len (L : List Kn) (h1 : 1 ≤ L.length) : (prdS L (slsK L)).length = (prdK L (slsK L)).length + 1 ∧ 1 ≤ (prdK L (slsK L)).length ∧ (prdK L (slsK L)).length ≤ L.length := by
  have h9 := (prd_sub L (slsK L)).length_le
  unfold prdS prdK at *
  by_cases hb : bntK L (slsK L) = []
  · rw [if_pos hb] at h9 ⊢
    rw [if_pos hb]
    simp only [List.length_cons, List.length_nil, List.length_take] at *
    omega
  · rw [if_neg hb] at h9 ⊢
    rw [if_neg hb]
    have h8 := List.length_pos_iff.2 hb
    rw [List.length_map] at h9
    rw [List.length_cons, List.length_map, List.length_map]
    exact ⟨rfl, h8, h9⟩
theorem prd_in (L : List Kn) (hL : ∀ x ∈ L, KnIn x) : (∀ x ∈ prdK L (slsK L), KnIn x) ∧ ∀ x ∈ prdS L (slsK L), RtIn x := by
  refine ⟨fun x hx => hL x ((prd_sub L (slsK L)).subset hx), fun x hx => ?_⟩
  have hs := sls_in L hL
  have h0 : RtIn ((slsK L).headD ⟨1, 1⟩) := hs _ (by unfold slsK; exact List.mem_cons_self ..)
  unfold prdS at hx
  rcases List.mem_cons.1 hx with rfl | hx
  · exact h0
  · split at hx
    · rw [List.mem_singleton] at hx
      rw [hx]
      exact h0
    · obtain ⟨y, hy, rfl⟩ := List.mem_map.1 hx
      exact hs _ (bnt_snd _ _ y hy).2
theorem bnd_in (L : List Kn) (hL : ∀ x ∈ L, KnIn x) : ∀ x ∈ bndK L, RtIn x := fun x hx => by
  unfold bndK bndI at hx
  obtain ⟨y, hy, rfl⟩ := List.mem_map.1 hx
  exact (hL _ (bnt_snd _ _ y hy).1).1
theorem bnd_len (L : List Kn) : (bndK L).length ≤ L.length := by
  unfold bndK bndI
  have h := (bnt_sub L (slsK L)).length_le
  simpa using h
theorem pts_in (B : List Rt) (hB : ∀ x ∈ B, RtIn x) : (∀ x ∈ ptsA B, RtIn x.1) ∧ (ptsA B).length ≤ B.length + 2 ∧ 1 ≤ (ptsA B).length := by
  cases B with
  | nil =>
    refine ⟨fun x hx => ?_, by show 2 ≤ 0 + 2; omega, by show 1 ≤ 2; omega⟩
    rcases List.mem_cons.1 hx with rfl | hx
    · exact zero_in
    · rw [List.mem_singleton] at hx
      rw [hx]
      exact one_in
  | cons b L =>
    refine ⟨fun x hx => ?_, by simp [ptsA], by simp [ptsA]⟩
    unfold ptsA at hx
    rcases List.mem_cons.1 hx with rfl | hx
    · exact subA_inK _ _
    · rcases List.mem_append.1 hx with hx | hx
      · obtain ⟨y, hy, rfl⟩ := List.mem_map.1 hx
        exact hB y hy
      · rw [List.mem_singleton] at hx
        rw [hx]
        exact addA_inK _ _
theorem recA_in (by_ : Rt → Rt → Rt × Int) (t fr tw sl : Rt) : RtIn (recA by_ t fr tw sl).1 := by
  unfold recA
  split
  · exact bad_inK
  · split
    · exact bad_inK
    · exact addA_inK _ _
theorem appF_in (K : List Kn) (S : List Rt) (t : Rt) : RtIn (appF K S t).1 := by
  unfold appF
  split
  · exact recA_in _ _ _ _ _
  · exact bad_inK
theorem undF_in (K : List Kn) (S : List Rt) (t : Rt) : RtIn (undF K S t).1 := by
  unfold undF
  split
  · exact recA_in _ _ _ _ _
  · exact bad_inK
theorem new_in (L : List Kn) (hL : ∀ x ∈ L, KnIn x) : (∀ x ∈ newK L, KnIn x) ∧ (newK L).length = (ownP L).length := by
  refine ⟨fun x hx => ?_, by unfold newK kntK; exact List.length_map _⟩
  unfold newK kntK at hx
  obtain ⟨y, hy, rfl⟩ := List.mem_map.1 hx
  exact ⟨(pts_in _ (bnd_in L hL)).1 y hy, appF_in _ _ _⟩
end Go.Proofs.YtipnefaggpigfaaGreat
