/- Several texts, one behind the other. -/
import Derived.Deep.RegionHeld3
import Derived.Deep.CutBlock
import Derived.Deep.RegionLaw
import Derived.Test.YtipnefaggpigfaaGB
import Derived.Test.YtipnefaggpigfaaGF
import Derived.Test.YtipnefaggpigfaaKnH
/- What New reckons, step by step, as the reference does it (chapter 6). -/
namespace Go.Proofs.Ytipnefaggpigfaa

theorem bnt_le (K : List Kn) (S : List Rt) : (bntK K S).length ≤ K.length := by
  have := (bnt_sub K S).length_le
  rwa [List.length_map] at this
theorem bnt_all : ∀ (K : List Kn) (x : Rt) (ys : List Rt) (P : List (Kn × Rt)), ys.length = K.length → bntK K (x :: ys) = P → P.length = K.length → P.map (·.2) = ys
  | [], x, ys, P, hl, hb, _ => by
    obtain rfl : ys = [] := List.length_eq_zero_iff.1 hl
    rw [← hb]
    rfl
  | k :: K, x, [], P, hl, _, _ => by cases hl
  | k :: K, x, y :: ys, P, hl, hb, hP => by
    have hb' : (if bentB x y = true then (k, y) :: bntK K (y :: ys) else bntK K (y :: ys)) = P := hb
    by_cases h : bentB x y = true
    · rw [if_pos h] at hb'
      rw [← hb'] at hP ⊢
      rw [List.map_cons, bnt_all K y ys _ (by simpa using hl) rfl (by simpa using hP)]
    · rw [if_neg h] at hb'
      have := bnt_le K (y :: ys)
      rw [hb', hP, List.length_cons] at this
      omega
theorem bnt_last (b : Kn) : ∀ (K : List Kn) (v : Rt) (V : List Rt), V.length = K.length → bntK (K ++ [b]) (v :: (V ++ [V.getLastD v])) = bntK K (v :: V)
  | [], v, V, h => by
    obtain rfl : V = [] := List.length_eq_zero_iff.1 h
    show (if bentB v v = true then _ else _) = _
    rw [if_neg (by simp [bentB])]
    rfl
  | k :: K, v, [], h => by cases h
  | k :: K, v, y :: V, h => by
    have ih := bnt_last b K y V (by simpa using h)
    show (if bentB v y = true then (k, y) :: bntK (K ++ [b]) (y :: (V ++ [(y :: V).getLastD v])) else bntK (K ++ [b]) (y :: (V ++ [(y :: V).getLastD v]))) = if bentB v y = true then (k, y) :: bntK K (y :: V) else bntK K (y :: V)
    rw [List.getLastD_cons, ih]
/-- The slopes between a map's own knots. -/
theorem own_sl {L : List Kn} (hz : newE L = 0) : slL (newK L) = (slsK L).headD ⟨1, 1⟩ :: (bntK L (slsK L)).map (·.2) := by
  obtain ⟨h, hm, hl, hk⟩ := rises_line2 hz
  obtain ⟨hbnt, hhd⟩ := bnt_canon hl hk
  have hlen : (newK L).length = (bntK L (slsK L)).length + 2 := by
    unfold newK kntK ownP
    rw [List.length_map]
    unfold bndK bndI
    cases bntK L (slsK L) <;> simp [ptsA]
  have hvl := slL_len (newK L)
  rw [hbnt, hhd]
  rw [hbnt] at hlen
  generalize newK L = K at *
  obtain ⟨a, K1, rfl⟩ : ∃ a K1, K = a :: K1 := by
    cases K with
    | nil => simp at hlen
    | cons a K1 => exact ⟨a, K1, rfl⟩
  obtain ⟨K2, b, rfl⟩ : ∃ K2 b, K1 = K2 ++ [b] := by
    have hne : K1 ≠ [] := by
      rintro rfl
      simp at hlen
    exact ⟨K1.dropLast, K1.getLast hne, (List.dropLast_concat_getLast hne).symm⟩
  obtain ⟨v, V, hV⟩ : ∃ v V, slL (a :: (K2 ++ [b])) = v :: V := by
    cases e : slL (a :: (K2 ++ [b])) with
    | nil => rw [e] at hvl; simp at hvl
    | cons v V => exact ⟨v, V, rfl⟩
  have hs : slsK (a :: (K2 ++ [b])) = v :: v :: (V ++ [V.getLastD v]) := by
    unfold slsK
    rw [hV, List.getLastD_cons]
    rfl
  have hVl : V.length = K2.length := by
    rw [hV] at hvl
    simp at hvl
    exact hvl
  rw [hV]
  have e1 : bntK (a :: (K2 ++ [b])) (slsK (a :: (K2 ++ [b]))) = bntK K2 (v :: V) := by
    rw [hs]
    show (if bentB v v = true then _ else _) = _
    rw [if_neg (by simp [bentB])]
    exact bnt_last b K2 v V hVl
  rw [e1] at hlen ⊢
  rw [hs]
  show v :: V = v :: _
  rw [bnt_all K2 v V _ hVl rfl (by simp at hlen; omega)]
theorem last_G {α : Type} : ∀ (P : List α) (p : α), (p :: P)[P.length]? = some (P.getLastD p)
  | [], _ => rfl
  | x :: T, p => by
    rw [List.getLastD_cons]
    exact last_G T x
theorem newF_nil {a : Kn} {L : List Kn} (hb : bntK (a :: L) (slsK (a :: L)) = []) {t : Rt} (ht : rightB t = true) : newF (a :: L) t = recA mulA t a.i a.o ((slsK (a :: L)).headD ⟨1, 1⟩) := by
  unfold newF prdK prdS
  rw [if_pos hb, if_pos hb]
  generalize (slsK (a :: L)).headD ⟨1, 1⟩ = s
  show appF [a] [s, s] t = _
  unfold appF
  rw [if_pos ht]
  have hx : pIx (·.i) [a] t = 0 ∨ pIx (·.i) [a] t = 1 := by
    have : pIx (·.i) [a] t ≤ 1 := List.findIdx_le_length
    omega
  rcases hx with e | e <;> rw [e] <;> rfl
theorem newF_first {L : List Kn} {p : Kn × Rt} {P : List (Kn × Rt)} (hb : bntK L (slsK L) = p :: P) {t : Rt} (ht : rightB t = true) (hp : 0 < cmpI p.1.i t) : newF L t = recA mulA t p.1.i p.1.o ((slsK L).headD ⟨1, 1⟩) := by
  unfold newF prdK prdS
  rw [hb, if_neg (by simp), if_neg (by simp)]
  unfold appF
  rw [if_pos ht]
  have hx : pIx (·.i) ((p :: P).map (·.1)) t = 0 := by
    unfold pIx
    rw [List.map_cons, List.findIdx_cons, decide_eq_true hp]
    rfl
  rw [hx]
  rfl
theorem newF_last {L : List Kn} {p : Kn × Rt} {P : List (Kn × Rt)} (hb : bntK L (slsK L) = p :: P) {t : Rt} (ht : rightB t = true) (hp : ∀ x ∈ p :: P, ¬ 0 < cmpI x.1.i t) : newF L t = recA mulA t (P.getLastD p).1.i (P.getLastD p).1.o (P.getLastD p).2 := by
  unfold newF prdK prdS
  rw [hb, if_neg (by simp), if_neg (by simp)]
  unfold appF
  rw [if_pos ht]
  have hx : pIx (·.i) ((p :: P).map (·.1)) t = P.length + 1 := by
    unfold pIx
    rw [List.findIdx_eq_length_of_false]
    · simp
    · intro y hy
      obtain ⟨x, hx, rfl⟩ := List.mem_map.1 hy
      exact decide_eq_false (hp x hx)
  rw [hx]
  have e1 : ((p :: P).map (·.1))[P.length + 1 - 1]? = some (P.getLastD p).1 := by
    rw [Nat.add_sub_cancel, List.getElem?_map]
    rw [last_G]
    rfl
  have e2 : ((slsK L).headD ⟨1, 1⟩ :: (p :: P).map (·.2))[P.length + 1]? = some (P.getLastD p).2 := by
    rw [List.getElem?_cons_succ, List.getElem?_map]
    rw [last_G]
    rfl
  rw [e1, e2]
  rfl
/-- New of knots without a bend. -/
theorem new_nil {a : Kn} {L : List Kn} (hc : chkK (a :: L) = 0) (hs : slE (a :: L) = 0) (hb : bntK (a :: L) (slsK (a :: L)) = []) {r0 r1 : Rt × Int} (h0 : recA mulA ⟨0, 1⟩ a.i a.o ((slsK (a :: L)).headD ⟨1, 1⟩) = r0) (h1 : recA mulA ⟨1, 1⟩ a.i a.o ((slsK (a :: L)).headD ⟨1, 1⟩) = r1) :
    newE (a :: L) = (if ¬ r0.2 = 0 then r0.2 else if ¬ r1.2 = 0 then r1.2 else slE [⟨⟨0, 1⟩, r0.1⟩, ⟨⟨1, 1⟩, r1.1⟩]) ∧ newK (a :: L) = [⟨⟨0, 1⟩, r0.1⟩, ⟨⟨1, 1⟩, r1.1⟩] := by
  have e0 := newF_nil hb (t := ⟨0, 1⟩) (by decide +kernel)
  have e1 := newF_nil hb (t := ⟨1, 1⟩) (by decide +kernel)
  rw [h0] at e0
  rw [h1] at e1
  have hp : ownP (a :: L) = [(⟨0, 1⟩, 0), (⟨1, 1⟩, 0)] := by
    unfold ownP bndK bndI
    rw [hb]
    rfl
  have hk : newK (a :: L) = [⟨⟨0, 1⟩, r0.1⟩, ⟨⟨1, 1⟩, r1.1⟩] := by
    unfold newK kntK
    rw [hp, List.map_cons, List.map_cons, List.map_nil, e0, e1]
  refine ⟨?_, hk⟩
  unfold newE
  rw [if_neg (fun e => e hc), if_neg (fun e => e hs), hk, hp]
  have he : errK (newF (a :: L)) [(⟨0, 1⟩, 0), (⟨1, 1⟩, 0)] = if ¬ r0.2 = 0 then r0.2 else if ¬ r1.2 = 0 then r1.2 else 0 := by
    show (if ¬ (0 : Int) = 0 then _ else if ¬ (newF (a :: L) ⟨0, 1⟩).2 = 0 then (newF (a :: L) ⟨0, 1⟩).2 else if ¬ (0 : Int) = 0 then _ else if ¬ (newF (a :: L) ⟨1, 1⟩).2 = 0 then (newF (a :: L) ⟨1, 1⟩).2 else 0) = _
    rw [e0, e1]
    simp
  rw [he]
  by_cases h2 : r0.2 = 0
  · by_cases h3 : r1.2 = 0
    · simp [h2, h3]
    · simp [h2, h3]
  · simp [h2]
/-- New of knots with bends. -/
theorem new_cons {L : List Kn} {p : Kn × Rt} {P : List (Kn × Rt)} (hc : chkK L = 0) (hs : slE L = 0) (hb : bntK L (slsK L) = p :: P) {t0 t1 r0 r1 : Rt × Int} (h0 : subA p.1.i ⟨1, 1⟩ = t0) (h1 : recA mulA t0.1 p.1.i p.1.o ((slsK L).headD ⟨1, 1⟩) = r0)
    (h2 : addA (P.getLastD p).1.i ⟨1, 1⟩ = t1) (h3 : recA mulA t1.1 (P.getLastD p).1.i (P.getLastD p).1.o (P.getLastD p).2 = r1) :
    newE L = (if ¬ t0.2 = 0 then t0.2 else if ¬ r0.2 = 0 then r0.2 else if ¬ t1.2 = 0 then t1.2 else if ¬ r1.2 = 0 then r1.2 else slE (⟨t0.1, r0.1⟩ :: ((p :: P).map (·.1) ++ [⟨t1.1, r1.1⟩]))) ∧ (t0.2 = 0 → t1.2 = 0 → newK L = ⟨t0.1, r0.1⟩ :: ((p :: P).map (·.1) ++ [⟨t1.1, r1.1⟩])) := by
  obtain ⟨hl1, _, hi, ho⟩ := chk_ok hc
  obtain ⟨h, hm, hl⟩ := given_line hc hs
  have hpar := pared_line hl1 hl
  have hprd : prdK L (slsK L) = (p :: P).map (·.1) := by
    unfold prdK
    rw [hb, if_neg (by simp)]
  have hsub := bnt_sub L (slsK L)
  rw [hb] at hsub
  have hbr : RisQ (·.i) ((p :: P).map (·.1)) := ris_sub hsub hi
  have hbend : ∀ x ∈ p :: P, newF L x.1.i = (x.1.o, 0) := fun x hx => by
    unfold newF
    exact line_knot hpar (by rw [hprd]; exact List.mem_map.2 ⟨x, hx, rfl⟩)
  have hright : ∀ x ∈ p :: P, rightB x.1.i = true := fun x hx => hbr.1 x.1 (List.mem_map.2 ⟨x, hx, rfl⟩)
  have hlm : P.getLastD p ∈ p :: P := List.mem_of_getElem? (last_G P p)
  have f0 : t0.2 = 0 → newF L t0.1 = r0 := fun e => by
    rw [← h0] at e ⊢
    obtain ⟨_, _, s3, s4⟩ := subA_ok e
    rw [newF_first hb s3 ((cmp_pos (hright p (List.mem_cons_self ..)) s3).2 (by rw [s4, val_oneK]; grind)), h0, h1]
  have hple : ∀ x ∈ p :: P, valQ x.1.i ≤ valQ (P.getLastD p).1.i := fun x hx => by
    have hpw : ((p :: P)).Pairwise fun a b => valQ a.1.i < valQ b.1.i := by
      have := hbr.2
      rw [List.pairwise_map] at this
      exact this
    have hg := last_G P p
    obtain ⟨j, hj, e⟩ := List.getElem_of_mem hx
    obtain ⟨hg1, hg2⟩ := List.getElem?_eq_some_iff.1 hg
    by_cases hjl : j = P.length
    · subst hjl
      rw [← e, hg2]
      exact Rat.le_refl
    · have := List.pairwise_iff_getElem.1 hpw j P.length hj hg1 (by simp at hj; omega)
      rw [e, hg2] at this
      grind
  have f1 : t1.2 = 0 → newF L t1.1 = r1 := fun e => by
    rw [← h2] at e ⊢
    obtain ⟨_, _, s3, s4⟩ := addA_ok e
    rw [newF_last hb s3 (fun x hx hc => by
      have h5 := (cmp_pos (hright x hx) s3).1 hc
      have h6 := hple x hx
      rw [s4, val_oneK] at h5
      grind), h2, h3]
  have hP : ownP L = t0 :: ((p :: P).map (fun x => (x.1.i, (0 : Int))) ++ [t1]) := by
    unfold ownP bndK bndI
    rw [hb]
    show subA p.1.i ⟨1, 1⟩ :: (((p :: P).map (fun x => x.1.i)).map (fun t => (t, (0 : Int))) ++ [addA (((p :: P).map fun x => x.1.i).getLastD p.1.i) ⟨1, 1⟩]) = _
    have : ((p :: P).map fun x => x.1.i).getLastD p.1.i = (P.getLastD p).1.i := by
      rw [List.map_cons, List.getLastD_cons]
      exact lastD_map (fun x : Kn × Rt => x.1.i) P p
    rw [List.map_map, h0, this, h2]
    rfl
  have hmid : (p :: P).map (fun x => (⟨x.1.i, (newF L x.1.i).1⟩ : Kn)) = (p :: P).map (·.1) := List.map_congr_left fun x hx => by rw [hbend x hx]
  have hk : t0.2 = 0 → t1.2 = 0 → newK L = ⟨t0.1, r0.1⟩ :: ((p :: P).map (·.1) ++ [⟨t1.1, r1.1⟩]) := fun e0 e1 => by
    unfold newK kntK
    rw [hP, List.map_cons, List.map_append, List.map_map, f0 e0]
    show _ :: ((p :: P).map (fun x => (⟨x.1.i, (newF L x.1.i).1⟩ : Kn)) ++ [⟨t1.1, (newF L t1.1).1⟩]) = _
    rw [hmid, f1 e1]
  refine ⟨?_, hk⟩
  have hz : errK (newF L) ((p :: P).map fun x => (x.1.i, (0 : Int))) = 0 := errK_zero (fun x hx => by
    obtain ⟨y, hy, rfl⟩ := List.mem_map.1 hx
    exact ⟨rfl, by rw [hbend y hy]⟩)
  have he : errK (newF L) (ownP L) = if ¬ t0.2 = 0 then t0.2 else if ¬ (newF L t0.1).2 = 0 then (newF L t0.1).2 else if ¬ t1.2 = 0 then t1.2 else if ¬ (newF L t1.1).2 = 0 then (newF L t1.1).2 else 0 := by
    rw [hP]
    show (if ¬ t0.2 = 0 then t0.2 else if ¬ (newF L t0.1).2 = 0 then (newF L t0.1).2 else errK (newF L) ((p :: P).map (fun x => (x.1.i, (0 : Int))) ++ [t1])) = _
    rw [errK_app, hz, if_pos rfl]
    rfl
  unfold newE
  rw [if_neg (fun e => e hc), if_neg (fun e => e hs), he]
  by_cases e0 : t0.2 = 0
  · rw [f0 e0]
    by_cases e1 : r0.2 = 0
    · by_cases e2 : t1.2 = 0
      · rw [f1 e2]
        by_cases e3 : r1.2 = 0
        · rw [hk e0 e2]
          simp [e0, e1, e2, e3]
        · simp [e0, e1, e2, e3]
      · simp [e0, e1, e2]
    · simp [e0, e1]
  · simp [e0]
end Go.Proofs.Ytipnefaggpigfaa

/- Where the reference finds a map's bends (chapter 6). -/
namespace Go.Proofs.Ytipnefaggpigfaa

/-- Slopes as the reference has them. -/
def rSl (L : List Kn) : List Rt := if L.length = 1 then [⟨1, 1⟩] else slL L
theorem rsl_len (L : List Kn) : (rSl L).length = if L.length = 1 then 1 else L.length - 1 := by
  unfold rSl
  have := slL_len L
  split
  · rfl
  · exact this
theorem rsl_zero {L : List Kn} (h : 1 ≤ L.length) : (rSl L)[0]? = some ((slsK L).headD ⟨1, 1⟩) := by
  unfold rSl slsK
  have := slL_len L
  split
  · rename_i h1
    obtain ⟨a, rfl⟩ := List.length_eq_one_iff.1 h1
    rfl
  · cases e : slL L with
    | nil => rw [e] at this; simp at this; omega
    | cons v V => rfl
theorem rsl_in {L : List Kn} (hL : ∀ x ∈ L, KnIn x) : ∀ s ∈ rSl L, RtIn s := by
  unfold rSl
  split
  · intro s hs
    rw [List.mem_singleton.1 hs]
    exact one_inP
  · exact slL_in L hL
theorem sls_rsl {L : List Kn} {i : Nat} (h1 : 1 ≤ i) (h : i < L.length) : (slsK L)[i]? = (rSl L)[i - 1]? := by
  obtain ⟨j, rfl⟩ : ∃ j, i = j + 1 := ⟨i - 1, by omega⟩
  unfold rSl
  rw [if_neg (by omega), sls_at h, Nat.add_sub_cancel]
theorem bend_step {L : List Kn} {i : Nat} {x : Kn} {a b : Rt} (h1 : 1 ≤ i) (h : i + 1 < L.length) (hx : L[i]? = some x) (ha : (rSl L)[i - 1]? = some a) (hb : (rSl L)[i]? = some b) :
    bntK (L.drop i) ((slsK L).drop i) = if bentB a b = true then (x, b) :: bntK (L.drop (i + 1)) ((slsK L).drop (i + 1)) else bntK (L.drop (i + 1)) ((slsK L).drop (i + 1)) :=
  bntK_step hx (by rw [sls_rsl h1 (by omega), ha]) (by rw [sls_rsl (by omega) h, Nat.add_sub_cancel, hb])
theorem bend_start {L : List Kn} (h : 1 ≤ L.length) : bntK (L.drop 1) ((slsK L).drop 1) = bntK L (slsK L) := by
  match L, h with
  | [a], _ =>
    show [] = if bentB ⟨1, 1⟩ ⟨1, 1⟩ = true then _ else _
    rw [if_neg (by simp [bentB])]
    rfl
  | a :: b :: L', _ =>
    have e : slL (a :: b :: L') = (slopeA a b).1 :: slL (b :: L') := rfl
    generalize (slopeA a b).1 = v at e
    generalize slL (b :: L') = V at e
    have e1 : slsK (a :: b :: L') = v :: v :: (V ++ [V.getLastD v]) := by
      unfold slsK
      rw [e, List.getLastD_cons]
      rfl
    rw [e1]
    show bntK (b :: L') (v :: (V ++ [V.getLastD v])) = if bentB v v = true then _ else bntK (b :: L') (v :: (V ++ [V.getLastD v]))
    rw [if_neg (by simp [bentB])]
theorem bend_end {L : List Kn} {i : Nat} (h1 : 1 ≤ i) (h : L.length ≤ i + 1) : bntK (L.drop i) ((slsK L).drop i) = [] := by
  by_cases h2 : L.length ≤ i
  · exact bntK_end h2
  · have hi : i + 1 = L.length := by omega
    obtain ⟨x, hx⟩ : ∃ x, L[i]? = some x := ⟨_, List.getElem?_eq_getElem (by omega)⟩
    have hs := sls_len L (by omega)
    obtain ⟨a, ha⟩ : ∃ x, (slsK L)[i]? = some x := ⟨_, List.getElem?_eq_getElem (by omega)⟩
    have hb : (slsK L)[i + 1]? = some a := by
      rw [sls_end hi h1, ← ha, show i = (i - 1) + 1 by omega, sls_at (by omega)]
      rfl
    rw [bntK_step hx ha hb, if_neg (by simp [bentB])]
    exact bntK_end (by omega)
/-- The places of bends among knots, with what stands there. -/
structure BnI (L : List Kn) (I : List Nat) (P : List (Kn × Rt)) : Prop where
  len : P.length = I.length
  at_ : ∀ k j : Nat, I[k]? = some j → 1 ≤ j ∧ j + 1 < L.length ∧ ∃ x s, L[j]? = some x ∧ (rSl L)[j]? = some s ∧ P[k]? = some (x, s)
theorem BnI.nil (L : List Kn) : BnI L [] [] := ⟨rfl, fun k j h => by cases h⟩
theorem BnI.more {L : List Kn} {I : List Nat} {P : List (Kn × Rt)} {i : Nat} {x : Kn} {b : Rt} (h : BnI L I P) (h1 : 1 ≤ i) (h2 : i + 1 < L.length) (hx : L[i]? = some x) (hb : (rSl L)[i]? = some b) : BnI L (I ++ [i]) (P ++ [(x, b)]) := by
  refine ⟨by simp [h.len], fun k j hk => ?_⟩
  by_cases hkl : k < I.length
  · rw [List.getElem?_append_left hkl] at hk
    obtain ⟨a1, a2, y, s, a3, a4, a5⟩ := h.at_ k j hk
    exact ⟨a1, a2, y, s, a3, a4, by rw [List.getElem?_append_left (by rw [h.len]; exact hkl)]; exact a5⟩
  · have hke : k = I.length := by
      have := (List.getElem?_eq_some_iff.1 hk).1
      simp at this
      omega
    subst hke
    rw [List.getElem?_append_right (Nat.le_refl _), Nat.sub_self] at hk
    cases hk
    exact ⟨h1, h2, x, b, hx, hb, by rw [← h.len, List.getElem?_append_right (Nat.le_refl _), Nat.sub_self]; rfl⟩
def flatI (I : List Nat) : List Value := I.map fun (j : Nat) => .int .i64 (j : Int)
theorem infoIntK : (Try.prog.info? 3).map (fun i => (i.zero, i.size, i.bytes)) = some (some (.int .i64 0), 1, 8) := by kernel_rfl
end Go.Proofs.Ytipnefaggpigfaa

/- Two statements of the reference's New, over letters for its slots (chapter 6). -/
namespace Go.Proofs.Ytipnefaggpigfaa
open Go.RowKit Go.Shelf

/-- The region of a number in a function's code. -/
def findG (k : Nat) : Code → Option Code
  | .region i o d => if i = k then some (.region i o d) else none
  | .seq a b => (findG k a).orElse fun _ => findG k b
  | .cond _ a b => (findG k a).orElse fun _ => findG k b
  | .block _ a => findG k a
  | .loop a => findG k a
  | .scope a => findG k a
  | _ => none
/-- Four cells that lie in a block. -/
def Four (V : World) (R : Nat) (x y z u : Value) : Prop := R < V.heap.size ∧ V.cell? ⟨R, 0, none⟩ = some x ∧ V.cell? ⟨R, 1, none⟩ = some y ∧ V.cell? ⟨R, 2, none⟩ = some z ∧ V.cell? ⟨R, 3, none⟩ = some u ∧ V.frozen? ⟨R, 0, none⟩ = false ∧ V.frozen? ⟨R, 1, none⟩ = false ∧ V.frozen? ⟨R, 2, none⟩ = false ∧ V.frozen? ⟨R, 3, none⟩ = false
theorem Four.new (W : World) (x y z u : Value) (t : TypeId) : Four (W.alloc (.cells #[x, y, z, u] t)) W.heap.size x y z u := ⟨by simp, by go_simp, by go_simp, by go_simp, by go_simp, by go_simp, by go_simp, by go_simp, by go_simp⟩
theorem Four.keep {V W : World} {R : Nat} {x y z u : Value} (h : Four V R x y z u) (q : Below V.heap.size V W) : Four W R x y z u := by
  obtain ⟨h0, c0, c1, c2, c3, f0, f1, f2, f3⟩ := h
  have fr : ∀ i : Nat, W.frozen? ⟨R, i, none⟩ = V.frozen? ⟨R, i, none⟩ := fun i => by unfold World.frozen?; rw [q.block R h0]
  exact ⟨Nat.lt_of_lt_of_le h0 q.size, (q.cell (p := ⟨R, 0, none⟩) h0).trans c0, (q.cell (p := ⟨R, 1, none⟩) h0).trans c1, (q.cell (p := ⟨R, 2, none⟩) h0).trans c2, (q.cell (p := ⟨R, 3, none⟩) h0).trans c3, (fr 0).trans f0, (fr 1).trans f1, (fr 2).trans f2, (fr 3).trans f3⟩
theorem Four.set {V : World} {R : Nat} {x y z u x2 y2 z2 u2 : Value} (h : Four V R x y z u) : Four ((((V.setCell ⟨R, 0, none⟩ x2).setCell ⟨R, 1, none⟩ y2).setCell ⟨R, 2, none⟩ z2).setCell ⟨R, 3, none⟩ u2) R x2 y2 z2 u2 := by
  obtain ⟨h0, c0, c1, c2, c3, f0, f1, f2, f3⟩ := h
  exact ⟨by simpa using h0, by go_simp, by go_simp, by go_simp, by go_simp, by go_simp, by go_simp, by go_simp, by go_simp⟩
set_option maxRecDepth 100000 in
theorem rone6 (w : World) : Calls Try.prog 27 #[] w fun e w' => e = .returned (.agg #[.int .i64 1, .int .i64 1]) ∧ Below w.heap.size w w' := by
  go_enter Try.func27, Try.ntmps27
  go_upto_region 1 with fail
  obtain ⟨V, hV⟩ : ∃ V, w.alloc (.cells #[.int .i64 0, .int .i64 0] 42) = V := ⟨_, rfl⟩
  have HV := hideK (And.intro (bel1 w (.cells #[.int .i64 0, .int .i64 0] 42)) (Two.new w (.int .i64 0) (.int .i64 0) 42))
  rw [hV] at HV ⊢
  clear hV
  obtain ⟨_, z0, z1, f0, f1⟩ := HV.out.2
  go_wp2_with fail
  refine bodyPost_ret (v := .agg #[.int .i64 1, .int .i64 1]) (by simp [results, Try.results27, go_sem, z0, z1]) rfl ⟨rfl, ?_⟩
  exact (HV.out.1.setCell (by show w.heap.size ≤ w.heap.size; omega) _).setCell (by show w.heap.size ≤ w.heap.size; omega) _
set_option maxRecDepth 100000 in
theorem rnought6 (w : World) : Calls Try.prog 29 #[] w fun e w' => e = .returned (.agg #[.int .i64 0, .int .i64 1]) ∧ Below w.heap.size w w' := by
  go_enter Try.func29, Try.ntmps29
  go_upto_region 1 with fail
  obtain ⟨V, hV⟩ : ∃ V, w.alloc (.cells #[.int .i64 0, .int .i64 0] 42) = V := ⟨_, rfl⟩
  have HV := hideK (And.intro (bel1 w (.cells #[.int .i64 0, .int .i64 0] 42)) (Two.new w (.int .i64 0) (.int .i64 0) 42))
  rw [hV] at HV ⊢
  clear hV
  obtain ⟨_, z0, z1, f0, f1⟩ := HV.out.2
  go_wp2_with fail
  refine bodyPost_ret (v := .agg #[.int .i64 0, .int .i64 1]) (by simp [results, Try.results29, go_sem, z0, z1]) rfl ⟨rfl, ?_⟩
  exact (HV.out.1.setCell (by show w.heap.size ≤ w.heap.size; omega) _).setCell (by show w.heap.size ≤ w.heap.size; omega) _
set_option maxRecDepth 100000 in
set_option maxHeartbeats 4000000 in
theorem regG21 {cod : Code} {Q : Exit → Act → World → Prop} {df : List Deferred} {W : World} {A : Addr} {gs n c ns cs : Nat} {a : Kn} {s0 : Rt} {r : Rt × Int} {y1 y2 y3 y4 y6 y7 y8 y9 y10 y11 y12 y13 y14 y15 y16 y17 y18 y19 y20 y21 y22 y23 y24 y25 y26 y27 y28 y29 y30 y31 y32 y33 y34 y35 y36 y37 y38 y39 y40 y41 y42 y43 y44 y45 y46 y47 y48 y49 y50 y51 y52 y53 y54 y55 y56 y57 y58 y59 y60 y61 y62 y63 y64 y65 y66 y67 y68 y69 y70 y71 y72 y73 y74 y75 y76 y77 y78 y79 y80 y81 y82 y83 y84 y85 y86 y87 y88 y89 y90 y91 y92 y93 y94 y95 y96 y97 y98 y99 y100 y101 y102 y103 y104 y105 y106 y107 y108 y109 y110 y111 y112 y113 y114 y115 y116 y117 y118 y119 y120 y121 y122 y123 y124 y125 y126 y127 y128 y129 y130 y131 y132 y133 y134 y135 y136 y137 y138 y139 y140 y141 y142 y143 y144 y145 y146 y147 y148 y149 y150 y151 y152 y153 y154 y155 y156 y157 y158 y159 y160 y161 y162 y163 y164 y165 y166 y167 y168 y169 y170 y171 y172 y173 y174 y175 y176 y177 y178 y179 y180 y181 y182 y183 y184 y185 y186 y187 y188 y189 y190 y191 y192 y193 y194 y195 y196 y197 y198 y199 y200 y201 y202 y203 y204 y205 y206 y207 y208 y209 y210 y211 y212 y213 y214 y215 y216 y217 y218 y219 y220 y221 y222 y223 y224 y225 y226 y227 y228 y229 y230 y231 y232 y233 y234 y235 y236 y237 y238 y239 y240 y241 y242 y243 y244 y245 y246 y247 y248 y249 y250 y251 y252 y253 : Value} (hc : Try.f7.body.bind (findG 21) = some cod)
    (dn : 0 < n) (dns : 0 < ns) (HK : ∀ w', Below W.heap.size W w' → w'.cell? A = some (.int .i64 a.i.N) ∧ w'.cell? ⟨A.block, A.off + 1, none⟩ = some (.int .i64 a.i.D) ∧ w'.cell? ⟨A.block, A.off + 2, none⟩ = some (.int .i64 a.o.N) ∧ w'.cell? ⟨A.block, A.off + 3, none⟩ = some (.int .i64 a.o.D) ∧ w'.cell? ⟨gs, 0, none⟩ = some (.int .i64 s0.N) ∧ w'.cell? ⟨gs, 1, none⟩ = some (.int .i64 s0.D))
    (HA : ∀ V : World, Calls Try.prog 28 #[.agg #[.int .i64 a.i.N, .int .i64 a.i.D, .int .i64 a.o.N, .int .i64 a.o.D], .agg #[.int .i64 s0.N, .int .i64 s0.D], .agg #[.int .i64 0, .int .i64 1]] V fun e w' => e = .returned (.tuple #[.agg #[.int .i64 0, .int .i64 1, .int .i64 r.1.N, .int .i64 r.1.D], .int .i64 r.2]) ∧ Below V.heap.size V w')
    (hQ : ∀ (z84 z85 z86 z87 z88 z89 z90 z91 z92 z93 z94 : Value) (q : Nat) (X : World), W.heap.size ≤ q → Four X q (.int .i64 0) (.int .i64 1) (.int .i64 r.1.N) (.int .i64 r.1.D) → Below W.heap.size W X → Q .normal ⟨#[.slice (some A) n c, y1, y2, y3, y4, .slice (some ⟨gs, 0, none⟩) ns cs, y6, y7, y8, y9, y10, .pointer (some ⟨q, 0, none⟩), .int .i64 r.2, y13, y14, y15, y16, y17, y18, y19, y20, y21, y22, y23, y24, y25, y26, y27, y28, y29, y30, y31, y32, y33, y34, y35, y36, y37, y38, y39, y40, y41, y42, y43, y44, y45, y46, y47, y48, y49, y50, y51, y52, y53, y54, y55, y56, y57, y58, y59, y60, y61, y62, y63, y64, y65, y66, y67, y68, y69, y70, y71, y72, y73, y74, y75, y76, y77, y78, y79, y80, y81, y82, y83, z84, z85, z86, z87, z88, z89, z90, z91, z92, z93, z94, y95, y96, y97, y98, y99, y100, y101, y102, y103, y104, y105, y106, y107, y108, y109, y110, y111, y112, y113, y114, y115, y116, y117, y118, y119, y120, y121, y122, y123, y124, y125, y126, y127, y128, y129, y130, y131, y132, y133, y134, y135, y136, y137, y138, y139, y140, y141, y142, y143, y144, y145, y146, y147, y148, y149, y150, y151, y152, y153, y154, y155, y156, y157, y158, y159, y160, y161, y162, y163, y164, y165, y166, y167, y168, y169, y170, y171, y172, y173, y174, y175, y176, y177, y178, y179, y180, y181, y182, y183, y184, y185, y186, y187, y188, y189, y190, y191, y192, y193, y194, y195, y196, y197, y198, y199, y200, y201, y202, y203, y204, y205, y206, y207, y208, y209, y210, y211, y212, y213, y214, y215, y216, y217, y218, y219, y220, y221, y222, y223, y224, y225, y226, y227, y228, y229, y230, y231, y232, y233, y234, y235, y236, y237, y238, y239, y240, y241, y242, y243, y244, y245, y246, y247, y248, y249, y250, y251, y252, y253], df⟩ X) :
    cod.wp Try.prog Q ⟨#[.slice (some A) n c, y1, y2, y3, y4, .slice (some ⟨gs, 0, none⟩) ns cs, y6, y7, y8, y9, y10, y11, y12, y13, y14, y15, y16, y17, y18, y19, y20, y21, y22, y23, y24, y25, y26, y27, y28, y29, y30, y31, y32, y33, y34, y35, y36, y37, y38, y39, y40, y41, y42, y43, y44, y45, y46, y47, y48, y49, y50, y51, y52, y53, y54, y55, y56, y57, y58, y59, y60, y61, y62, y63, y64, y65, y66, y67, y68, y69, y70, y71, y72, y73, y74, y75, y76, y77, y78, y79, y80, y81, y82, y83, y84, y85, y86, y87, y88, y89, y90, y91, y92, y93, y94, y95, y96, y97, y98, y99, y100, y101, y102, y103, y104, y105, y106, y107, y108, y109, y110, y111, y112, y113, y114, y115, y116, y117, y118, y119, y120, y121, y122, y123, y124, y125, y126, y127, y128, y129, y130, y131, y132, y133, y134, y135, y136, y137, y138, y139, y140, y141, y142, y143, y144, y145, y146, y147, y148, y149, y150, y151, y152, y153, y154, y155, y156, y157, y158, y159, y160, y161, y162, y163, y164, y165, y166, y167, y168, y169, y170, y171, y172, y173, y174, y175, y176, y177, y178, y179, y180, y181, y182, y183, y184, y185, y186, y187, y188, y189, y190, y191, y192, y193, y194, y195, y196, y197, y198, y199, y200, y201, y202, y203, y204, y205, y206, y207, y208, y209, y210, y211, y212, y213, y214, y215, y216, y217, y218, y219, y220, y221, y222, y223, y224, y225, y226, y227, y228, y229, y230, y231, y232, y233, y234, y235, y236, y237, y238, y239, y240, y241, y242, y243, y244, y245, y246, y247, y248, y249, y250, y251, y252, y253], df⟩ W := by
  suffices hS : ∃ co : Code, (Try.f7.body.bind (findG 21)) = some co ∧ co.wp Try.prog Q ⟨#[.slice (some A) n c, y1, y2, y3, y4, .slice (some ⟨gs, 0, none⟩) ns cs, y6, y7, y8, y9, y10, y11, y12, y13, y14, y15, y16, y17, y18, y19, y20, y21, y22, y23, y24, y25, y26, y27, y28, y29, y30, y31, y32, y33, y34, y35, y36, y37, y38, y39, y40, y41, y42, y43, y44, y45, y46, y47, y48, y49, y50, y51, y52, y53, y54, y55, y56, y57, y58, y59, y60, y61, y62, y63, y64, y65, y66, y67, y68, y69, y70, y71, y72, y73, y74, y75, y76, y77, y78, y79, y80, y81, y82, y83, y84, y85, y86, y87, y88, y89, y90, y91, y92, y93, y94, y95, y96, y97, y98, y99, y100, y101, y102, y103, y104, y105, y106, y107, y108, y109, y110, y111, y112, y113, y114, y115, y116, y117, y118, y119, y120, y121, y122, y123, y124, y125, y126, y127, y128, y129, y130, y131, y132, y133, y134, y135, y136, y137, y138, y139, y140, y141, y142, y143, y144, y145, y146, y147, y148, y149, y150, y151, y152, y153, y154, y155, y156, y157, y158, y159, y160, y161, y162, y163, y164, y165, y166, y167, y168, y169, y170, y171, y172, y173, y174, y175, y176, y177, y178, y179, y180, y181, y182, y183, y184, y185, y186, y187, y188, y189, y190, y191, y192, y193, y194, y195, y196, y197, y198, y199, y200, y201, y202, y203, y204, y205, y206, y207, y208, y209, y210, y211, y212, y213, y214, y215, y216, y217, y218, y219, y220, y221, y222, y223, y224, y225, y226, y227, y228, y229, y230, y231, y232, y233, y234, y235, y236, y237, y238, y239, y240, y241, y242, y243, y244, y245, y246, y247, y248, y249, y250, y251, y252, y253], df⟩ W by
    obtain ⟨c2, h1, h2⟩ := hS
    rw [hc] at h1
    cases h1
    exact h2
  clear hc
  refine ⟨_, rfl, ?_⟩
  replace hQ := hideK hQ
  replace HK := hideK HK
  replace HA := hideK HA
  obtain ⟨a0, a1, a2, a3, k0, k1⟩ := HK.out W (Below.refl _ _)
  dsimp only [List.append]
  go_region_held3 (fun w' => w'.cell? A = some (.int .i64 a.i.N) ∧ w'.cell? ⟨A.block, A.off + 1, none⟩ = some (.int .i64 a.i.D) ∧ w'.cell? ⟨A.block, A.off + 2, none⟩ = some (.int .i64 a.o.N) ∧ w'.cell? ⟨A.block, A.off + 3, none⟩ = some (.int .i64 a.o.D) ∧ w'.cell? ⟨gs, 0, none⟩ = some (.int .i64 s0.N) ∧ w'.cell? ⟨gs, 1, none⟩ = some (.int .i64 s0.D)) (first | go_keep | assumption | exact HK.out _ ((((c5.setCell (by first | exact z4 | exact Nat.le_refl _ | (simp; omega)) _).setCell (by first | exact z4 | exact Nat.le_refl _ | (simp; omega)) _).setCell (by first | exact z4 | exact Nat.le_refl _ | (simp; omega)) _).setCell (by first | exact z4 | exact Nat.le_refl _ | (simp; omega)) _) | exact HK.out _ (((((bup c5 (bel1 _ _)).setCell (by first | exact z5 | exact Nat.le_refl _ | (simp; omega)) _).setCell (by first | exact z5 | exact Nat.le_refl _ | (simp; omega)) _).setCell (by first | exact z5 | exact Nat.le_refl _ | (simp; omega)) _).setCell (by first | exact z5 | exact Nat.le_refl _ | (simp; omega)) _)) (first
    | (go_at_call 29; (with_reducible refine Calls.mono (rnought6 _) ?_); rintro e v4 ⟨rfl, b4⟩; (first
        | (have c4 : Below W.heap.size W v4 := (Below.refl W.heap.size W).drew.trans b4)
        | (have c4 : Below W.heap.size W v4 := bup (bup (Below.refl _ W).drew (bel1 W.drew _)) b4; have T4 : Hid (Four v4 W.heap.size (.int .i64 0) (.int .i64 0) (.int .i64 0) (.int .i64 0)) := hideK ((Four.new W.drew _ _ _ _ 45).keep b4))); have z4 := c4.size; obtain ⟨e0, e1, e2, e3, e4, e5⟩ := HK.out _ c4)
    | (go_at_call 28; (with_reducible refine Calls.mono (HA.out _) ?_); rintro e v5 ⟨rfl, b5⟩; (first
        | (have c5 : Below W.heap.size W v5 := bup c4 b5; have T5 := hideK (T4.out.keep b5); obtain ⟨_, g0, g1, g2, g3, h0, h1, h2, h3⟩ := T5.out)
        | (have c5 : Below W.heap.size W v5 := bup c4 b5)
        | (have c5 : Below W.heap.size W v5 := bup (bup c4 (bel1 v4 _)) b5; have T6 : Hid (Four v5 v4.heap.size (.int .i64 0) (.int .i64 0) (.int .i64 0) (.int .i64 0)) := hideK ((Four.new v4 _ _ _ _ 45).keep b5); obtain ⟨_, g0, g1, g2, g3, h0, h1, h2, h3⟩ := T6.out)); have z5 := c5.size; obtain ⟨m0, m1, m2, m3, m4, m5⟩ := HK.out _ c5))
  · exact hQ.out _ _ _ _ _ _ _ _ _ _ _ v5.heap.size _ z5 (Four.new v5 _ _ _ _ _) (bup c5 (bel1 _ _))
  · exact hQ.out _ _ _ _ _ _ _ _ _ _ _ v4.heap.size _ z4 T6.out.set ((((c5.setCell z4 _).setCell z4 _).setCell z4 _).setCell z4 _)
  · exact hQ.out _ _ _ _ _ _ _ _ _ _ _ W.heap.size _ (Nat.le_refl _) T5.out.set ((((c5.setCell (Nat.le_refl _) _).setCell (Nat.le_refl _) _).setCell (Nat.le_refl _) _).setCell (Nat.le_refl _) _)
set_option maxRecDepth 100000 in
set_option maxHeartbeats 4000000 in
theorem regG24 {cod : Code} {Q : Exit → Act → World → Prop} {df : List Deferred} {W : World} {A : Addr} {gs n c ns cs : Nat} {a : Kn} {s0 : Rt} {r : Rt × Int} {y1 y2 y3 y4 y6 y7 y8 y9 y10 y11 y12 y13 y14 y15 y16 y17 y18 y19 y20 y21 y22 y23 y24 y25 y26 y27 y28 y29 y30 y31 y32 y33 y34 y35 y36 y37 y38 y39 y40 y41 y42 y43 y44 y45 y46 y47 y48 y49 y50 y51 y52 y53 y54 y55 y56 y57 y58 y59 y60 y61 y62 y63 y64 y65 y66 y67 y68 y69 y70 y71 y72 y73 y74 y75 y76 y77 y78 y79 y80 y81 y82 y83 y84 y85 y86 y87 y88 y89 y90 y91 y92 y93 y94 y95 y96 y97 y98 y99 y100 y101 y102 y103 y104 y105 y106 y107 y108 y109 y110 y111 y112 y113 y114 y115 y116 y117 y118 y119 y120 y121 y122 y123 y124 y125 y126 y127 y128 y129 y130 y131 y132 y133 y134 y135 y136 y137 y138 y139 y140 y141 y142 y143 y144 y145 y146 y147 y148 y149 y150 y151 y152 y153 y154 y155 y156 y157 y158 y159 y160 y161 y162 y163 y164 y165 y166 y167 y168 y169 y170 y171 y172 y173 y174 y175 y176 y177 y178 y179 y180 y181 y182 y183 y184 y185 y186 y187 y188 y189 y190 y191 y192 y193 y194 y195 y196 y197 y198 y199 y200 y201 y202 y203 y204 y205 y206 y207 y208 y209 y210 y211 y212 y213 y214 y215 y216 y217 y218 y219 y220 y221 y222 y223 y224 y225 y226 y227 y228 y229 y230 y231 y232 y233 y234 y235 y236 y237 y238 y239 y240 y241 y242 y243 y244 y245 y246 y247 y248 y249 y250 y251 y252 y253 : Value} (hc : Try.f7.body.bind (findG 24) = some cod)
    (dn : 0 < n) (dns : 0 < ns) (HK : ∀ w', Below W.heap.size W w' → w'.cell? A = some (.int .i64 a.i.N) ∧ w'.cell? ⟨A.block, A.off + 1, none⟩ = some (.int .i64 a.i.D) ∧ w'.cell? ⟨A.block, A.off + 2, none⟩ = some (.int .i64 a.o.N) ∧ w'.cell? ⟨A.block, A.off + 3, none⟩ = some (.int .i64 a.o.D) ∧ w'.cell? ⟨gs, 0, none⟩ = some (.int .i64 s0.N) ∧ w'.cell? ⟨gs, 1, none⟩ = some (.int .i64 s0.D))
    (HA : ∀ V : World, Calls Try.prog 28 #[.agg #[.int .i64 a.i.N, .int .i64 a.i.D, .int .i64 a.o.N, .int .i64 a.o.D], .agg #[.int .i64 s0.N, .int .i64 s0.D], .agg #[.int .i64 1, .int .i64 1]] V fun e w' => e = .returned (.tuple #[.agg #[.int .i64 1, .int .i64 1, .int .i64 r.1.N, .int .i64 r.1.D], .int .i64 r.2]) ∧ Below V.heap.size V w')
    (hQ : ∀ (z98 z99 z100 z101 z102 z103 z104 z105 z106 z107 z108 : Value) (q : Nat) (X : World), W.heap.size ≤ q → Four X q (.int .i64 1) (.int .i64 1) (.int .i64 r.1.N) (.int .i64 r.1.D) → Below W.heap.size W X → Q .normal ⟨#[.slice (some A) n c, y1, y2, y3, y4, .slice (some ⟨gs, 0, none⟩) ns cs, y6, y7, y8, y9, y10, y11, .int .i64 r.2, .pointer (some ⟨q, 0, none⟩), y14, y15, y16, y17, y18, y19, y20, y21, y22, y23, y24, y25, y26, y27, y28, y29, y30, y31, y32, y33, y34, y35, y36, y37, y38, y39, y40, y41, y42, y43, y44, y45, y46, y47, y48, y49, y50, y51, y52, y53, y54, y55, y56, y57, y58, y59, y60, y61, y62, y63, y64, y65, y66, y67, y68, y69, y70, y71, y72, y73, y74, y75, y76, y77, y78, y79, y80, y81, y82, y83, y84, y85, y86, y87, y88, y89, y90, y91, y92, y93, y94, y95, y96, y97, z98, z99, z100, z101, z102, z103, z104, z105, z106, z107, z108, y109, y110, y111, y112, y113, y114, y115, y116, y117, y118, y119, y120, y121, y122, y123, y124, y125, y126, y127, y128, y129, y130, y131, y132, y133, y134, y135, y136, y137, y138, y139, y140, y141, y142, y143, y144, y145, y146, y147, y148, y149, y150, y151, y152, y153, y154, y155, y156, y157, y158, y159, y160, y161, y162, y163, y164, y165, y166, y167, y168, y169, y170, y171, y172, y173, y174, y175, y176, y177, y178, y179, y180, y181, y182, y183, y184, y185, y186, y187, y188, y189, y190, y191, y192, y193, y194, y195, y196, y197, y198, y199, y200, y201, y202, y203, y204, y205, y206, y207, y208, y209, y210, y211, y212, y213, y214, y215, y216, y217, y218, y219, y220, y221, y222, y223, y224, y225, y226, y227, y228, y229, y230, y231, y232, y233, y234, y235, y236, y237, y238, y239, y240, y241, y242, y243, y244, y245, y246, y247, y248, y249, y250, y251, y252, y253], df⟩ X) :
    cod.wp Try.prog Q ⟨#[.slice (some A) n c, y1, y2, y3, y4, .slice (some ⟨gs, 0, none⟩) ns cs, y6, y7, y8, y9, y10, y11, y12, y13, y14, y15, y16, y17, y18, y19, y20, y21, y22, y23, y24, y25, y26, y27, y28, y29, y30, y31, y32, y33, y34, y35, y36, y37, y38, y39, y40, y41, y42, y43, y44, y45, y46, y47, y48, y49, y50, y51, y52, y53, y54, y55, y56, y57, y58, y59, y60, y61, y62, y63, y64, y65, y66, y67, y68, y69, y70, y71, y72, y73, y74, y75, y76, y77, y78, y79, y80, y81, y82, y83, y84, y85, y86, y87, y88, y89, y90, y91, y92, y93, y94, y95, y96, y97, y98, y99, y100, y101, y102, y103, y104, y105, y106, y107, y108, y109, y110, y111, y112, y113, y114, y115, y116, y117, y118, y119, y120, y121, y122, y123, y124, y125, y126, y127, y128, y129, y130, y131, y132, y133, y134, y135, y136, y137, y138, y139, y140, y141, y142, y143, y144, y145, y146, y147, y148, y149, y150, y151, y152, y153, y154, y155, y156, y157, y158, y159, y160, y161, y162, y163, y164, y165, y166, y167, y168, y169, y170, y171, y172, y173, y174, y175, y176, y177, y178, y179, y180, y181, y182, y183, y184, y185, y186, y187, y188, y189, y190, y191, y192, y193, y194, y195, y196, y197, y198, y199, y200, y201, y202, y203, y204, y205, y206, y207, y208, y209, y210, y211, y212, y213, y214, y215, y216, y217, y218, y219, y220, y221, y222, y223, y224, y225, y226, y227, y228, y229, y230, y231, y232, y233, y234, y235, y236, y237, y238, y239, y240, y241, y242, y243, y244, y245, y246, y247, y248, y249, y250, y251, y252, y253], df⟩ W := by
  suffices hS : ∃ co : Code, (Try.f7.body.bind (findG 24)) = some co ∧ co.wp Try.prog Q ⟨#[.slice (some A) n c, y1, y2, y3, y4, .slice (some ⟨gs, 0, none⟩) ns cs, y6, y7, y8, y9, y10, y11, y12, y13, y14, y15, y16, y17, y18, y19, y20, y21, y22, y23, y24, y25, y26, y27, y28, y29, y30, y31, y32, y33, y34, y35, y36, y37, y38, y39, y40, y41, y42, y43, y44, y45, y46, y47, y48, y49, y50, y51, y52, y53, y54, y55, y56, y57, y58, y59, y60, y61, y62, y63, y64, y65, y66, y67, y68, y69, y70, y71, y72, y73, y74, y75, y76, y77, y78, y79, y80, y81, y82, y83, y84, y85, y86, y87, y88, y89, y90, y91, y92, y93, y94, y95, y96, y97, y98, y99, y100, y101, y102, y103, y104, y105, y106, y107, y108, y109, y110, y111, y112, y113, y114, y115, y116, y117, y118, y119, y120, y121, y122, y123, y124, y125, y126, y127, y128, y129, y130, y131, y132, y133, y134, y135, y136, y137, y138, y139, y140, y141, y142, y143, y144, y145, y146, y147, y148, y149, y150, y151, y152, y153, y154, y155, y156, y157, y158, y159, y160, y161, y162, y163, y164, y165, y166, y167, y168, y169, y170, y171, y172, y173, y174, y175, y176, y177, y178, y179, y180, y181, y182, y183, y184, y185, y186, y187, y188, y189, y190, y191, y192, y193, y194, y195, y196, y197, y198, y199, y200, y201, y202, y203, y204, y205, y206, y207, y208, y209, y210, y211, y212, y213, y214, y215, y216, y217, y218, y219, y220, y221, y222, y223, y224, y225, y226, y227, y228, y229, y230, y231, y232, y233, y234, y235, y236, y237, y238, y239, y240, y241, y242, y243, y244, y245, y246, y247, y248, y249, y250, y251, y252, y253], df⟩ W by
    obtain ⟨c2, h1, h2⟩ := hS
    rw [hc] at h1
    cases h1
    exact h2
  clear hc
  refine ⟨_, rfl, ?_⟩
  replace hQ := hideK hQ
  replace HK := hideK HK
  replace HA := hideK HA
  obtain ⟨a0, a1, a2, a3, k0, k1⟩ := HK.out W (Below.refl _ _)
  dsimp only [List.append]
  go_region_held3 (fun w' => w'.cell? A = some (.int .i64 a.i.N) ∧ w'.cell? ⟨A.block, A.off + 1, none⟩ = some (.int .i64 a.i.D) ∧ w'.cell? ⟨A.block, A.off + 2, none⟩ = some (.int .i64 a.o.N) ∧ w'.cell? ⟨A.block, A.off + 3, none⟩ = some (.int .i64 a.o.D) ∧ w'.cell? ⟨gs, 0, none⟩ = some (.int .i64 s0.N) ∧ w'.cell? ⟨gs, 1, none⟩ = some (.int .i64 s0.D)) (first | go_keep | assumption | exact HK.out _ ((((c5.setCell (by first | exact z4 | exact Nat.le_refl _ | (simp; omega)) _).setCell (by first | exact z4 | exact Nat.le_refl _ | (simp; omega)) _).setCell (by first | exact z4 | exact Nat.le_refl _ | (simp; omega)) _).setCell (by first | exact z4 | exact Nat.le_refl _ | (simp; omega)) _) | exact HK.out _ (((((bup c5 (bel1 _ _)).setCell (by first | exact z5 | exact Nat.le_refl _ | (simp; omega)) _).setCell (by first | exact z5 | exact Nat.le_refl _ | (simp; omega)) _).setCell (by first | exact z5 | exact Nat.le_refl _ | (simp; omega)) _).setCell (by first | exact z5 | exact Nat.le_refl _ | (simp; omega)) _)) (first
    | (go_at_call 27; (with_reducible refine Calls.mono (rone6 _) ?_); rintro e v4 ⟨rfl, b4⟩; (first
        | (have c4 : Below W.heap.size W v4 := (Below.refl W.heap.size W).drew.trans b4)
        | (have c4 : Below W.heap.size W v4 := bup (bup (Below.refl _ W).drew (bel1 W.drew _)) b4; have T4 : Hid (Four v4 W.heap.size (.int .i64 0) (.int .i64 0) (.int .i64 0) (.int .i64 0)) := hideK ((Four.new W.drew _ _ _ _ 45).keep b4))); have z4 := c4.size; obtain ⟨e0, e1, e2, e3, e4, e5⟩ := HK.out _ c4)
    | (go_at_call 28; (with_reducible refine Calls.mono (HA.out _) ?_); rintro e v5 ⟨rfl, b5⟩; (first
        | (have c5 : Below W.heap.size W v5 := bup c4 b5; have T5 := hideK (T4.out.keep b5); obtain ⟨_, g0, g1, g2, g3, h0, h1, h2, h3⟩ := T5.out)
        | (have c5 : Below W.heap.size W v5 := bup c4 b5)
        | (have c5 : Below W.heap.size W v5 := bup (bup c4 (bel1 v4 _)) b5; have T6 : Hid (Four v5 v4.heap.size (.int .i64 0) (.int .i64 0) (.int .i64 0) (.int .i64 0)) := hideK ((Four.new v4 _ _ _ _ 45).keep b5); obtain ⟨_, g0, g1, g2, g3, h0, h1, h2, h3⟩ := T6.out)); have z5 := c5.size; obtain ⟨m0, m1, m2, m3, m4, m5⟩ := HK.out _ c5))
  · exact hQ.out _ _ _ _ _ _ _ _ _ _ _ v5.heap.size _ z5 (Four.new v5 _ _ _ _ _) (bup c5 (bel1 _ _))
  · exact hQ.out _ _ _ _ _ _ _ _ _ _ _ v4.heap.size _ z4 T6.out.set ((((c5.setCell z4 _).setCell z4 _).setCell z4 _).setCell z4 _)
  · exact hQ.out _ _ _ _ _ _ _ _ _ _ _ W.heap.size _ (Nat.le_refl _) T5.out.set ((((c5.setCell (Nat.le_refl _) _).setCell (Nat.le_refl _) _).setCell (Nat.le_refl _) _).setCell (Nat.le_refl _) _)
end Go.Proofs.Ytipnefaggpigfaa

/- The reference's New: the map without bends is made (chapter 6), over letters. -/
namespace Go.Proofs.Ytipnefaggpigfaa
open Go.RowKit Go.Shelf

theorem kno_two (W : World) (x y : Kn) : KnO (W.alloc (.cells #[.int .i64 x.i.N, .int .i64 x.i.D, .int .i64 x.o.N, .int .i64 x.o.D, .int .i64 y.i.N, .int .i64 y.i.D, .int .i64 y.o.N, .int .i64 y.o.D] 45)) (some ⟨W.heap.size, 0, none⟩) [x, y] := by
  have h := World.ownsRow_lit (base := W.heap.size) (size := 4) (e := 45) W #[.int .i64 x.i.N, .int .i64 x.i.D, .int .i64 x.o.N, .int .i64 x.o.D, .int .i64 y.i.N, .int .i64 y.i.D, .int .i64 y.o.N, .int .i64 y.o.D] 2 (Nat.le_refl _) (by unfold maxLen; omega) rfl
  obtain ⟨o, c, e, -, hk, -⟩ := own_kn (Q := [x, y]) h
  cases e
  exact hk
theorem rto_one (W : World) (s0 : Rt) : RtO (W.alloc (.cells #[.int .i64 s0.N, .int .i64 s0.D] 42)) (some ⟨W.heap.size, 0, none⟩) [s0] := by
  have h := World.ownsRow_lit (base := W.heap.size) (size := 2) (e := 42) W #[.int .i64 s0.N, .int .i64 s0.D] 1 (Nat.le_refl _) (by unfold maxLen; omega) rfl
  obtain ⟨o, c, e, -, hk, -⟩ := own_rt (Q := [s0]) h
  cases e
  exact hk
theorem map_a (V : World) (x y : Kn) (s0 : Rt) : RMapAt (((V.alloc (.cells #[.int .i64 x.i.N, .int .i64 x.i.D, .int .i64 x.o.N, .int .i64 x.o.D, .int .i64 y.i.N, .int .i64 y.i.D, .int .i64 y.o.N, .int .i64 y.o.D] 45)).alloc (.cells #[.int .i64 s0.N, .int .i64 s0.D] 42)).alloc (.cells #[.slice (some ⟨V.heap.size, 0, none⟩) 2 2, .slice (some ⟨V.heap.size + 1, 0, none⟩) 1 1] 65)) (V.heap.size + 1 + 1) [x, y] [s0] := by
  have h1 := (kno_two V x y).keep (bup (bel1 _ (.cells #[.int .i64 s0.N, .int .i64 s0.D] 42)) (bel1 _ (.cells #[.slice (some ⟨V.heap.size, 0, none⟩) 2 2, .slice (some ⟨V.heap.size + 1, 0, none⟩) 1 1] 65)))
  have h2 := (rto_one (V.alloc (.cells #[.int .i64 x.i.N, .int .i64 x.i.D, .int .i64 x.o.N, .int .i64 x.o.D, .int .i64 y.i.N, .int .i64 y.i.D, .int .i64 y.o.N, .int .i64 y.o.D] 45)) s0).keep (bel1 _ (.cells #[.slice (some ⟨V.heap.size, 0, none⟩) 2 2, .slice (some ⟨V.heap.size + 1, 0, none⟩) 1 1] 65))
  rw [World.size_alloc] at h2
  refine ⟨_, 2, _, 1, ?_, ⟨Nat.le_refl _, by unfold maxLen; omega⟩, ⟨Nat.le_refl _, by unfold maxLen; omega⟩, h1, h2⟩
  have h := World.alloc_heap_new ((V.alloc (.cells #[.int .i64 x.i.N, .int .i64 x.i.D, .int .i64 x.o.N, .int .i64 x.o.D, .int .i64 y.i.N, .int .i64 y.i.D, .int .i64 y.o.N, .int .i64 y.o.D] 45)).alloc (.cells #[.int .i64 s0.N, .int .i64 s0.D] 42)) (.cells #[.slice (some ⟨V.heap.size, 0, none⟩) 2 2, .slice (some ⟨V.heap.size + 1, 0, none⟩) 1 1] 65)
  rw [World.size_alloc, World.size_alloc] at h
  exact h
theorem map_b (V : World) (x y : Kn) (s0 : Rt) : RMapAt (((V.alloc (.cells #[.int .i64 s0.N, .int .i64 s0.D] 42)).alloc (.cells #[.int .i64 x.i.N, .int .i64 x.i.D, .int .i64 x.o.N, .int .i64 x.o.D, .int .i64 y.i.N, .int .i64 y.i.D, .int .i64 y.o.N, .int .i64 y.o.D] 45)).alloc (.cells #[.slice (some ⟨V.heap.size + 1, 0, none⟩) 2 2, .slice (some ⟨V.heap.size, 0, none⟩) 1 1] 65)) (V.heap.size + 1 + 1) [x, y] [s0] := by
  have h1 := (kno_two (V.alloc (.cells #[.int .i64 s0.N, .int .i64 s0.D] 42)) x y).keep (bel1 _ (.cells #[.slice (some ⟨V.heap.size + 1, 0, none⟩) 2 2, .slice (some ⟨V.heap.size, 0, none⟩) 1 1] 65))
  have h2 := (rto_one V s0).keep (bup (bel1 _ (.cells #[.int .i64 x.i.N, .int .i64 x.i.D, .int .i64 x.o.N, .int .i64 x.o.D, .int .i64 y.i.N, .int .i64 y.i.D, .int .i64 y.o.N, .int .i64 y.o.D] 45)) (bel1 _ (.cells #[.slice (some ⟨V.heap.size + 1, 0, none⟩) 2 2, .slice (some ⟨V.heap.size, 0, none⟩) 1 1] 65)))
  rw [World.size_alloc] at h1
  refine ⟨_, 2, _, 1, ?_, ⟨Nat.le_refl _, by unfold maxLen; omega⟩, ⟨Nat.le_refl _, by unfold maxLen; omega⟩, h1, h2⟩
  have h := World.alloc_heap_new ((V.alloc (.cells #[.int .i64 s0.N, .int .i64 s0.D] 42)).alloc (.cells #[.int .i64 x.i.N, .int .i64 x.i.D, .int .i64 x.o.N, .int .i64 x.o.D, .int .i64 y.i.N, .int .i64 y.i.D, .int .i64 y.o.N, .int .i64 y.o.D] 45)) (.cells #[.slice (some ⟨V.heap.size + 1, 0, none⟩) 2 2, .slice (some ⟨V.heap.size, 0, none⟩) 1 1] 65)
  rw [World.size_alloc, World.size_alloc] at h
  exact h
/-- What own tells of a map. -/
def OwnS (W : World) (B : Nat) (K : List Kn) (S : List Rt) (p : Value) (er : Int) : Prop := er = slE K ∧ (er = 0 → p = .pointer (some ⟨B, 0, none⟩) ∧ RMapAt W B K S) ∧ (¬ er = 0 → p = .pointer none)
theorem rown_s (K : List Kn) (S : List Rt) (B : Nat) (hK : ∀ x ∈ K, KnIn x) (h1 : 1 ≤ K.length) (w : World) (hM : RMapAt w B K S) :
    Calls Try.prog 30 #[.pointer (some ⟨B, 0, none⟩)] w fun e w' => ∃ p er, e = .returned (.tuple #[p, .int .i64 er]) ∧ OwnS w' B K S p er ∧ Below w.heap.size w w' := by
  refine (rown_any K S B hK h1 w hM).mono ?_
  rintro e w' ⟨b, ⟨hz, rfl⟩ | ⟨hz, rfl⟩⟩
  · exact ⟨_, 0, rfl, ⟨hz.symm, fun _ => ⟨rfl, hM.keep b⟩, fun h => absurd rfl h⟩, b⟩
  · exact ⟨_, _, rfl, ⟨rfl, fun h => absurd h hz, fun _ => rfl⟩, b⟩
set_option maxRecDepth 100000 in
set_option maxHeartbeats 4000000 in
theorem regG27 {cod : Code} {Q : Exit → Act → World → Prop} {df : List Deferred} {W : World} {gs ns cs q1 q2 : Nat} {x y : Kn} {s0 : Rt} {y0 y1 y2 y3 y4 y6 y7 y8 y9 y10 y12 y14 y15 y16 y17 y18 y19 y20 y21 y22 y23 y24 y25 y26 y27 y28 y29 y30 y31 y32 y33 y34 y35 y36 y37 y38 y39 y40 y41 y42 y43 y44 y45 y46 y47 y48 y49 y50 y51 y52 y53 y54 y55 y56 y57 y58 y59 y60 y61 y62 y63 y64 y65 y66 y67 y68 y69 y70 y71 y72 y73 y74 y75 y76 y77 y78 y79 y80 y81 y82 y83 y84 y85 y86 y87 y88 y89 y90 y91 y92 y93 y94 y95 y96 y97 y98 y99 y100 y101 y102 y103 y104 y105 y106 y107 y108 y109 y110 y111 y112 y113 y114 y115 y116 y117 y118 y119 y120 y121 y122 y123 y124 y125 y126 y127 y128 y129 y130 y131 y132 y133 y134 y135 y136 y137 y138 y139 y140 y141 y142 y143 y144 y145 y146 y147 y148 y149 y150 y151 y152 y153 y154 y155 y156 y157 y158 y159 y160 y161 y162 y163 y164 y165 y166 y167 y168 y169 y170 y171 y172 y173 y174 y175 y176 y177 y178 y179 y180 y181 y182 y183 y184 y185 y186 y187 y188 y189 y190 y191 y192 y193 y194 y195 y196 y197 y198 y199 y200 y201 y202 y203 y204 y205 y206 y207 y208 y209 y210 y211 y212 y213 y214 y215 y216 y217 y218 y219 y220 y221 y222 y223 y224 y225 y226 y227 y228 y229 y230 y231 y232 y233 y234 y235 y236 y237 y238 y239 y240 y241 y242 y243 y244 y245 y246 y247 y248 y249 y250 y251 y252 y253 : Value} (hc : Try.f7.body.bind (findG 27) = some cod)
    (dns : 0 < ns) (hx : KnIn x) (hy : KnIn y) (HK : ∀ w', Below W.heap.size W w' → w'.cell? ⟨q1, 0, none⟩ = some (.int .i64 x.i.N) ∧ w'.cell? ⟨q1, 1, none⟩ = some (.int .i64 x.i.D) ∧ w'.cell? ⟨q1, 2, none⟩ = some (.int .i64 x.o.N) ∧ w'.cell? ⟨q1, 3, none⟩ = some (.int .i64 x.o.D) ∧ w'.cell? ⟨q2, 0, none⟩ = some (.int .i64 y.i.N) ∧ w'.cell? ⟨q2, 1, none⟩ = some (.int .i64 y.i.D) ∧ w'.cell? ⟨q2, 2, none⟩ = some (.int .i64 y.o.N) ∧ w'.cell? ⟨q2, 3, none⟩ = some (.int .i64 y.o.D) ∧ w'.cell? ⟨gs, 0, none⟩ = some (.int .i64 s0.N) ∧ w'.cell? ⟨gs, 1, none⟩ = some (.int .i64 s0.D))
    (hQ : ∀ (z112 z113 z114 z115 z116 z117 z118 z119 z120 z121 z122 z123 p : Value) (er : Int) (B : Nat) (X : World), W.heap.size ≤ B → OwnS X B [x, y] [s0] p er → Below W.heap.size W X → Q .normal ⟨#[y0, y1, p, .int .i64 er, y4, .slice (some ⟨gs, 0, none⟩) ns cs, y6, y7, y8, y9, y10, .pointer (some ⟨q1, 0, none⟩), y12, .pointer (some ⟨q2, 0, none⟩), y14, y15, y16, y17, y18, y19, y20, y21, y22, y23, y24, y25, y26, y27, y28, y29, y30, y31, y32, y33, y34, y35, y36, y37, y38, y39, y40, y41, y42, y43, y44, y45, y46, y47, y48, y49, y50, y51, y52, y53, y54, y55, y56, y57, y58, y59, y60, y61, y62, y63, y64, y65, y66, y67, y68, y69, y70, y71, y72, y73, y74, y75, y76, y77, y78, y79, y80, y81, y82, y83, y84, y85, y86, y87, y88, y89, y90, y91, y92, y93, y94, y95, y96, y97, y98, y99, y100, y101, y102, y103, y104, y105, y106, y107, y108, y109, y110, y111, z112, z113, z114, z115, z116, z117, z118, z119, z120, z121, z122, z123, y124, y125, y126, y127, y128, y129, y130, y131, y132, y133, y134, y135, y136, y137, y138, y139, y140, y141, y142, y143, y144, y145, y146, y147, y148, y149, y150, y151, y152, y153, y154, y155, y156, y157, y158, y159, y160, y161, y162, y163, y164, y165, y166, y167, y168, y169, y170, y171, y172, y173, y174, y175, y176, y177, y178, y179, y180, y181, y182, y183, y184, y185, y186, y187, y188, y189, y190, y191, y192, y193, y194, y195, y196, y197, y198, y199, y200, y201, y202, y203, y204, y205, y206, y207, y208, y209, y210, y211, y212, y213, y214, y215, y216, y217, y218, y219, y220, y221, y222, y223, y224, y225, y226, y227, y228, y229, y230, y231, y232, y233, y234, y235, y236, y237, y238, y239, y240, y241, y242, y243, y244, y245, y246, y247, y248, y249, y250, y251, y252, y253], df⟩ X) :
    cod.wp Try.prog Q ⟨#[y0, y1, y2, y3, y4, .slice (some ⟨gs, 0, none⟩) ns cs, y6, y7, y8, y9, y10, .pointer (some ⟨q1, 0, none⟩), y12, .pointer (some ⟨q2, 0, none⟩), y14, y15, y16, y17, y18, y19, y20, y21, y22, y23, y24, y25, y26, y27, y28, y29, y30, y31, y32, y33, y34, y35, y36, y37, y38, y39, y40, y41, y42, y43, y44, y45, y46, y47, y48, y49, y50, y51, y52, y53, y54, y55, y56, y57, y58, y59, y60, y61, y62, y63, y64, y65, y66, y67, y68, y69, y70, y71, y72, y73, y74, y75, y76, y77, y78, y79, y80, y81, y82, y83, y84, y85, y86, y87, y88, y89, y90, y91, y92, y93, y94, y95, y96, y97, y98, y99, y100, y101, y102, y103, y104, y105, y106, y107, y108, y109, y110, y111, y112, y113, y114, y115, y116, y117, y118, y119, y120, y121, y122, y123, y124, y125, y126, y127, y128, y129, y130, y131, y132, y133, y134, y135, y136, y137, y138, y139, y140, y141, y142, y143, y144, y145, y146, y147, y148, y149, y150, y151, y152, y153, y154, y155, y156, y157, y158, y159, y160, y161, y162, y163, y164, y165, y166, y167, y168, y169, y170, y171, y172, y173, y174, y175, y176, y177, y178, y179, y180, y181, y182, y183, y184, y185, y186, y187, y188, y189, y190, y191, y192, y193, y194, y195, y196, y197, y198, y199, y200, y201, y202, y203, y204, y205, y206, y207, y208, y209, y210, y211, y212, y213, y214, y215, y216, y217, y218, y219, y220, y221, y222, y223, y224, y225, y226, y227, y228, y229, y230, y231, y232, y233, y234, y235, y236, y237, y238, y239, y240, y241, y242, y243, y244, y245, y246, y247, y248, y249, y250, y251, y252, y253], df⟩ W := by
  suffices hS : ∃ co : Code, (Try.f7.body.bind (findG 27)) = some co ∧ co.wp Try.prog Q ⟨#[y0, y1, y2, y3, y4, .slice (some ⟨gs, 0, none⟩) ns cs, y6, y7, y8, y9, y10, .pointer (some ⟨q1, 0, none⟩), y12, .pointer (some ⟨q2, 0, none⟩), y14, y15, y16, y17, y18, y19, y20, y21, y22, y23, y24, y25, y26, y27, y28, y29, y30, y31, y32, y33, y34, y35, y36, y37, y38, y39, y40, y41, y42, y43, y44, y45, y46, y47, y48, y49, y50, y51, y52, y53, y54, y55, y56, y57, y58, y59, y60, y61, y62, y63, y64, y65, y66, y67, y68, y69, y70, y71, y72, y73, y74, y75, y76, y77, y78, y79, y80, y81, y82, y83, y84, y85, y86, y87, y88, y89, y90, y91, y92, y93, y94, y95, y96, y97, y98, y99, y100, y101, y102, y103, y104, y105, y106, y107, y108, y109, y110, y111, y112, y113, y114, y115, y116, y117, y118, y119, y120, y121, y122, y123, y124, y125, y126, y127, y128, y129, y130, y131, y132, y133, y134, y135, y136, y137, y138, y139, y140, y141, y142, y143, y144, y145, y146, y147, y148, y149, y150, y151, y152, y153, y154, y155, y156, y157, y158, y159, y160, y161, y162, y163, y164, y165, y166, y167, y168, y169, y170, y171, y172, y173, y174, y175, y176, y177, y178, y179, y180, y181, y182, y183, y184, y185, y186, y187, y188, y189, y190, y191, y192, y193, y194, y195, y196, y197, y198, y199, y200, y201, y202, y203, y204, y205, y206, y207, y208, y209, y210, y211, y212, y213, y214, y215, y216, y217, y218, y219, y220, y221, y222, y223, y224, y225, y226, y227, y228, y229, y230, y231, y232, y233, y234, y235, y236, y237, y238, y239, y240, y241, y242, y243, y244, y245, y246, y247, y248, y249, y250, y251, y252, y253], df⟩ W by
    obtain ⟨c2, h1, h2⟩ := hS
    rw [hc] at h1
    cases h1
    exact h2
  clear hc
  refine ⟨_, rfl, ?_⟩
  have HO := hideK (fun (B : Nat) (V : World) (hM : RMapAt V B [x, y] [s0]) => rown_s [x, y] [s0] B (fun z hz => by simp at hz; rcases hz with rfl | rfl <;> assumption) (by simp) V hM)
  replace hQ := hideK hQ
  replace HK := hideK HK
  obtain ⟨a0, a1, a2, a3, b0, b1, b2, b3, k0, k1⟩ := HK.out W (Below.refl _ _)
  dsimp only [List.append]
  go_region_held3 (fun w' => w'.cell? ⟨q1, 0, none⟩ = some (.int .i64 x.i.N) ∧ w'.cell? ⟨q1, 1, none⟩ = some (.int .i64 x.i.D) ∧ w'.cell? ⟨q1, 2, none⟩ = some (.int .i64 x.o.N) ∧ w'.cell? ⟨q1, 3, none⟩ = some (.int .i64 x.o.D) ∧ w'.cell? ⟨q2, 0, none⟩ = some (.int .i64 y.i.N) ∧ w'.cell? ⟨q2, 1, none⟩ = some (.int .i64 y.i.D) ∧ w'.cell? ⟨q2, 2, none⟩ = some (.int .i64 y.o.N) ∧ w'.cell? ⟨q2, 3, none⟩ = some (.int .i64 y.o.D) ∧ w'.cell? ⟨gs, 0, none⟩ = some (.int .i64 s0.N) ∧ w'.cell? ⟨gs, 1, none⟩ = some (.int .i64 s0.D)) (first | assumption | exact HK.out _ ((Below.refl _ _).drew) | exact HK.out _ (bel1 _ _) | exact HK.out _ ((bel1 _ _).drew) | exact HK.out _ (bup (bel1 _ _) (bel1 _ _)) | exact HK.out _ ((bup (bel1 _ _) (bel1 _ _)).drew) | exact HK.out _ (bup (bup (bel1 _ _) (bel1 _ _)) (bel1 _ _)) | exact HK.out _ ((bup (bup (bel1 _ _) (bel1 _ _)) (bel1 _ _)).drew) | go_keep) (first
    | (go_at_call 30; (with_reducible refine Calls.mono (HO.out _ _ (by first | exact map_a W x y s0 | exact map_b W x y s0 | exact (map_a W x y s0).keep ((Below.refl _ _).drew) | exact (map_b W x y s0).keep ((Below.refl _ _).drew) | exact map_a W.drew x y s0 | exact map_b W.drew x y s0)) ?_); rintro e v5 ⟨p, er, rfl, hS, b5⟩; have c5 : Below W.heap.size W v5 := (by first | exact bup (bup (bup (bel1 _ _) (bel1 _ _)) (bel1 _ _)) b5 | exact bup (bup (bup (bel1 _ _) (bel1 _ _)) (bel1 _ _)).drew b5 | exact bup (bup (bup (bup (Below.refl _ W).drew (bel1 W.drew _)) (bel1 _ _)) (bel1 _ _)) b5); obtain ⟨e0, e1, e2, e3, g0, g1, g2, g3, h0, h1⟩ := HK.out _ c5))
  all_goals exact hQ.out _ _ _ _ _ _ _ _ _ _ _ _ p er (W.heap.size + 1 + 1) v5 (by omega) hS c5
end Go.Proofs.Ytipnefaggpigfaa

/- The reference's New: the knots ahead of the first bend and behind the last one (chapter 6), over letters. -/
namespace Go.Proofs.Ytipnefaggpigfaa
open Go.RowKit Go.Shelf

set_option maxRecDepth 100000 in
set_option maxHeartbeats 4000000 in
theorem regG33 {cod : Code} {Q : Exit → Act → World → Prop} {df : List Deferred} {W : World} {A : Addr} {gs n c ns cs i k qt : Nat} {a : Kn} {s0 t : Rt} {r : Rt × Int} {y1 y2 y3 y4 y6 y7 y8 y9 y10 y11 y12 y13 y15 y17 y18 y19 y20 y21 y22 y23 y24 y25 y26 y27 y28 y29 y30 y31 y32 y33 y34 y35 y36 y37 y38 y39 y40 y41 y42 y43 y44 y45 y46 y47 y48 y49 y50 y51 y52 y53 y54 y55 y56 y57 y58 y59 y60 y61 y62 y63 y64 y65 y66 y67 y68 y69 y70 y71 y72 y73 y74 y75 y76 y77 y78 y79 y80 y81 y82 y83 y84 y85 y86 y87 y88 y89 y90 y91 y92 y93 y94 y95 y96 y97 y98 y99 y100 y101 y102 y103 y104 y105 y106 y107 y108 y109 y110 y111 y112 y113 y114 y115 y116 y117 y118 y119 y120 y121 y122 y123 y124 y125 y126 y127 y128 y129 y130 y131 y132 y133 y134 y135 y136 y137 y138 y139 y140 y141 y142 y143 y144 y145 y146 y147 y148 y149 y150 y151 y152 y153 y154 y155 y156 y157 y158 y159 y160 y161 y162 y163 y164 y165 y166 y167 y168 y169 y170 y171 y172 y173 y174 y175 y176 y177 y178 y179 y180 y181 y182 y183 y184 y185 y186 y187 y188 y189 y190 y191 y192 y193 y194 y195 y196 y197 y198 y199 y200 y201 y202 y203 y204 y205 y206 y207 y208 y209 y210 y211 y212 y213 y214 y215 y216 y217 y218 y219 y220 y221 y222 y223 y224 y225 y226 y227 y228 y229 y230 y231 y232 y233 y234 y235 y236 y237 y238 y239 y240 y241 y242 y243 y244 y245 y246 y247 y248 y249 y250 y251 y252 y253 : Value} (hc : Try.f7.body.bind (findG 33) = some cod)
    (dn : (i : Int) < (n : Int)) (dns : (k : Int) < (ns : Int)) (wj : IntKind.i64.wrap ((i : Int) - 1) = (k : Int)) (HK : ∀ w', Below W.heap.size W w' → w'.cell? (A.add (i * 4)) = some (.int .i64 a.i.N) ∧ w'.cell? ⟨(A.add (i * 4)).block, (A.add (i * 4)).off + 1, none⟩ = some (.int .i64 a.i.D) ∧ w'.cell? ⟨(A.add (i * 4)).block, (A.add (i * 4)).off + 2, none⟩ = some (.int .i64 a.o.N) ∧ w'.cell? ⟨(A.add (i * 4)).block, (A.add (i * 4)).off + 3, none⟩ = some (.int .i64 a.o.D) ∧ w'.cell? ⟨gs, k * 2, none⟩ = some (.int .i64 s0.N) ∧ w'.cell? ⟨gs, k * 2 + 1, none⟩ = some (.int .i64 s0.D) ∧ w'.cell? ⟨qt, 0, none⟩ = some (.int .i64 t.N) ∧ w'.cell? ⟨qt, 1, none⟩ = some (.int .i64 t.D))
    (HA : ∀ V : World, Calls Try.prog 28 #[.agg #[.int .i64 a.i.N, .int .i64 a.i.D, .int .i64 a.o.N, .int .i64 a.o.D], .agg #[.int .i64 s0.N, .int .i64 s0.D], .agg #[.int .i64 t.N, .int .i64 t.D]] V fun e w' => e = .returned (.tuple #[.agg #[.int .i64 t.N, .int .i64 t.D, .int .i64 r.1.N, .int .i64 r.1.D], .int .i64 r.2]) ∧ Below V.heap.size V w')
    (hQ : ∀ (z146 z147 z148 z149 z150 z151 z152 z153 z154 z155 z156 z157 z158 z159 : Value) (q : Nat) (X : World), W.heap.size ≤ q → Four X q (.int .i64 t.N) (.int .i64 t.D) (.int .i64 r.1.N) (.int .i64 r.1.D) → Below W.heap.size W X → Q .normal ⟨#[.slice (some A) n c, y1, y2, y3, y4, .slice (some ⟨gs, 0, none⟩) ns cs, y6, y7, y8, y9, y10, y11, y12, y13, .int .i64 (i : Nat), y15, .pointer (some ⟨qt, 0, none⟩), .int .i64 r.2, .pointer (some ⟨q, 0, none⟩), y19, y20, y21, y22, y23, y24, y25, y26, y27, y28, y29, y30, y31, y32, y33, y34, y35, y36, y37, y38, y39, y40, y41, y42, y43, y44, y45, y46, y47, y48, y49, y50, y51, y52, y53, y54, y55, y56, y57, y58, y59, y60, y61, y62, y63, y64, y65, y66, y67, y68, y69, y70, y71, y72, y73, y74, y75, y76, y77, y78, y79, y80, y81, y82, y83, y84, y85, y86, y87, y88, y89, y90, y91, y92, y93, y94, y95, y96, y97, y98, y99, y100, y101, y102, y103, y104, y105, y106, y107, y108, y109, y110, y111, y112, y113, y114, y115, y116, y117, y118, y119, y120, y121, y122, y123, y124, y125, y126, y127, y128, y129, y130, y131, y132, y133, y134, y135, y136, y137, y138, y139, y140, y141, y142, y143, y144, y145, z146, z147, z148, z149, z150, z151, z152, z153, z154, z155, z156, z157, z158, z159, y160, y161, y162, y163, y164, y165, y166, y167, y168, y169, y170, y171, y172, y173, y174, y175, y176, y177, y178, y179, y180, y181, y182, y183, y184, y185, y186, y187, y188, y189, y190, y191, y192, y193, y194, y195, y196, y197, y198, y199, y200, y201, y202, y203, y204, y205, y206, y207, y208, y209, y210, y211, y212, y213, y214, y215, y216, y217, y218, y219, y220, y221, y222, y223, y224, y225, y226, y227, y228, y229, y230, y231, y232, y233, y234, y235, y236, y237, y238, y239, y240, y241, y242, y243, y244, y245, y246, y247, y248, y249, y250, y251, y252, y253], df⟩ X) :
    cod.wp Try.prog Q ⟨#[.slice (some A) n c, y1, y2, y3, y4, .slice (some ⟨gs, 0, none⟩) ns cs, y6, y7, y8, y9, y10, y11, y12, y13, .int .i64 (i : Nat), y15, .pointer (some ⟨qt, 0, none⟩), y17, y18, y19, y20, y21, y22, y23, y24, y25, y26, y27, y28, y29, y30, y31, y32, y33, y34, y35, y36, y37, y38, y39, y40, y41, y42, y43, y44, y45, y46, y47, y48, y49, y50, y51, y52, y53, y54, y55, y56, y57, y58, y59, y60, y61, y62, y63, y64, y65, y66, y67, y68, y69, y70, y71, y72, y73, y74, y75, y76, y77, y78, y79, y80, y81, y82, y83, y84, y85, y86, y87, y88, y89, y90, y91, y92, y93, y94, y95, y96, y97, y98, y99, y100, y101, y102, y103, y104, y105, y106, y107, y108, y109, y110, y111, y112, y113, y114, y115, y116, y117, y118, y119, y120, y121, y122, y123, y124, y125, y126, y127, y128, y129, y130, y131, y132, y133, y134, y135, y136, y137, y138, y139, y140, y141, y142, y143, y144, y145, y146, y147, y148, y149, y150, y151, y152, y153, y154, y155, y156, y157, y158, y159, y160, y161, y162, y163, y164, y165, y166, y167, y168, y169, y170, y171, y172, y173, y174, y175, y176, y177, y178, y179, y180, y181, y182, y183, y184, y185, y186, y187, y188, y189, y190, y191, y192, y193, y194, y195, y196, y197, y198, y199, y200, y201, y202, y203, y204, y205, y206, y207, y208, y209, y210, y211, y212, y213, y214, y215, y216, y217, y218, y219, y220, y221, y222, y223, y224, y225, y226, y227, y228, y229, y230, y231, y232, y233, y234, y235, y236, y237, y238, y239, y240, y241, y242, y243, y244, y245, y246, y247, y248, y249, y250, y251, y252, y253], df⟩ W := by
  suffices hS : ∃ co : Code, (Try.f7.body.bind (findG 33)) = some co ∧ co.wp Try.prog Q ⟨#[.slice (some A) n c, y1, y2, y3, y4, .slice (some ⟨gs, 0, none⟩) ns cs, y6, y7, y8, y9, y10, y11, y12, y13, .int .i64 (i : Nat), y15, .pointer (some ⟨qt, 0, none⟩), y17, y18, y19, y20, y21, y22, y23, y24, y25, y26, y27, y28, y29, y30, y31, y32, y33, y34, y35, y36, y37, y38, y39, y40, y41, y42, y43, y44, y45, y46, y47, y48, y49, y50, y51, y52, y53, y54, y55, y56, y57, y58, y59, y60, y61, y62, y63, y64, y65, y66, y67, y68, y69, y70, y71, y72, y73, y74, y75, y76, y77, y78, y79, y80, y81, y82, y83, y84, y85, y86, y87, y88, y89, y90, y91, y92, y93, y94, y95, y96, y97, y98, y99, y100, y101, y102, y103, y104, y105, y106, y107, y108, y109, y110, y111, y112, y113, y114, y115, y116, y117, y118, y119, y120, y121, y122, y123, y124, y125, y126, y127, y128, y129, y130, y131, y132, y133, y134, y135, y136, y137, y138, y139, y140, y141, y142, y143, y144, y145, y146, y147, y148, y149, y150, y151, y152, y153, y154, y155, y156, y157, y158, y159, y160, y161, y162, y163, y164, y165, y166, y167, y168, y169, y170, y171, y172, y173, y174, y175, y176, y177, y178, y179, y180, y181, y182, y183, y184, y185, y186, y187, y188, y189, y190, y191, y192, y193, y194, y195, y196, y197, y198, y199, y200, y201, y202, y203, y204, y205, y206, y207, y208, y209, y210, y211, y212, y213, y214, y215, y216, y217, y218, y219, y220, y221, y222, y223, y224, y225, y226, y227, y228, y229, y230, y231, y232, y233, y234, y235, y236, y237, y238, y239, y240, y241, y242, y243, y244, y245, y246, y247, y248, y249, y250, y251, y252, y253], df⟩ W by
    obtain ⟨c2, h1, h2⟩ := hS
    rw [hc] at h1
    cases h1
    exact h2
  clear hc
  refine ⟨_, rfl, ?_⟩
  replace hQ := hideK hQ
  replace HK := hideK HK
  dsimp only [List.append]
  replace HA := hideK HA
  obtain ⟨a0, a1, a2, a3, k0, k1, t0, t1⟩ := HK.out W (Below.refl _ _)
  go_region_held3 (fun w' => w'.cell? (A.add (i * 4)) = some (.int .i64 a.i.N) ∧ w'.cell? ⟨(A.add (i * 4)).block, (A.add (i * 4)).off + 1, none⟩ = some (.int .i64 a.i.D) ∧ w'.cell? ⟨(A.add (i * 4)).block, (A.add (i * 4)).off + 2, none⟩ = some (.int .i64 a.o.N) ∧ w'.cell? ⟨(A.add (i * 4)).block, (A.add (i * 4)).off + 3, none⟩ = some (.int .i64 a.o.D) ∧ w'.cell? ⟨gs, k * 2, none⟩ = some (.int .i64 s0.N) ∧ w'.cell? ⟨gs, k * 2 + 1, none⟩ = some (.int .i64 s0.D) ∧ w'.cell? ⟨qt, 0, none⟩ = some (.int .i64 t.N) ∧ w'.cell? ⟨qt, 1, none⟩ = some (.int .i64 t.D)) (first | assumption | exact HK.out _ ((Below.refl _ _).drew) | exact HK.out _ (bel1 _ _) | exact HK.out _ ((bel1 _ _).drew) | exact HK.out _ (bup (Below.refl _ _).drew (bel1 _ _)) | exact HK.out _ c4 | exact HK.out _ (bup c4 (bel1 _ _)) | exact HK.out _ c5 | exact HK.out _ (bup c5 (bel1 _ _)) | exact HK.out _ ((((c5.setCell (by first | exact Nat.le_refl _ | exact z5 | (simp; omega)) _).setCell (by first | exact Nat.le_refl _ | exact z5 | (simp; omega)) _).setCell (by first | exact Nat.le_refl _ | exact z5 | (simp; omega)) _).setCell (by first | exact Nat.le_refl _ | exact z5 | (simp; omega)) _) | exact HK.out _ (((((bup c5 (bel1 _ _)).setCell (by first | exact Nat.le_refl _ | exact z5 | (simp; omega)) _).setCell (by first | exact Nat.le_refl _ | exact z5 | (simp; omega)) _).setCell (by first | exact Nat.le_refl _ | exact z5 | (simp; omega)) _).setCell (by first | exact Nat.le_refl _ | exact z5 | (simp; omega)) _) | go_keep) (first
    | (go_at_call 28; (with_reducible refine Calls.mono (HA.out _) ?_); rintro e v5 ⟨rfl, b5⟩; (first
        | (have c5 : Below W.heap.size W v5 := (Below.refl W.heap.size W).drew.trans b5)
        | (have c5 : Below W.heap.size W v5 := bup (bup (Below.refl _ W).drew (bel1 W.drew _)) b5; have T5 : Hid (Four v5 W.heap.size (.int .i64 0) (.int .i64 0) (.int .i64 0) (.int .i64 0)) := hideK ((Four.new W.drew _ _ _ _ 45).keep b5); obtain ⟨_, g0, g1, g2, g3, h0, h1, h2, h3⟩ := T5.out)); have z5 := c5.size; obtain ⟨m0, m1, m2, m3, m4, m5, m6, m7⟩ := HK.out _ c5))
  · exact hQ.out _ _ _ _ _ _ _ _ _ _ _ _ _ _ v5.heap.size _ z5 (Four.new v5 _ _ _ _ _) (bup c5 (bel1 _ _))
  · exact hQ.out _ _ _ _ _ _ _ _ _ _ _ _ _ _ W.heap.size _ (Nat.le_refl _) T5.out.set ((((c5.setCell (Nat.le_refl _) _).setCell (Nat.le_refl _) _).setCell (Nat.le_refl _) _).setCell (Nat.le_refl _) _)
set_option maxRecDepth 100000 in
set_option maxHeartbeats 4000000 in
theorem regG39 {cod : Code} {Q : Exit → Act → World → Prop} {df : List Deferred} {W : World} {A : Addr} {gs n c ns cs i qt : Nat} {a : Kn} {s0 t : Rt} {r : Rt × Int} {y1 y2 y3 y4 y6 y7 y8 y9 y10 y11 y12 y13 y14 y17 y18 y19 y20 y21 y22 y23 y24 y25 y26 y27 y28 y29 y30 y31 y32 y33 y34 y35 y36 y37 y38 y39 y40 y41 y42 y43 y44 y45 y46 y47 y48 y49 y50 y51 y52 y53 y54 y55 y56 y57 y58 y59 y60 y61 y62 y63 y64 y65 y66 y67 y68 y69 y70 y71 y72 y73 y74 y75 y76 y77 y78 y79 y80 y81 y82 y83 y84 y85 y86 y87 y88 y89 y90 y91 y92 y93 y94 y95 y96 y97 y98 y99 y100 y101 y102 y103 y104 y105 y106 y107 y108 y109 y110 y111 y112 y113 y114 y115 y116 y117 y118 y119 y120 y121 y122 y123 y124 y125 y126 y127 y128 y129 y130 y131 y132 y133 y134 y135 y136 y137 y138 y139 y140 y141 y142 y143 y144 y145 y146 y147 y148 y149 y150 y151 y152 y153 y154 y155 y156 y157 y158 y159 y160 y161 y162 y163 y164 y165 y166 y167 y168 y169 y170 y171 y172 y173 y174 y175 y176 y177 y178 y179 y180 y181 y182 y183 y184 y185 y186 y187 y188 y189 y190 y191 y192 y193 y194 y195 y196 y197 y198 y199 y200 y201 y202 y203 y204 y205 y206 y207 y208 y209 y210 y211 y212 y213 y214 y215 y216 y217 y218 y219 y220 y221 y222 y223 y224 y225 y226 y227 y228 y229 y230 y231 y232 y233 y234 y235 y236 y237 y238 y239 y240 y241 y242 y243 y244 y245 y246 y247 y248 y249 y250 y251 y252 y253 : Value} (hc : Try.f7.body.bind (findG 39) = some cod)
    (dn : (i : Int) < (n : Int)) (dns : (i : Int) < (ns : Int)) (HK : ∀ w', Below W.heap.size W w' → w'.cell? (A.add (i * 4)) = some (.int .i64 a.i.N) ∧ w'.cell? ⟨(A.add (i * 4)).block, (A.add (i * 4)).off + 1, none⟩ = some (.int .i64 a.i.D) ∧ w'.cell? ⟨(A.add (i * 4)).block, (A.add (i * 4)).off + 2, none⟩ = some (.int .i64 a.o.N) ∧ w'.cell? ⟨(A.add (i * 4)).block, (A.add (i * 4)).off + 3, none⟩ = some (.int .i64 a.o.D) ∧ w'.cell? ⟨gs, i * 2, none⟩ = some (.int .i64 s0.N) ∧ w'.cell? ⟨gs, i * 2 + 1, none⟩ = some (.int .i64 s0.D) ∧ w'.cell? ⟨qt, 0, none⟩ = some (.int .i64 t.N) ∧ w'.cell? ⟨qt, 1, none⟩ = some (.int .i64 t.D))
    (HA : ∀ V : World, Calls Try.prog 28 #[.agg #[.int .i64 a.i.N, .int .i64 a.i.D, .int .i64 a.o.N, .int .i64 a.o.D], .agg #[.int .i64 s0.N, .int .i64 s0.D], .agg #[.int .i64 t.N, .int .i64 t.D]] V fun e w' => e = .returned (.tuple #[.agg #[.int .i64 t.N, .int .i64 t.D, .int .i64 r.1.N, .int .i64 r.1.D], .int .i64 r.2]) ∧ Below V.heap.size V w')
    (hQ : ∀ (z176 z177 z178 z179 z180 z181 z182 z183 z184 z185 z186 z187 z188 : Value) (q : Nat) (X : World), W.heap.size ≤ q → Four X q (.int .i64 t.N) (.int .i64 t.D) (.int .i64 r.1.N) (.int .i64 r.1.D) → Below W.heap.size W X → Q .normal ⟨#[.slice (some A) n c, y1, y2, y3, y4, .slice (some ⟨gs, 0, none⟩) ns cs, y6, y7, y8, y9, y10, y11, y12, y13, y14, .int .i64 (i : Nat), .pointer (some ⟨qt, 0, none⟩), .int .i64 r.2, y18, .pointer (some ⟨q, 0, none⟩), y20, y21, y22, y23, y24, y25, y26, y27, y28, y29, y30, y31, y32, y33, y34, y35, y36, y37, y38, y39, y40, y41, y42, y43, y44, y45, y46, y47, y48, y49, y50, y51, y52, y53, y54, y55, y56, y57, y58, y59, y60, y61, y62, y63, y64, y65, y66, y67, y68, y69, y70, y71, y72, y73, y74, y75, y76, y77, y78, y79, y80, y81, y82, y83, y84, y85, y86, y87, y88, y89, y90, y91, y92, y93, y94, y95, y96, y97, y98, y99, y100, y101, y102, y103, y104, y105, y106, y107, y108, y109, y110, y111, y112, y113, y114, y115, y116, y117, y118, y119, y120, y121, y122, y123, y124, y125, y126, y127, y128, y129, y130, y131, y132, y133, y134, y135, y136, y137, y138, y139, y140, y141, y142, y143, y144, y145, y146, y147, y148, y149, y150, y151, y152, y153, y154, y155, y156, y157, y158, y159, y160, y161, y162, y163, y164, y165, y166, y167, y168, y169, y170, y171, y172, y173, y174, y175, z176, z177, z178, z179, z180, z181, z182, z183, z184, z185, z186, z187, z188, y189, y190, y191, y192, y193, y194, y195, y196, y197, y198, y199, y200, y201, y202, y203, y204, y205, y206, y207, y208, y209, y210, y211, y212, y213, y214, y215, y216, y217, y218, y219, y220, y221, y222, y223, y224, y225, y226, y227, y228, y229, y230, y231, y232, y233, y234, y235, y236, y237, y238, y239, y240, y241, y242, y243, y244, y245, y246, y247, y248, y249, y250, y251, y252, y253], df⟩ X) :
    cod.wp Try.prog Q ⟨#[.slice (some A) n c, y1, y2, y3, y4, .slice (some ⟨gs, 0, none⟩) ns cs, y6, y7, y8, y9, y10, y11, y12, y13, y14, .int .i64 (i : Nat), .pointer (some ⟨qt, 0, none⟩), y17, y18, y19, y20, y21, y22, y23, y24, y25, y26, y27, y28, y29, y30, y31, y32, y33, y34, y35, y36, y37, y38, y39, y40, y41, y42, y43, y44, y45, y46, y47, y48, y49, y50, y51, y52, y53, y54, y55, y56, y57, y58, y59, y60, y61, y62, y63, y64, y65, y66, y67, y68, y69, y70, y71, y72, y73, y74, y75, y76, y77, y78, y79, y80, y81, y82, y83, y84, y85, y86, y87, y88, y89, y90, y91, y92, y93, y94, y95, y96, y97, y98, y99, y100, y101, y102, y103, y104, y105, y106, y107, y108, y109, y110, y111, y112, y113, y114, y115, y116, y117, y118, y119, y120, y121, y122, y123, y124, y125, y126, y127, y128, y129, y130, y131, y132, y133, y134, y135, y136, y137, y138, y139, y140, y141, y142, y143, y144, y145, y146, y147, y148, y149, y150, y151, y152, y153, y154, y155, y156, y157, y158, y159, y160, y161, y162, y163, y164, y165, y166, y167, y168, y169, y170, y171, y172, y173, y174, y175, y176, y177, y178, y179, y180, y181, y182, y183, y184, y185, y186, y187, y188, y189, y190, y191, y192, y193, y194, y195, y196, y197, y198, y199, y200, y201, y202, y203, y204, y205, y206, y207, y208, y209, y210, y211, y212, y213, y214, y215, y216, y217, y218, y219, y220, y221, y222, y223, y224, y225, y226, y227, y228, y229, y230, y231, y232, y233, y234, y235, y236, y237, y238, y239, y240, y241, y242, y243, y244, y245, y246, y247, y248, y249, y250, y251, y252, y253], df⟩ W := by
  suffices hS : ∃ co : Code, (Try.f7.body.bind (findG 39)) = some co ∧ co.wp Try.prog Q ⟨#[.slice (some A) n c, y1, y2, y3, y4, .slice (some ⟨gs, 0, none⟩) ns cs, y6, y7, y8, y9, y10, y11, y12, y13, y14, .int .i64 (i : Nat), .pointer (some ⟨qt, 0, none⟩), y17, y18, y19, y20, y21, y22, y23, y24, y25, y26, y27, y28, y29, y30, y31, y32, y33, y34, y35, y36, y37, y38, y39, y40, y41, y42, y43, y44, y45, y46, y47, y48, y49, y50, y51, y52, y53, y54, y55, y56, y57, y58, y59, y60, y61, y62, y63, y64, y65, y66, y67, y68, y69, y70, y71, y72, y73, y74, y75, y76, y77, y78, y79, y80, y81, y82, y83, y84, y85, y86, y87, y88, y89, y90, y91, y92, y93, y94, y95, y96, y97, y98, y99, y100, y101, y102, y103, y104, y105, y106, y107, y108, y109, y110, y111, y112, y113, y114, y115, y116, y117, y118, y119, y120, y121, y122, y123, y124, y125, y126, y127, y128, y129, y130, y131, y132, y133, y134, y135, y136, y137, y138, y139, y140, y141, y142, y143, y144, y145, y146, y147, y148, y149, y150, y151, y152, y153, y154, y155, y156, y157, y158, y159, y160, y161, y162, y163, y164, y165, y166, y167, y168, y169, y170, y171, y172, y173, y174, y175, y176, y177, y178, y179, y180, y181, y182, y183, y184, y185, y186, y187, y188, y189, y190, y191, y192, y193, y194, y195, y196, y197, y198, y199, y200, y201, y202, y203, y204, y205, y206, y207, y208, y209, y210, y211, y212, y213, y214, y215, y216, y217, y218, y219, y220, y221, y222, y223, y224, y225, y226, y227, y228, y229, y230, y231, y232, y233, y234, y235, y236, y237, y238, y239, y240, y241, y242, y243, y244, y245, y246, y247, y248, y249, y250, y251, y252, y253], df⟩ W by
    obtain ⟨c2, h1, h2⟩ := hS
    rw [hc] at h1
    cases h1
    exact h2
  clear hc
  refine ⟨_, rfl, ?_⟩
  replace hQ := hideK hQ
  replace HK := hideK HK
  dsimp only [List.append]
  replace HA := hideK HA
  obtain ⟨a0, a1, a2, a3, k0, k1, t0, t1⟩ := HK.out W (Below.refl _ _)
  go_region_held3 (fun w' => w'.cell? (A.add (i * 4)) = some (.int .i64 a.i.N) ∧ w'.cell? ⟨(A.add (i * 4)).block, (A.add (i * 4)).off + 1, none⟩ = some (.int .i64 a.i.D) ∧ w'.cell? ⟨(A.add (i * 4)).block, (A.add (i * 4)).off + 2, none⟩ = some (.int .i64 a.o.N) ∧ w'.cell? ⟨(A.add (i * 4)).block, (A.add (i * 4)).off + 3, none⟩ = some (.int .i64 a.o.D) ∧ w'.cell? ⟨gs, i * 2, none⟩ = some (.int .i64 s0.N) ∧ w'.cell? ⟨gs, i * 2 + 1, none⟩ = some (.int .i64 s0.D) ∧ w'.cell? ⟨qt, 0, none⟩ = some (.int .i64 t.N) ∧ w'.cell? ⟨qt, 1, none⟩ = some (.int .i64 t.D)) (first | assumption | exact HK.out _ ((Below.refl _ _).drew) | exact HK.out _ (bel1 _ _) | exact HK.out _ ((bel1 _ _).drew) | exact HK.out _ (bup (Below.refl _ _).drew (bel1 _ _)) | exact HK.out _ c4 | exact HK.out _ (bup c4 (bel1 _ _)) | exact HK.out _ c5 | exact HK.out _ (bup c5 (bel1 _ _)) | exact HK.out _ ((((c5.setCell (by first | exact Nat.le_refl _ | exact z5 | (simp; omega)) _).setCell (by first | exact Nat.le_refl _ | exact z5 | (simp; omega)) _).setCell (by first | exact Nat.le_refl _ | exact z5 | (simp; omega)) _).setCell (by first | exact Nat.le_refl _ | exact z5 | (simp; omega)) _) | exact HK.out _ (((((bup c5 (bel1 _ _)).setCell (by first | exact Nat.le_refl _ | exact z5 | (simp; omega)) _).setCell (by first | exact Nat.le_refl _ | exact z5 | (simp; omega)) _).setCell (by first | exact Nat.le_refl _ | exact z5 | (simp; omega)) _).setCell (by first | exact Nat.le_refl _ | exact z5 | (simp; omega)) _) | go_keep) (first
    | (go_at_call 28; (with_reducible refine Calls.mono (HA.out _) ?_); rintro e v5 ⟨rfl, b5⟩; (first
        | (have c5 : Below W.heap.size W v5 := (Below.refl W.heap.size W).drew.trans b5)
        | (have c5 : Below W.heap.size W v5 := bup (bup (Below.refl _ W).drew (bel1 W.drew _)) b5; have T5 : Hid (Four v5 W.heap.size (.int .i64 0) (.int .i64 0) (.int .i64 0) (.int .i64 0)) := hideK ((Four.new W.drew _ _ _ _ 45).keep b5); obtain ⟨_, g0, g1, g2, g3, h0, h1, h2, h3⟩ := T5.out)); have z5 := c5.size; obtain ⟨m0, m1, m2, m3, m4, m5, m6, m7⟩ := HK.out _ c5))
  · exact hQ.out _ _ _ _ _ _ _ _ _ _ _ _ _ v5.heap.size _ z5 (Four.new v5 _ _ _ _ _) (bup c5 (bel1 _ _))
  · exact hQ.out _ _ _ _ _ _ _ _ _ _ _ _ _ W.heap.size _ (Nat.le_refl _) T5.out.set ((((c5.setCell (Nat.le_refl _) _).setCell (Nat.le_refl _) _).setCell (Nat.le_refl _) _).setCell (Nat.le_refl _) _)
end Go.Proofs.Ytipnefaggpigfaa

/- The reference's New: the times ahead of the first bend and behind the last one (chapter 6), over letters. -/
namespace Go.Proofs.Ytipnefaggpigfaa
open Go.RowKit Go.Shelf

set_option maxRecDepth 100000 in
set_option maxHeartbeats 4000000 in
theorem regG30 {cod : Code} {Q : Exit → Act → World → Prop} {df : List Deferred} {W : World} {A : Addr} {n c i : Nat} {a : Kn} {r : Rt × Int} {y1 y2 y3 y4 y5 y6 y7 y8 y9 y10 y11 y12 y13 y15 y16 y17 y18 y19 y20 y21 y22 y23 y24 y25 y26 y27 y28 y29 y30 y31 y32 y33 y34 y35 y36 y37 y38 y39 y40 y41 y42 y43 y44 y45 y46 y47 y48 y49 y50 y51 y52 y53 y54 y55 y56 y57 y58 y59 y60 y61 y62 y63 y64 y65 y66 y67 y68 y69 y70 y71 y72 y73 y74 y75 y76 y77 y78 y79 y80 y81 y82 y83 y84 y85 y86 y87 y88 y89 y90 y91 y92 y93 y94 y95 y96 y97 y98 y99 y100 y101 y102 y103 y104 y105 y106 y107 y108 y109 y110 y111 y112 y113 y114 y115 y116 y117 y118 y119 y120 y121 y122 y123 y124 y125 y126 y127 y128 y129 y130 y131 y132 y133 y134 y135 y136 y137 y138 y139 y140 y141 y142 y143 y144 y145 y146 y147 y148 y149 y150 y151 y152 y153 y154 y155 y156 y157 y158 y159 y160 y161 y162 y163 y164 y165 y166 y167 y168 y169 y170 y171 y172 y173 y174 y175 y176 y177 y178 y179 y180 y181 y182 y183 y184 y185 y186 y187 y188 y189 y190 y191 y192 y193 y194 y195 y196 y197 y198 y199 y200 y201 y202 y203 y204 y205 y206 y207 y208 y209 y210 y211 y212 y213 y214 y215 y216 y217 y218 y219 y220 y221 y222 y223 y224 y225 y226 y227 y228 y229 y230 y231 y232 y233 y234 y235 y236 y237 y238 y239 y240 y241 y242 y243 y244 y245 y246 y247 y248 y249 y250 y251 y252 y253 : Value} (hc : Try.f7.body.bind (findG 30) = some cod)
    (dn : (i : Int) < (n : Int)) (HK : ∀ w', Below W.heap.size W w' → w'.cell? (A.add (i * 4)) = some (.int .i64 a.i.N) ∧ w'.cell? ⟨(A.add (i * 4)).block, (A.add (i * 4)).off + 1, none⟩ = some (.int .i64 a.i.D))
    (HA : ∀ V : World, Calls Try.prog 31 #[.agg #[.int .i64 a.i.N, .int .i64 a.i.D], .agg #[.int .i64 1, .int .i64 1]] V fun e w' => e = .returned (.tuple #[.agg #[.int .i64 r.1.N, .int .i64 r.1.D], .int .i64 r.2]) ∧ Below V.heap.size V w')
    (hQ : ∀ (z133 z134 z135 z136 z137 z138 z139 z140 z141 z142 : Value) (q : Nat) (X : World), W.heap.size ≤ q → Two X q (.int .i64 r.1.N) (.int .i64 r.1.D) → Below W.heap.size W X → Q .normal ⟨#[.slice (some A) n c, y1, y2, y3, y4, y5, y6, y7, y8, y9, y10, y11, y12, y13, .int .i64 (i : Nat), y15, .pointer (some ⟨q, 0, none⟩), .int .i64 r.2, y18, y19, y20, y21, y22, y23, y24, y25, y26, y27, y28, y29, y30, y31, y32, y33, y34, y35, y36, y37, y38, y39, y40, y41, y42, y43, y44, y45, y46, y47, y48, y49, y50, y51, y52, y53, y54, y55, y56, y57, y58, y59, y60, y61, y62, y63, y64, y65, y66, y67, y68, y69, y70, y71, y72, y73, y74, y75, y76, y77, y78, y79, y80, y81, y82, y83, y84, y85, y86, y87, y88, y89, y90, y91, y92, y93, y94, y95, y96, y97, y98, y99, y100, y101, y102, y103, y104, y105, y106, y107, y108, y109, y110, y111, y112, y113, y114, y115, y116, y117, y118, y119, y120, y121, y122, y123, y124, y125, y126, y127, y128, y129, y130, y131, y132, z133, z134, z135, z136, z137, z138, z139, z140, z141, z142, y143, y144, y145, y146, y147, y148, y149, y150, y151, y152, y153, y154, y155, y156, y157, y158, y159, y160, y161, y162, y163, y164, y165, y166, y167, y168, y169, y170, y171, y172, y173, y174, y175, y176, y177, y178, y179, y180, y181, y182, y183, y184, y185, y186, y187, y188, y189, y190, y191, y192, y193, y194, y195, y196, y197, y198, y199, y200, y201, y202, y203, y204, y205, y206, y207, y208, y209, y210, y211, y212, y213, y214, y215, y216, y217, y218, y219, y220, y221, y222, y223, y224, y225, y226, y227, y228, y229, y230, y231, y232, y233, y234, y235, y236, y237, y238, y239, y240, y241, y242, y243, y244, y245, y246, y247, y248, y249, y250, y251, y252, y253], df⟩ X) :
    cod.wp Try.prog Q ⟨#[.slice (some A) n c, y1, y2, y3, y4, y5, y6, y7, y8, y9, y10, y11, y12, y13, .int .i64 (i : Nat), y15, y16, y17, y18, y19, y20, y21, y22, y23, y24, y25, y26, y27, y28, y29, y30, y31, y32, y33, y34, y35, y36, y37, y38, y39, y40, y41, y42, y43, y44, y45, y46, y47, y48, y49, y50, y51, y52, y53, y54, y55, y56, y57, y58, y59, y60, y61, y62, y63, y64, y65, y66, y67, y68, y69, y70, y71, y72, y73, y74, y75, y76, y77, y78, y79, y80, y81, y82, y83, y84, y85, y86, y87, y88, y89, y90, y91, y92, y93, y94, y95, y96, y97, y98, y99, y100, y101, y102, y103, y104, y105, y106, y107, y108, y109, y110, y111, y112, y113, y114, y115, y116, y117, y118, y119, y120, y121, y122, y123, y124, y125, y126, y127, y128, y129, y130, y131, y132, y133, y134, y135, y136, y137, y138, y139, y140, y141, y142, y143, y144, y145, y146, y147, y148, y149, y150, y151, y152, y153, y154, y155, y156, y157, y158, y159, y160, y161, y162, y163, y164, y165, y166, y167, y168, y169, y170, y171, y172, y173, y174, y175, y176, y177, y178, y179, y180, y181, y182, y183, y184, y185, y186, y187, y188, y189, y190, y191, y192, y193, y194, y195, y196, y197, y198, y199, y200, y201, y202, y203, y204, y205, y206, y207, y208, y209, y210, y211, y212, y213, y214, y215, y216, y217, y218, y219, y220, y221, y222, y223, y224, y225, y226, y227, y228, y229, y230, y231, y232, y233, y234, y235, y236, y237, y238, y239, y240, y241, y242, y243, y244, y245, y246, y247, y248, y249, y250, y251, y252, y253], df⟩ W := by
  suffices hS : ∃ co : Code, (Try.f7.body.bind (findG 30)) = some co ∧ co.wp Try.prog Q ⟨#[.slice (some A) n c, y1, y2, y3, y4, y5, y6, y7, y8, y9, y10, y11, y12, y13, .int .i64 (i : Nat), y15, y16, y17, y18, y19, y20, y21, y22, y23, y24, y25, y26, y27, y28, y29, y30, y31, y32, y33, y34, y35, y36, y37, y38, y39, y40, y41, y42, y43, y44, y45, y46, y47, y48, y49, y50, y51, y52, y53, y54, y55, y56, y57, y58, y59, y60, y61, y62, y63, y64, y65, y66, y67, y68, y69, y70, y71, y72, y73, y74, y75, y76, y77, y78, y79, y80, y81, y82, y83, y84, y85, y86, y87, y88, y89, y90, y91, y92, y93, y94, y95, y96, y97, y98, y99, y100, y101, y102, y103, y104, y105, y106, y107, y108, y109, y110, y111, y112, y113, y114, y115, y116, y117, y118, y119, y120, y121, y122, y123, y124, y125, y126, y127, y128, y129, y130, y131, y132, y133, y134, y135, y136, y137, y138, y139, y140, y141, y142, y143, y144, y145, y146, y147, y148, y149, y150, y151, y152, y153, y154, y155, y156, y157, y158, y159, y160, y161, y162, y163, y164, y165, y166, y167, y168, y169, y170, y171, y172, y173, y174, y175, y176, y177, y178, y179, y180, y181, y182, y183, y184, y185, y186, y187, y188, y189, y190, y191, y192, y193, y194, y195, y196, y197, y198, y199, y200, y201, y202, y203, y204, y205, y206, y207, y208, y209, y210, y211, y212, y213, y214, y215, y216, y217, y218, y219, y220, y221, y222, y223, y224, y225, y226, y227, y228, y229, y230, y231, y232, y233, y234, y235, y236, y237, y238, y239, y240, y241, y242, y243, y244, y245, y246, y247, y248, y249, y250, y251, y252, y253], df⟩ W by
    obtain ⟨c2, h1, h2⟩ := hS
    rw [hc] at h1
    cases h1
    exact h2
  clear hc
  refine ⟨_, rfl, ?_⟩
  replace hQ := hideK hQ
  replace HK := hideK HK
  replace HA := hideK HA
  dsimp only [List.append]
  obtain ⟨a0, a1⟩ := HK.out W (Below.refl _ _)
  go_region_held3 (fun w' => w'.cell? (A.add (i * 4)) = some (.int .i64 a.i.N) ∧ w'.cell? ⟨(A.add (i * 4)).block, (A.add (i * 4)).off + 1, none⟩ = some (.int .i64 a.i.D)) (first | assumption | exact HK.out _ ((Below.refl _ _).drew) | exact HK.out _ (bel1 _ _) | exact HK.out _ ((bel1 _ _).drew) | exact HK.out _ (bup (Below.refl _ _).drew (bel1 _ _)) | exact HK.out _ c4 | exact HK.out _ (bup c4 (bel1 _ _)) | exact HK.out _ c5 | exact HK.out _ (bup c5 (bel1 _ _)) | exact HK.out _ ((c5.setCell (by first | exact Nat.le_refl _ | exact z4 | exact z5 | (simp; omega)) _).setCell (by first | exact Nat.le_refl _ | exact z4 | exact z5 | (simp; omega)) _) | exact HK.out _ (((bup c5 (bel1 _ _)).setCell (by first | exact Nat.le_refl _ | exact z4 | exact z5 | (simp; omega)) _).setCell (by first | exact Nat.le_refl _ | exact z4 | exact z5 | (simp; omega)) _) | go_keep) (first
    | (go_at_call 27; (with_reducible refine Calls.mono (rone6 _) ?_); rintro e v4 ⟨rfl, b4⟩; (first
        | (have c4 : Below W.heap.size W v4 := (Below.refl W.heap.size W).drew.trans b4)
        | (have c4 : Below W.heap.size W v4 := bup (bup (Below.refl _ W).drew (bel1 W.drew _)) b4; have T4 : Hid (Two v4 W.heap.size (.int .i64 0) (.int .i64 0)) := hideK ((Two.new W.drew _ _ 42).keep b4))); have z4 := c4.size; obtain ⟨e0, e1⟩ := HK.out _ c4)
    | (go_at_call 31; (with_reducible refine Calls.mono (HA.out _) ?_); rintro e v5 ⟨rfl, b5⟩; (first
        | (have c5 : Below W.heap.size W v5 := bup c4 b5; have T5 := hideK (T4.out.keep b5); obtain ⟨_, g0, g1, h0, h1⟩ := T5.out)
        | (have c5 : Below W.heap.size W v5 := bup c4 b5)
        | (have c5 : Below W.heap.size W v5 := bup (bup c4 (bel1 v4 _)) b5; have T6 : Hid (Two v5 v4.heap.size (.int .i64 0) (.int .i64 0)) := hideK ((Two.new v4 _ _ 42).keep b5); obtain ⟨_, g0, g1, h0, h1⟩ := T6.out)); have z5 := c5.size; obtain ⟨m0, m1⟩ := HK.out _ c5))
  · exact hQ.out _ _ _ _ _ _ _ _ _ _ v5.heap.size _ z5 (Two.new v5 _ _ _) (bup c5 (bel1 _ _))
  · exact hQ.out _ _ _ _ _ _ _ _ _ _ v4.heap.size _ z4 T6.out.set ((c5.setCell z4 _).setCell z4 _)
  · exact hQ.out _ _ _ _ _ _ _ _ _ _ W.heap.size _ (Nat.le_refl _) T5.out.set ((c5.setCell (Nat.le_refl _) _).setCell (Nat.le_refl _) _)
set_option maxRecDepth 100000 in
set_option maxHeartbeats 4000000 in
theorem regG36 {cod : Code} {Q : Exit → Act → World → Prop} {df : List Deferred} {W : World} {A : Addr} {n c i qt : Nat} {a : Kn} {t r : Rt × Int} {y1 y2 y3 y4 y5 y6 y7 y8 y9 y10 y11 y12 y13 y14 y17 y18 y19 y20 y21 y22 y23 y24 y25 y26 y27 y28 y29 y30 y31 y32 y33 y34 y35 y36 y37 y38 y39 y40 y41 y42 y43 y44 y45 y46 y47 y48 y49 y50 y51 y52 y53 y54 y55 y56 y57 y58 y59 y60 y61 y62 y63 y64 y65 y66 y67 y68 y69 y70 y71 y72 y73 y74 y75 y76 y77 y78 y79 y80 y81 y82 y83 y84 y85 y86 y87 y88 y89 y90 y91 y92 y93 y94 y95 y96 y97 y98 y99 y100 y101 y102 y103 y104 y105 y106 y107 y108 y109 y110 y111 y112 y113 y114 y115 y116 y117 y118 y119 y120 y121 y122 y123 y124 y125 y126 y127 y128 y129 y130 y131 y132 y133 y134 y135 y136 y137 y138 y139 y140 y141 y142 y143 y144 y145 y146 y147 y148 y149 y150 y151 y152 y153 y154 y155 y156 y157 y158 y159 y160 y161 y162 y163 y164 y165 y166 y167 y168 y169 y170 y171 y172 y173 y174 y175 y176 y177 y178 y179 y180 y181 y182 y183 y184 y185 y186 y187 y188 y189 y190 y191 y192 y193 y194 y195 y196 y197 y198 y199 y200 y201 y202 y203 y204 y205 y206 y207 y208 y209 y210 y211 y212 y213 y214 y215 y216 y217 y218 y219 y220 y221 y222 y223 y224 y225 y226 y227 y228 y229 y230 y231 y232 y233 y234 y235 y236 y237 y238 y239 y240 y241 y242 y243 y244 y245 y246 y247 y248 y249 y250 y251 y252 y253 : Value} (hc : Try.f7.body.bind (findG 36) = some cod)
    (dn : (i : Int) < (n : Int)) (hT : Two W qt (.int .i64 t.1.N) (.int .i64 t.1.D)) (HK : ∀ w', But (fun k => k = qt) W w' → w'.cell? (A.add (i * 4)) = some (.int .i64 a.i.N) ∧ w'.cell? ⟨(A.add (i * 4)).block, (A.add (i * 4)).off + 1, none⟩ = some (.int .i64 a.i.D))
    (HA : ∀ V : World, Calls Try.prog 32 #[.agg #[.int .i64 a.i.N, .int .i64 a.i.D], .agg #[.int .i64 1, .int .i64 1]] V fun e w' => e = .returned (.tuple #[.agg #[.int .i64 r.1.N, .int .i64 r.1.D], .int .i64 r.2]) ∧ Below V.heap.size V w')
    (hQ : ∀ (z163 z164 z165 z166 z167 z168 z169 z170 z171 z172 : Value) (X : World), Two X qt (.int .i64 r.1.N) (.int .i64 r.1.D) → But (fun k => k = qt) W X → Q .normal ⟨#[.slice (some A) n c, y1, y2, y3, y4, y5, y6, y7, y8, y9, y10, y11, y12, y13, y14, .int .i64 (i : Nat), .pointer (some ⟨qt, 0, none⟩), .int .i64 r.2, y18, y19, y20, y21, y22, y23, y24, y25, y26, y27, y28, y29, y30, y31, y32, y33, y34, y35, y36, y37, y38, y39, y40, y41, y42, y43, y44, y45, y46, y47, y48, y49, y50, y51, y52, y53, y54, y55, y56, y57, y58, y59, y60, y61, y62, y63, y64, y65, y66, y67, y68, y69, y70, y71, y72, y73, y74, y75, y76, y77, y78, y79, y80, y81, y82, y83, y84, y85, y86, y87, y88, y89, y90, y91, y92, y93, y94, y95, y96, y97, y98, y99, y100, y101, y102, y103, y104, y105, y106, y107, y108, y109, y110, y111, y112, y113, y114, y115, y116, y117, y118, y119, y120, y121, y122, y123, y124, y125, y126, y127, y128, y129, y130, y131, y132, y133, y134, y135, y136, y137, y138, y139, y140, y141, y142, y143, y144, y145, y146, y147, y148, y149, y150, y151, y152, y153, y154, y155, y156, y157, y158, y159, y160, y161, y162, z163, z164, z165, z166, z167, z168, z169, z170, z171, z172, y173, y174, y175, y176, y177, y178, y179, y180, y181, y182, y183, y184, y185, y186, y187, y188, y189, y190, y191, y192, y193, y194, y195, y196, y197, y198, y199, y200, y201, y202, y203, y204, y205, y206, y207, y208, y209, y210, y211, y212, y213, y214, y215, y216, y217, y218, y219, y220, y221, y222, y223, y224, y225, y226, y227, y228, y229, y230, y231, y232, y233, y234, y235, y236, y237, y238, y239, y240, y241, y242, y243, y244, y245, y246, y247, y248, y249, y250, y251, y252, y253], df⟩ X) :
    cod.wp Try.prog Q ⟨#[.slice (some A) n c, y1, y2, y3, y4, y5, y6, y7, y8, y9, y10, y11, y12, y13, y14, .int .i64 (i : Nat), .pointer (some ⟨qt, 0, none⟩), y17, y18, y19, y20, y21, y22, y23, y24, y25, y26, y27, y28, y29, y30, y31, y32, y33, y34, y35, y36, y37, y38, y39, y40, y41, y42, y43, y44, y45, y46, y47, y48, y49, y50, y51, y52, y53, y54, y55, y56, y57, y58, y59, y60, y61, y62, y63, y64, y65, y66, y67, y68, y69, y70, y71, y72, y73, y74, y75, y76, y77, y78, y79, y80, y81, y82, y83, y84, y85, y86, y87, y88, y89, y90, y91, y92, y93, y94, y95, y96, y97, y98, y99, y100, y101, y102, y103, y104, y105, y106, y107, y108, y109, y110, y111, y112, y113, y114, y115, y116, y117, y118, y119, y120, y121, y122, y123, y124, y125, y126, y127, y128, y129, y130, y131, y132, y133, y134, y135, y136, y137, y138, y139, y140, y141, y142, y143, y144, y145, y146, y147, y148, y149, y150, y151, y152, y153, y154, y155, y156, y157, y158, y159, y160, y161, y162, y163, y164, y165, y166, y167, y168, y169, y170, y171, y172, y173, y174, y175, y176, y177, y178, y179, y180, y181, y182, y183, y184, y185, y186, y187, y188, y189, y190, y191, y192, y193, y194, y195, y196, y197, y198, y199, y200, y201, y202, y203, y204, y205, y206, y207, y208, y209, y210, y211, y212, y213, y214, y215, y216, y217, y218, y219, y220, y221, y222, y223, y224, y225, y226, y227, y228, y229, y230, y231, y232, y233, y234, y235, y236, y237, y238, y239, y240, y241, y242, y243, y244, y245, y246, y247, y248, y249, y250, y251, y252, y253], df⟩ W := by
  suffices hS : ∃ co : Code, (Try.f7.body.bind (findG 36)) = some co ∧ co.wp Try.prog Q ⟨#[.slice (some A) n c, y1, y2, y3, y4, y5, y6, y7, y8, y9, y10, y11, y12, y13, y14, .int .i64 (i : Nat), .pointer (some ⟨qt, 0, none⟩), y17, y18, y19, y20, y21, y22, y23, y24, y25, y26, y27, y28, y29, y30, y31, y32, y33, y34, y35, y36, y37, y38, y39, y40, y41, y42, y43, y44, y45, y46, y47, y48, y49, y50, y51, y52, y53, y54, y55, y56, y57, y58, y59, y60, y61, y62, y63, y64, y65, y66, y67, y68, y69, y70, y71, y72, y73, y74, y75, y76, y77, y78, y79, y80, y81, y82, y83, y84, y85, y86, y87, y88, y89, y90, y91, y92, y93, y94, y95, y96, y97, y98, y99, y100, y101, y102, y103, y104, y105, y106, y107, y108, y109, y110, y111, y112, y113, y114, y115, y116, y117, y118, y119, y120, y121, y122, y123, y124, y125, y126, y127, y128, y129, y130, y131, y132, y133, y134, y135, y136, y137, y138, y139, y140, y141, y142, y143, y144, y145, y146, y147, y148, y149, y150, y151, y152, y153, y154, y155, y156, y157, y158, y159, y160, y161, y162, y163, y164, y165, y166, y167, y168, y169, y170, y171, y172, y173, y174, y175, y176, y177, y178, y179, y180, y181, y182, y183, y184, y185, y186, y187, y188, y189, y190, y191, y192, y193, y194, y195, y196, y197, y198, y199, y200, y201, y202, y203, y204, y205, y206, y207, y208, y209, y210, y211, y212, y213, y214, y215, y216, y217, y218, y219, y220, y221, y222, y223, y224, y225, y226, y227, y228, y229, y230, y231, y232, y233, y234, y235, y236, y237, y238, y239, y240, y241, y242, y243, y244, y245, y246, y247, y248, y249, y250, y251, y252, y253], df⟩ W by
    obtain ⟨c2, h1, h2⟩ := hS
    rw [hc] at h1
    cases h1
    exact h2
  clear hc
  refine ⟨_, rfl, ?_⟩
  replace hQ := hideK hQ
  replace HK := hideK HK
  replace HA := hideK HA
  dsimp only [List.append]
  have HT := hideK hT
  clear hT
  obtain ⟨a0, a1⟩ := HK.out W (But.refl _ _)
  go_region_held3 (fun w' => w'.cell? (A.add (i * 4)) = some (.int .i64 a.i.N) ∧ w'.cell? ⟨(A.add (i * 4)).block, (A.add (i * 4)).off + 1, none⟩ = some (.int .i64 a.i.D)) (first | assumption | exact HK.out _ (But.grown (Below.refl _ _).drew) | exact HK.out _ (But.grown (M := fun k => k = qt) c4) | exact HK.out _ (But.grown (M := fun k => k = qt) c5) | exact HK.out _ (((But.grown (M := fun k => k = qt) c5).setCell (p := ⟨qt, 0, none⟩) rfl _).setCell (p := ⟨qt, 1, none⟩) rfl _) | go_keep) (first
    | (go_at_call 27; (with_reducible refine Calls.mono (rone6 _) ?_); rintro e v4 ⟨rfl, b4⟩; have c4 : Below W.heap.size W v4 := (Below.refl W.heap.size W).drew.trans b4; obtain ⟨e0, e1⟩ := HK.out _ (But.grown (M := fun k => k = qt) c4))
    | (go_at_call 32; (with_reducible refine Calls.mono (HA.out _) ?_); rintro e v5 ⟨rfl, b5⟩; have c5 : Below W.heap.size W v5 := bup c4 b5; have T5 := hideK (HT.out.keep c5); obtain ⟨_, g0, g1, h0, h1⟩ := T5.out; obtain ⟨m0, m1⟩ := HK.out _ (But.grown (M := fun k => k = qt) c5)))
  all_goals exact hQ.out _ _ _ _ _ _ _ _ _ _ _ T5.out.set (((But.grown (M := fun k => k = qt) c5).setCell (p := ⟨qt, 0, none⟩) rfl _).setCell (p := ⟨qt, 1, none⟩) rfl _)
end Go.Proofs.Ytipnefaggpigfaa

/- The reference's New: the map with bends is being made (chapter 6): what appending to a field does. -/
namespace Go.Proofs.Ytipnefaggpigfaa
open Go.RowKit Go.Shelf

theorem own_apartV {W : World} {b1 b2 : Nat} {e1 e2 : TypeId} {s1 s2 : Nat} {v1 v2 : Value} {n1 n2 : Nat} {x1 x2 : List Value} (h1 : W.ownsRow b1 e1 s1 v1 n1 x1) (h2 : W.ownsRow b2 e2 s2 v2 n2 x2) (hne : e1 ≠ e2) : v1.ownBlock = none ∨ v1.ownBlock ≠ v2.ownBlock := by
  rcases h1.2 with ⟨q, _⟩ | ⟨g, cap, cur, q, _, hg, _⟩
  · subst q; exact .inl rfl
  · subst q
    right
    rcases h2.2 with ⟨q, _⟩ | ⟨g2, cap2, cur2, q, _, hg2, _⟩
    · subst q; simp [Value.ownBlock]
    · subst q
      simp only [Value.ownBlock]
      intro e
      simp at e
      subst e
      rw [hg] at hg2
      simp at hg2
      exact hne hg2.2
theorem own_notV {W : World} {b : Nat} {e t : TypeId} {sz : Nat} {v : Value} {n : Nat} {xs : List Value} {k : Nat} {cur : Array Value} {z : Nat × Nat} (h : W.ownsRow b e sz v n xs) (hk : W.heap[k]? = some (.cells cur t z)) (hne : e ≠ t) : some k ≠ v.ownBlock := by
  rcases h.2 with ⟨q, _⟩ | ⟨g, cap, cur2, q, _, hg, _⟩
  · subst q; simp [Value.ownBlock]
  · subst q
    simp only [Value.ownBlock]
    intro e2
    simp at e2
    subst e2
    rw [hg] at hk
    simp at hk
    exact hne hk.2.1
theorem own_farV {W : World} {base : Nat} {e : TypeId} {size : Nat} {v : Value} {n : Nat} {xs : List Value} {B : Nat} (h : W.ownsRow base e size v n xs) (hn : some B ≠ v.ownBlock) (i : Nat) (u : Value) : (W.setCell ⟨B, i, none⟩ u).ownsRow base e size v n xs := by
  refine ⟨h.1, ?_⟩
  rcases h.2 with q | ⟨g, cap, cur, rfl, hb, hgg, rest⟩
  · exact .inl q
  · exact .inr ⟨g, cap, cur, rfl, hb, (Below.heap_setCell W ⟨B, i, none⟩ u g (fun e => hn (by rw [e]; rfl))).trans hgg, rest⟩
/-- The reference's map that is being made: its two rows. -/
structure RMapO (W : World) (base R : Nat) (v u : Value) (K : List Kn) (S : List Rt) : Prop where
  at_ : W.heap[R]? = some (.cells #[v, u] 65)
  kn : W.ownsRow base 45 4 v K.length (flatKn K)
  rt : W.ownsRow base 42 2 u S.length (flatRt S)
theorem RMapO.lt {W : World} {base R : Nat} {v u : Value} {K : List Kn} {S : List Rt} (h : RMapO W base R v u K S) : R < W.heap.size := (Array.getElem?_eq_some_iff.1 h.at_).1
theorem RMapO.keep {V W : World} {base R : Nat} {v u : Value} {K : List Kn} {S : List Rt} (h : RMapO V base R v u K S) (b : Below V.heap.size V W) : RMapO W base R v u K S := ⟨(b.block R h.lt).trans h.at_, own_growK h.kn b, own_growK h.rt b⟩
theorem RMapO.cells {W : World} {base R : Nat} {v u : Value} {K : List Kn} {S : List Rt} (h : RMapO W base R v u K S) : W.cell? ⟨R, 0, none⟩ = some v ∧ W.cell? ⟨R, 1, none⟩ = some u ∧ W.frozen? ⟨R, 0, none⟩ = false ∧ W.frozen? ⟨R, 1, none⟩ = false := ⟨by simp [World.cell?, h.at_], by simp [World.cell?, h.at_], by simp [World.frozen?, h.at_], by simp [World.frozen?, h.at_]⟩
theorem RMapO.map {W : World} {base R : Nat} {v u : Value} {K : List Kn} {S : List Rt} (h : RMapO W base R v u K S) : RMapAt W R K S := by
  obtain ⟨o1, d1, rfl, hc1, hk1, -⟩ := own_kn h.kn
  obtain ⟨o2, d2, rfl, hc2, hk2, -⟩ := own_rt h.rt
  exact ⟨o1, d1, o2, d2, h.at_, hc1, hc2, hk1, hk2⟩
theorem tKMV : (45 : TypeId) ≠ 65 := by decide
theorem tRMV : (42 : TypeId) ≠ 65 := by decide
theorem tKRV : (45 : TypeId) ≠ 42 := by decide
/-- The map's own cells stand behind an append to one of its rows. -/
theorem RMapO.grew {X Y W : World} {base R : Nat} {v u : Value} {K : List Kn} {S : List Rt} {row : Option Nat} (h : RMapO X base R v u K S) (b : Below X.heap.size X Y) (hg : Y.grownBy W row) (hr : row = v.ownBlock ∨ row = u.ownBlock) : W.heap[R]? = some (.cells #[v, u] 65) := by
  have hY := h.keep b
  refine (hg.block R hY.lt ?_).trans hY.at_
  rcases hr with e | e
  · rw [e]; exact own_notV hY.kn hY.at_ tKMV
  · rw [e]; exact own_notV hY.rt hY.at_ tRMV
theorem cells_ofV {W : World} {R : Nat} {v u : Value} (h : W.heap[R]? = some (.cells #[v, u] 65)) : W.cell? ⟨R, 0, none⟩ = some v ∧ W.cell? ⟨R, 1, none⟩ = some u ∧ W.frozen? ⟨R, 0, none⟩ = false ∧ W.frozen? ⟨R, 1, none⟩ = false := ⟨by simp [World.cell?, h], by simp [World.cell?, h], by simp [World.frozen?, h], by simp [World.frozen?, h]⟩
theorem RMapO.put0 {X Y W : World} {base R gg cap : Nat} {v u : Value} {K : List Kn} {S : List Rt} {x : Kn} (h : RMapO X base R v u K S) (b : Below X.heap.size X Y) (hg : Y.grownBy W v.ownBlock)
    (ho : W.ownsRow base 45 4 (.slice (some ⟨gg, 0, none⟩) (K.length + 1) cap) (K.length + 1) (flatKn K ++ [.int .i64 x.i.N, .int .i64 x.i.D, .int .i64 x.o.N, .int .i64 x.o.D])) :
    RMapO (W.setCell ⟨R, 0, none⟩ (.slice (some ⟨gg, 0, none⟩) (K.length + 1) cap)) base R (.slice (some ⟨gg, 0, none⟩) (K.length + 1) cap) u (K ++ [x]) S := by
  have hat := h.grew b hg (.inl rfl)
  have hY := h.keep b
  refine ⟨heap_setCell_same W R 0 _ _ _ hat, ?_, ?_⟩
  · rw [flatKn_app, List.length_append]
    exact own_farV ho (own_notV ho hat tKMV) 0 _
  · have h2 : W.ownsRow base 42 2 u S.length (flatRt S) := World.ownsRow.kept hY.rt hg (own_apartV hY.rt hY.kn (Ne.symm tKRV))
    exact own_farV h2 (own_notV h2 hat tRMV) 0 _
theorem RMapO.put1 {X Y W : World} {base R gg cap : Nat} {v u : Value} {K : List Kn} {S : List Rt} {x : Rt} (h : RMapO X base R v u K S) (b : Below X.heap.size X Y) (hg : Y.grownBy W u.ownBlock)
    (ho : W.ownsRow base 42 2 (.slice (some ⟨gg, 0, none⟩) (S.length + 1) cap) (S.length + 1) (flatRt S ++ [.int .i64 x.N, .int .i64 x.D])) :
    RMapO (W.setCell ⟨R, 1, none⟩ (.slice (some ⟨gg, 0, none⟩) (S.length + 1) cap)) base R v (.slice (some ⟨gg, 0, none⟩) (S.length + 1) cap) K (S ++ [x]) := by
  have hat := h.grew b hg (.inr rfl)
  have hY := h.keep b
  refine ⟨heap_setCell_same W R 1 _ _ _ hat, ?_, ?_⟩
  · have h2 : W.ownsRow base 45 4 v K.length (flatKn K) := World.ownsRow.kept hY.kn hg (own_apartV hY.kn hY.rt tKRV)
    exact own_farV h2 (own_notV h2 hat tKMV) 1 _
  · rw [flatRt_app, List.length_append]
    exact own_farV ho (own_notV ho hat tRMV) 1 _
theorem own_knotV (W : World) (base : Nat) (hb : base ≤ W.heap.size) (x : Kn) : (W.alloc (.cells #[.int .i64 x.i.N, .int .i64 x.i.D, .int .i64 x.o.N, .int .i64 x.o.D] 45)).ownsRow base 45 4 (.slice (some ⟨W.heap.size, 0, none⟩) 1 1) 1 (flatKn [x]) :=
  World.ownsRow_lit (base := base) (size := 4) (e := 45) W #[.int .i64 x.i.N, .int .i64 x.i.D, .int .i64 x.o.N, .int .i64 x.o.D] 1 hb (by unfold maxLen; omega) rfl
theorem own_rateV (W : World) (base : Nat) (hb : base ≤ W.heap.size) (s : Rt) : (W.alloc (.cells #[.int .i64 s.N, .int .i64 s.D] 42)).ownsRow base 42 2 (.slice (some ⟨W.heap.size, 0, none⟩) 1 1) 1 (flatRt [s]) :=
  World.ownsRow_lit (base := base) (size := 2) (e := 42) W #[.int .i64 s.N, .int .i64 s.D] 1 hb (by unfold maxLen; omega) rfl
end Go.Proofs.Ytipnefaggpigfaa

/- The reference's New: the map with bends is begun (chapter 6), over letters. -/
namespace Go.Proofs.Ytipnefaggpigfaa
open Go.RowKit Go.Shelf

theorem beg_a (V : World) (x : Kn) (s0 : Rt) : RMapO (((V.alloc (.cells #[.int .i64 x.i.N, .int .i64 x.i.D, .int .i64 x.o.N, .int .i64 x.o.D] 45)).alloc (.cells #[.int .i64 s0.N, .int .i64 s0.D] 42)).alloc (.cells #[.slice (some ⟨V.heap.size, 0, none⟩) 1 1, .slice (some ⟨V.heap.size + 1, 0, none⟩) 1 1] 65)) V.heap.size (V.heap.size + 1 + 1) (.slice (some ⟨V.heap.size, 0, none⟩) 1 1) (.slice (some ⟨V.heap.size + 1, 0, none⟩) 1 1) [x] [s0] := by
  have h1 := own_growK (own_knotV V V.heap.size (Nat.le_refl _) x) (bup (bel1 _ (.cells #[.int .i64 s0.N, .int .i64 s0.D] 42)) (bel1 _ (.cells #[.slice (some ⟨V.heap.size, 0, none⟩) 1 1, .slice (some ⟨V.heap.size + 1, 0, none⟩) 1 1] 65)))
  have h2 := own_growK (own_rateV (V.alloc (.cells #[.int .i64 x.i.N, .int .i64 x.i.D, .int .i64 x.o.N, .int .i64 x.o.D] 45)) V.heap.size (by simp) s0) (bel1 _ (.cells #[.slice (some ⟨V.heap.size, 0, none⟩) 1 1, .slice (some ⟨V.heap.size + 1, 0, none⟩) 1 1] 65))
  have h := World.alloc_heap_new ((V.alloc (.cells #[.int .i64 x.i.N, .int .i64 x.i.D, .int .i64 x.o.N, .int .i64 x.o.D] 45)).alloc (.cells #[.int .i64 s0.N, .int .i64 s0.D] 42)) (.cells #[.slice (some ⟨V.heap.size, 0, none⟩) 1 1, .slice (some ⟨V.heap.size + 1, 0, none⟩) 1 1] 65)
  rw [World.size_alloc, World.size_alloc] at h
  rw [World.size_alloc] at h2
  exact ⟨h, h1, h2⟩
theorem beg_b (V : World) (x : Kn) (s0 : Rt) : RMapO (((V.alloc (.cells #[.int .i64 s0.N, .int .i64 s0.D] 42)).alloc (.cells #[.int .i64 x.i.N, .int .i64 x.i.D, .int .i64 x.o.N, .int .i64 x.o.D] 45)).alloc (.cells #[.slice (some ⟨V.heap.size + 1, 0, none⟩) 1 1, .slice (some ⟨V.heap.size, 0, none⟩) 1 1] 65)) V.heap.size (V.heap.size + 1 + 1) (.slice (some ⟨V.heap.size + 1, 0, none⟩) 1 1) (.slice (some ⟨V.heap.size, 0, none⟩) 1 1) [x] [s0] := by
  have h1 := own_growK (own_knotV (V.alloc (.cells #[.int .i64 s0.N, .int .i64 s0.D] 42)) V.heap.size (by simp) x) (bel1 _ (.cells #[.slice (some ⟨V.heap.size + 1, 0, none⟩) 1 1, .slice (some ⟨V.heap.size, 0, none⟩) 1 1] 65))
  have h2 := own_growK (own_rateV V V.heap.size (Nat.le_refl _) s0) (bup (bel1 _ (.cells #[.int .i64 x.i.N, .int .i64 x.i.D, .int .i64 x.o.N, .int .i64 x.o.D] 45)) (bel1 _ (.cells #[.slice (some ⟨V.heap.size + 1, 0, none⟩) 1 1, .slice (some ⟨V.heap.size, 0, none⟩) 1 1] 65)))
  have h := World.alloc_heap_new ((V.alloc (.cells #[.int .i64 s0.N, .int .i64 s0.D] 42)).alloc (.cells #[.int .i64 x.i.N, .int .i64 x.i.D, .int .i64 x.o.N, .int .i64 x.o.D] 45)) (.cells #[.slice (some ⟨V.heap.size + 1, 0, none⟩) 1 1, .slice (some ⟨V.heap.size, 0, none⟩) 1 1] 65)
  rw [World.size_alloc, World.size_alloc] at h
  rw [World.size_alloc] at h1
  exact ⟨h, h1, h2⟩
set_option maxRecDepth 100000 in
set_option maxHeartbeats 4000000 in
theorem regG42 {cod : Code} {Q : Exit → Act → World → Prop} {df : List Deferred} {W : World} {gs ns cs i k q1 : Nat} {x : Kn} {s0 : Rt} {y0 y1 y2 y3 y4 y6 y7 y8 y9 y10 y11 y12 y13 y15 y16 y17 y19 y20 y21 y22 y23 y24 y25 y26 y27 y28 y29 y30 y31 y32 y33 y34 y35 y36 y37 y38 y39 y40 y41 y42 y43 y44 y45 y46 y47 y48 y49 y50 y51 y52 y53 y54 y55 y56 y57 y58 y59 y60 y61 y62 y63 y64 y65 y66 y67 y68 y69 y70 y71 y72 y73 y74 y75 y76 y77 y78 y79 y80 y81 y82 y83 y84 y85 y86 y87 y88 y89 y90 y91 y92 y93 y94 y95 y96 y97 y98 y99 y100 y101 y102 y103 y104 y105 y106 y107 y108 y109 y110 y111 y112 y113 y114 y115 y116 y117 y118 y119 y120 y121 y122 y123 y124 y125 y126 y127 y128 y129 y130 y131 y132 y133 y134 y135 y136 y137 y138 y139 y140 y141 y142 y143 y144 y145 y146 y147 y148 y149 y150 y151 y152 y153 y154 y155 y156 y157 y158 y159 y160 y161 y162 y163 y164 y165 y166 y167 y168 y169 y170 y171 y172 y173 y174 y175 y176 y177 y178 y179 y180 y181 y182 y183 y184 y185 y186 y187 y188 y189 y190 y191 y192 y193 y194 y195 y196 y197 y198 y199 y200 y201 y202 y203 y204 y205 y206 y207 y208 y209 y210 y211 y212 y213 y214 y215 y216 y217 y218 y219 y220 y221 y222 y223 y224 y225 y226 y227 y228 y229 y230 y231 y232 y233 y234 y235 y236 y237 y238 y239 y240 y241 y242 y243 y244 y245 y246 y247 y248 y249 y250 y251 y252 y253 : Value} (hc : Try.f7.body.bind (findG 42) = some cod)
    (dns : (k : Int) < (ns : Int)) (wi : IntKind.i64.wrap ((i : Int) - 1) = (k : Int)) (HK : ∀ w', Below W.heap.size W w' → w'.cell? ⟨q1, 0, none⟩ = some (.int .i64 x.i.N) ∧ w'.cell? ⟨q1, 1, none⟩ = some (.int .i64 x.i.D) ∧ w'.cell? ⟨q1, 2, none⟩ = some (.int .i64 x.o.N) ∧ w'.cell? ⟨q1, 3, none⟩ = some (.int .i64 x.o.D) ∧ w'.cell? ⟨gs, k * 2, none⟩ = some (.int .i64 s0.N) ∧ w'.cell? ⟨gs, k * 2 + 1, none⟩ = some (.int .i64 s0.D))
    (hQ : ∀ (z192 z193 z194 z195 z196 z197 z198 z199 z200 z201 v u : Value) (R : Nat) (X : World), W.heap.size ≤ R → RMapO X W.heap.size R v u [x] [s0] → Below W.heap.size W X → Q .normal ⟨#[y0, y1, y2, y3, y4, .slice (some ⟨gs, 0, none⟩) ns cs, y6, y7, y8, y9, y10, y11, y12, y13, .int .i64 (i : Nat), y15, y16, y17, .pointer (some ⟨q1, 0, none⟩), y19, .pointer (some ⟨R, 0, none⟩), y21, y22, y23, y24, y25, y26, y27, y28, y29, y30, y31, y32, y33, y34, y35, y36, y37, y38, y39, y40, y41, y42, y43, y44, y45, y46, y47, y48, y49, y50, y51, y52, y53, y54, y55, y56, y57, y58, y59, y60, y61, y62, y63, y64, y65, y66, y67, y68, y69, y70, y71, y72, y73, y74, y75, y76, y77, y78, y79, y80, y81, y82, y83, y84, y85, y86, y87, y88, y89, y90, y91, y92, y93, y94, y95, y96, y97, y98, y99, y100, y101, y102, y103, y104, y105, y106, y107, y108, y109, y110, y111, y112, y113, y114, y115, y116, y117, y118, y119, y120, y121, y122, y123, y124, y125, y126, y127, y128, y129, y130, y131, y132, y133, y134, y135, y136, y137, y138, y139, y140, y141, y142, y143, y144, y145, y146, y147, y148, y149, y150, y151, y152, y153, y154, y155, y156, y157, y158, y159, y160, y161, y162, y163, y164, y165, y166, y167, y168, y169, y170, y171, y172, y173, y174, y175, y176, y177, y178, y179, y180, y181, y182, y183, y184, y185, y186, y187, y188, y189, y190, y191, z192, z193, z194, z195, z196, z197, z198, z199, z200, z201, y202, y203, y204, y205, y206, y207, y208, y209, y210, y211, y212, y213, y214, y215, y216, y217, y218, y219, y220, y221, y222, y223, y224, y225, y226, y227, y228, y229, y230, y231, y232, y233, y234, y235, y236, y237, y238, y239, y240, y241, y242, y243, y244, y245, y246, y247, y248, y249, y250, y251, y252, y253], df⟩ X) :
    cod.wp Try.prog Q ⟨#[y0, y1, y2, y3, y4, .slice (some ⟨gs, 0, none⟩) ns cs, y6, y7, y8, y9, y10, y11, y12, y13, .int .i64 (i : Nat), y15, y16, y17, .pointer (some ⟨q1, 0, none⟩), y19, y20, y21, y22, y23, y24, y25, y26, y27, y28, y29, y30, y31, y32, y33, y34, y35, y36, y37, y38, y39, y40, y41, y42, y43, y44, y45, y46, y47, y48, y49, y50, y51, y52, y53, y54, y55, y56, y57, y58, y59, y60, y61, y62, y63, y64, y65, y66, y67, y68, y69, y70, y71, y72, y73, y74, y75, y76, y77, y78, y79, y80, y81, y82, y83, y84, y85, y86, y87, y88, y89, y90, y91, y92, y93, y94, y95, y96, y97, y98, y99, y100, y101, y102, y103, y104, y105, y106, y107, y108, y109, y110, y111, y112, y113, y114, y115, y116, y117, y118, y119, y120, y121, y122, y123, y124, y125, y126, y127, y128, y129, y130, y131, y132, y133, y134, y135, y136, y137, y138, y139, y140, y141, y142, y143, y144, y145, y146, y147, y148, y149, y150, y151, y152, y153, y154, y155, y156, y157, y158, y159, y160, y161, y162, y163, y164, y165, y166, y167, y168, y169, y170, y171, y172, y173, y174, y175, y176, y177, y178, y179, y180, y181, y182, y183, y184, y185, y186, y187, y188, y189, y190, y191, y192, y193, y194, y195, y196, y197, y198, y199, y200, y201, y202, y203, y204, y205, y206, y207, y208, y209, y210, y211, y212, y213, y214, y215, y216, y217, y218, y219, y220, y221, y222, y223, y224, y225, y226, y227, y228, y229, y230, y231, y232, y233, y234, y235, y236, y237, y238, y239, y240, y241, y242, y243, y244, y245, y246, y247, y248, y249, y250, y251, y252, y253], df⟩ W := by
  suffices hS : ∃ co : Code, (Try.f7.body.bind (findG 42)) = some co ∧ co.wp Try.prog Q ⟨#[y0, y1, y2, y3, y4, .slice (some ⟨gs, 0, none⟩) ns cs, y6, y7, y8, y9, y10, y11, y12, y13, .int .i64 (i : Nat), y15, y16, y17, .pointer (some ⟨q1, 0, none⟩), y19, y20, y21, y22, y23, y24, y25, y26, y27, y28, y29, y30, y31, y32, y33, y34, y35, y36, y37, y38, y39, y40, y41, y42, y43, y44, y45, y46, y47, y48, y49, y50, y51, y52, y53, y54, y55, y56, y57, y58, y59, y60, y61, y62, y63, y64, y65, y66, y67, y68, y69, y70, y71, y72, y73, y74, y75, y76, y77, y78, y79, y80, y81, y82, y83, y84, y85, y86, y87, y88, y89, y90, y91, y92, y93, y94, y95, y96, y97, y98, y99, y100, y101, y102, y103, y104, y105, y106, y107, y108, y109, y110, y111, y112, y113, y114, y115, y116, y117, y118, y119, y120, y121, y122, y123, y124, y125, y126, y127, y128, y129, y130, y131, y132, y133, y134, y135, y136, y137, y138, y139, y140, y141, y142, y143, y144, y145, y146, y147, y148, y149, y150, y151, y152, y153, y154, y155, y156, y157, y158, y159, y160, y161, y162, y163, y164, y165, y166, y167, y168, y169, y170, y171, y172, y173, y174, y175, y176, y177, y178, y179, y180, y181, y182, y183, y184, y185, y186, y187, y188, y189, y190, y191, y192, y193, y194, y195, y196, y197, y198, y199, y200, y201, y202, y203, y204, y205, y206, y207, y208, y209, y210, y211, y212, y213, y214, y215, y216, y217, y218, y219, y220, y221, y222, y223, y224, y225, y226, y227, y228, y229, y230, y231, y232, y233, y234, y235, y236, y237, y238, y239, y240, y241, y242, y243, y244, y245, y246, y247, y248, y249, y250, y251, y252, y253], df⟩ W by
    obtain ⟨c2, h1, h2⟩ := hS
    rw [hc] at h1
    cases h1
    exact h2
  clear hc
  refine ⟨_, rfl, ?_⟩
  replace hQ := hideK hQ
  replace HK := hideK HK
  obtain ⟨a0, a1, a2, a3, k0, k1⟩ := HK.out W (Below.refl _ _)
  dsimp only [List.append]
  go_region_held3 (fun w' => w'.cell? ⟨q1, 0, none⟩ = some (.int .i64 x.i.N) ∧ w'.cell? ⟨q1, 1, none⟩ = some (.int .i64 x.i.D) ∧ w'.cell? ⟨q1, 2, none⟩ = some (.int .i64 x.o.N) ∧ w'.cell? ⟨q1, 3, none⟩ = some (.int .i64 x.o.D) ∧ w'.cell? ⟨gs, k * 2, none⟩ = some (.int .i64 s0.N) ∧ w'.cell? ⟨gs, k * 2 + 1, none⟩ = some (.int .i64 s0.D)) (first | assumption | exact HK.out _ ((Below.refl _ _).drew) | exact HK.out _ (bel1 _ _) | exact HK.out _ ((bel1 _ _).drew) | exact HK.out _ (bup (bel1 _ _) (bel1 _ _)) | exact HK.out _ ((bup (bel1 _ _) (bel1 _ _)).drew) | exact HK.out _ (bup (bup (bel1 _ _) (bel1 _ _)) (bel1 _ _)) | exact HK.out _ ((bup (bup (bel1 _ _) (bel1 _ _)) (bel1 _ _)).drew) | go_keep) (fail)
  all_goals first
    | exact hQ.out _ _ _ _ _ _ _ _ _ _ _ _ (W.heap.size + 1 + 1) _ (by omega) (beg_a W x s0) (bup (bup (bel1 _ _) (bel1 _ _)) (bel1 _ _))
    | exact hQ.out _ _ _ _ _ _ _ _ _ _ _ _ (W.heap.size + 1 + 1) _ (by omega) (beg_b W x s0) (bup (bup (bel1 _ _) (bel1 _ _)) (bel1 _ _))
    | exact hQ.out _ _ _ _ _ _ _ _ _ _ _ _ (W.heap.size + 1 + 1) _ (by omega) (beg_a W.drew x s0) (bup (bup (bup (Below.refl _ W).drew (bel1 W.drew _)) (bel1 _ _)) (bel1 _ _))
    | exact hQ.out _ _ _ _ _ _ _ _ _ _ _ _ (W.heap.size + 1 + 1) _ (by omega) (beg_b W.drew x s0) (bup (bup (bup (Below.refl _ W).drew (bel1 W.drew _)) (bel1 _ _)) (bel1 _ _))
end Go.Proofs.Ytipnefaggpigfaa

/- The reference's New: the map with bends grows (chapter 6), over letters. -/
namespace Go.Proofs.Ytipnefaggpigfaa
open Go.RowKit Go.Shelf

set_option maxRecDepth 100000 in
set_option maxHeartbeats 4000000 in
theorem regG46 {cod : Code} {Q : Exit → Act → World → Prop} {df : List Deferred} {W : World} {A : Addr} {gI n c nI cI i j : Nat} {x : Kn} {base R : Nat} {v u : Value} {KL : List Kn} {SL : List Rt} {y1 y2 y3 y4 y5 y6 y7 y8 y10 y11 y12 y13 y14 y15 y16 y17 y18 y19 y22 y23 y24 y25 y26 y27 y28 y29 y30 y31 y32 y33 y34 y35 y36 y37 y38 y39 y40 y41 y42 y43 y44 y45 y46 y47 y48 y49 y50 y51 y52 y53 y54 y55 y56 y57 y58 y59 y60 y61 y62 y63 y64 y65 y66 y67 y68 y69 y70 y71 y72 y73 y74 y75 y76 y77 y78 y79 y80 y81 y82 y83 y84 y85 y86 y87 y88 y89 y90 y91 y92 y93 y94 y95 y96 y97 y98 y99 y100 y101 y102 y103 y104 y105 y106 y107 y108 y109 y110 y111 y112 y113 y114 y115 y116 y117 y118 y119 y120 y121 y122 y123 y124 y125 y126 y127 y128 y129 y130 y131 y132 y133 y134 y135 y136 y137 y138 y139 y140 y141 y142 y143 y144 y145 y146 y147 y148 y149 y150 y151 y152 y153 y154 y155 y156 y157 y158 y159 y160 y161 y162 y163 y164 y165 y166 y167 y168 y169 y170 y171 y172 y173 y174 y175 y176 y177 y178 y179 y180 y181 y182 y183 y184 y185 y186 y187 y188 y189 y190 y191 y192 y193 y194 y195 y196 y197 y198 y199 y200 y201 y202 y203 y204 y205 y206 y207 y208 y209 y210 y211 y212 y213 y214 y215 y216 y217 y218 y219 y220 y221 y222 y223 y224 y225 y226 y227 y228 y229 y230 y231 y232 y233 y234 y235 y236 y237 y238 y239 y240 y241 y242 y243 y244 y245 y246 y247 y248 y249 y250 y251 y252 y253 : Value} (hc : Try.f7.body.bind (findG 46) = some cod)
    (dI : (i : Int) < (nI : Int)) (dn : (j : Int) < (n : Int)) (hl : KL.length ≤ 200) (hM : RMapO W base R v u KL SL) (hbz : base ≤ W.heap.size) (hbR : base ≤ R) (HK : ∀ w', Below W.heap.size W w' → w'.cell? ⟨gI, i, none⟩ = some (.int .i64 (j : Nat)) ∧ w'.cell? (A.add (j * 4)) = some (.int .i64 x.i.N) ∧ w'.cell? ⟨(A.add (j * 4)).block, (A.add (j * 4)).off + 1, none⟩ = some (.int .i64 x.i.D) ∧ w'.cell? ⟨(A.add (j * 4)).block, (A.add (j * 4)).off + 2, none⟩ = some (.int .i64 x.o.N) ∧ w'.cell? ⟨(A.add (j * 4)).block, (A.add (j * 4)).off + 3, none⟩ = some (.int .i64 x.o.D))
    (hQ : ∀ (z208 z209 z210 z211 z212 z213 z214 z215 z216 z217 z218 z219 z220 z221 z222 z223 v1 : Value) (X : World), RMapO X base R v1 u (KL ++ [x]) SL → Below base W X → Q .normal ⟨#[.slice (some A) n c, y1, y2, y3, y4, y5, y6, y7, y8, .slice (some ⟨gI, 0, none⟩) nI cI, y10, y11, y12, y13, y14, y15, y16, y17, y18, y19, .pointer (some ⟨R, 0, none⟩), .int .i64 (i : Nat), y22, y23, y24, y25, y26, y27, y28, y29, y30, y31, y32, y33, y34, y35, y36, y37, y38, y39, y40, y41, y42, y43, y44, y45, y46, y47, y48, y49, y50, y51, y52, y53, y54, y55, y56, y57, y58, y59, y60, y61, y62, y63, y64, y65, y66, y67, y68, y69, y70, y71, y72, y73, y74, y75, y76, y77, y78, y79, y80, y81, y82, y83, y84, y85, y86, y87, y88, y89, y90, y91, y92, y93, y94, y95, y96, y97, y98, y99, y100, y101, y102, y103, y104, y105, y106, y107, y108, y109, y110, y111, y112, y113, y114, y115, y116, y117, y118, y119, y120, y121, y122, y123, y124, y125, y126, y127, y128, y129, y130, y131, y132, y133, y134, y135, y136, y137, y138, y139, y140, y141, y142, y143, y144, y145, y146, y147, y148, y149, y150, y151, y152, y153, y154, y155, y156, y157, y158, y159, y160, y161, y162, y163, y164, y165, y166, y167, y168, y169, y170, y171, y172, y173, y174, y175, y176, y177, y178, y179, y180, y181, y182, y183, y184, y185, y186, y187, y188, y189, y190, y191, y192, y193, y194, y195, y196, y197, y198, y199, y200, y201, y202, y203, y204, y205, y206, y207, z208, z209, z210, z211, z212, z213, z214, z215, z216, z217, z218, z219, z220, z221, z222, z223, y224, y225, y226, y227, y228, y229, y230, y231, y232, y233, y234, y235, y236, y237, y238, y239, y240, y241, y242, y243, y244, y245, y246, y247, y248, y249, y250, y251, y252, y253], df⟩ X) :
    cod.wp Try.prog Q ⟨#[.slice (some A) n c, y1, y2, y3, y4, y5, y6, y7, y8, .slice (some ⟨gI, 0, none⟩) nI cI, y10, y11, y12, y13, y14, y15, y16, y17, y18, y19, .pointer (some ⟨R, 0, none⟩), .int .i64 (i : Nat), y22, y23, y24, y25, y26, y27, y28, y29, y30, y31, y32, y33, y34, y35, y36, y37, y38, y39, y40, y41, y42, y43, y44, y45, y46, y47, y48, y49, y50, y51, y52, y53, y54, y55, y56, y57, y58, y59, y60, y61, y62, y63, y64, y65, y66, y67, y68, y69, y70, y71, y72, y73, y74, y75, y76, y77, y78, y79, y80, y81, y82, y83, y84, y85, y86, y87, y88, y89, y90, y91, y92, y93, y94, y95, y96, y97, y98, y99, y100, y101, y102, y103, y104, y105, y106, y107, y108, y109, y110, y111, y112, y113, y114, y115, y116, y117, y118, y119, y120, y121, y122, y123, y124, y125, y126, y127, y128, y129, y130, y131, y132, y133, y134, y135, y136, y137, y138, y139, y140, y141, y142, y143, y144, y145, y146, y147, y148, y149, y150, y151, y152, y153, y154, y155, y156, y157, y158, y159, y160, y161, y162, y163, y164, y165, y166, y167, y168, y169, y170, y171, y172, y173, y174, y175, y176, y177, y178, y179, y180, y181, y182, y183, y184, y185, y186, y187, y188, y189, y190, y191, y192, y193, y194, y195, y196, y197, y198, y199, y200, y201, y202, y203, y204, y205, y206, y207, y208, y209, y210, y211, y212, y213, y214, y215, y216, y217, y218, y219, y220, y221, y222, y223, y224, y225, y226, y227, y228, y229, y230, y231, y232, y233, y234, y235, y236, y237, y238, y239, y240, y241, y242, y243, y244, y245, y246, y247, y248, y249, y250, y251, y252, y253], df⟩ W := by
  suffices hS : ∃ co : Code, (Try.f7.body.bind (findG 46)) = some co ∧ co.wp Try.prog Q ⟨#[.slice (some A) n c, y1, y2, y3, y4, y5, y6, y7, y8, .slice (some ⟨gI, 0, none⟩) nI cI, y10, y11, y12, y13, y14, y15, y16, y17, y18, y19, .pointer (some ⟨R, 0, none⟩), .int .i64 (i : Nat), y22, y23, y24, y25, y26, y27, y28, y29, y30, y31, y32, y33, y34, y35, y36, y37, y38, y39, y40, y41, y42, y43, y44, y45, y46, y47, y48, y49, y50, y51, y52, y53, y54, y55, y56, y57, y58, y59, y60, y61, y62, y63, y64, y65, y66, y67, y68, y69, y70, y71, y72, y73, y74, y75, y76, y77, y78, y79, y80, y81, y82, y83, y84, y85, y86, y87, y88, y89, y90, y91, y92, y93, y94, y95, y96, y97, y98, y99, y100, y101, y102, y103, y104, y105, y106, y107, y108, y109, y110, y111, y112, y113, y114, y115, y116, y117, y118, y119, y120, y121, y122, y123, y124, y125, y126, y127, y128, y129, y130, y131, y132, y133, y134, y135, y136, y137, y138, y139, y140, y141, y142, y143, y144, y145, y146, y147, y148, y149, y150, y151, y152, y153, y154, y155, y156, y157, y158, y159, y160, y161, y162, y163, y164, y165, y166, y167, y168, y169, y170, y171, y172, y173, y174, y175, y176, y177, y178, y179, y180, y181, y182, y183, y184, y185, y186, y187, y188, y189, y190, y191, y192, y193, y194, y195, y196, y197, y198, y199, y200, y201, y202, y203, y204, y205, y206, y207, y208, y209, y210, y211, y212, y213, y214, y215, y216, y217, y218, y219, y220, y221, y222, y223, y224, y225, y226, y227, y228, y229, y230, y231, y232, y233, y234, y235, y236, y237, y238, y239, y240, y241, y242, y243, y244, y245, y246, y247, y248, y249, y250, y251, y252, y253], df⟩ W by
    obtain ⟨c2, h1, h2⟩ := hS
    rw [hc] at h1
    cases h1
    exact h2
  clear hc
  refine ⟨_, rfl, ?_⟩
  obtain ⟨j0, hJ, hy0, hy1, hy2⟩ := info_partsK infoKnK
  have hmx : maxLen ≤ 9223372036854775807 := by decide
  replace hQ := hideK hQ
  replace HK := hideK HK
  have HM := hideK hM
  obtain ⟨a0, a1, a2, a3, a4⟩ := HK.out W (Below.refl _ _)
  obtain ⟨r0, r1, f0, f1⟩ := hM.cells
  have hRz := hM.lt
  have r0' : (W.alloc (.cells #[.int .i64 x.i.N, .int .i64 x.i.D, .int .i64 x.o.N, .int .i64 x.o.D] 45)).cell? ⟨R, 0, none⟩ = some v := (World.cell?_of_block (Below.heap_alloc W _ R hRz)).trans r0
  clear hM
  refine Code.wp_mono (Q := fun x a w => match x with | .normal => Q .normal a w | _ => False) (fun x a w h => by cases x <;> first | exact h | exact h.elim) ?_
  dsimp only [List.append]
  go_region_law
    ((refine step_append_lies _ (by rfl) _ _ 22 (by rfl) base 45 j0 _ 4 32 Try.underlying22 hJ hy0 hy1 hy2 rfl (by decide) v KL.length (flatKn KL) (by rfl) ((own_growK HM.out.kn (bel1 W _)).drew) ⟨W.heap.size, 0, none⟩ 1 1 [.int .i64 x.i.N, .int .i64 x.i.D, .int .i64 x.o.N, .int .i64 x.o.D] (by rfl) rfl (World.news_of_block (cs := #[.int .i64 x.i.N, .int .i64 x.i.D, .int .i64 x.o.N, .int .i64 x.o.D]) (t := 45) (fr := (0, 0)) (World.alloc_heap_new W _)) (by simp [Value.oneCell']) (by omega) (by unfold maxLen; omega) (by omega) (by simp; omega) (W.heap.size + 1) (by simp) ?_; intro gg cap5 w5 hown5 hgrow hat5 hlt5;
      obtain ⟨k0, k1, g0, g1⟩ := cells_ofV (HM.out.grew ((bel1 W (.cells #[.int .i64 x.i.N, .int .i64 x.i.D, .int .i64 x.o.N, .int .i64 x.o.D] 45)).drew) hgrow (.inl rfl))))
  all_goals
    have HF := hideK (And.intro hown5 hgrow)
    exact hQ.out _ _ _ _ _ _ _ _ _ _ _ _ _ _ _ _ _ _ (HM.out.put0 (bel1 W _).drew HF.out.2 HF.out.1) (below_put (Below.refl _ _) (bel1 W _).drew HF.out.2 (fun k hk => (HM.out.kn.lt k hk).1) hbz hbR _)
set_option maxRecDepth 100000 in
set_option maxHeartbeats 4000000 in
theorem regG47 {cod : Code} {Q : Exit → Act → World → Prop} {df : List Deferred} {W : World} {gs gI ns cs nI cI i j : Nat} {b : Rt} {base R : Nat} {v u : Value} {KL : List Kn} {SL : List Rt} {y0 y1 y2 y3 y4 y6 y7 y8 y10 y11 y12 y13 y14 y15 y16 y17 y18 y19 y22 y23 y24 y25 y26 y27 y28 y29 y30 y31 y32 y33 y34 y35 y36 y37 y38 y39 y40 y41 y42 y43 y44 y45 y46 y47 y48 y49 y50 y51 y52 y53 y54 y55 y56 y57 y58 y59 y60 y61 y62 y63 y64 y65 y66 y67 y68 y69 y70 y71 y72 y73 y74 y75 y76 y77 y78 y79 y80 y81 y82 y83 y84 y85 y86 y87 y88 y89 y90 y91 y92 y93 y94 y95 y96 y97 y98 y99 y100 y101 y102 y103 y104 y105 y106 y107 y108 y109 y110 y111 y112 y113 y114 y115 y116 y117 y118 y119 y120 y121 y122 y123 y124 y125 y126 y127 y128 y129 y130 y131 y132 y133 y134 y135 y136 y137 y138 y139 y140 y141 y142 y143 y144 y145 y146 y147 y148 y149 y150 y151 y152 y153 y154 y155 y156 y157 y158 y159 y160 y161 y162 y163 y164 y165 y166 y167 y168 y169 y170 y171 y172 y173 y174 y175 y176 y177 y178 y179 y180 y181 y182 y183 y184 y185 y186 y187 y188 y189 y190 y191 y192 y193 y194 y195 y196 y197 y198 y199 y200 y201 y202 y203 y204 y205 y206 y207 y208 y209 y210 y211 y212 y213 y214 y215 y216 y217 y218 y219 y220 y221 y222 y223 y224 y225 y226 y227 y228 y229 y230 y231 y232 y233 y234 y235 y236 y237 y238 y239 y240 y241 y242 y243 y244 y245 y246 y247 y248 y249 y250 y251 y252 y253 : Value} (hc : Try.f7.body.bind (findG 47) = some cod)
    (dI : (i : Int) < (nI : Int)) (dn : (j : Int) < (ns : Int)) (hl : SL.length ≤ 200) (hM : RMapO W base R v u KL SL) (hbz : base ≤ W.heap.size) (hbR : base ≤ R) (HK : ∀ w', Below W.heap.size W w' → w'.cell? ⟨gI, i, none⟩ = some (.int .i64 (j : Nat)) ∧ w'.cell? ⟨gs, j * 2, none⟩ = some (.int .i64 b.N) ∧ w'.cell? ⟨gs, j * 2 + 1, none⟩ = some (.int .i64 b.D))
    (hQ : ∀ (z224 z225 z226 z227 z228 z229 z230 z231 z232 z233 z234 z235 z236 z237 z238 z239 v1 : Value) (X : World), RMapO X base R v v1 KL (SL ++ [b]) → Below base W X → Q .normal ⟨#[y0, y1, y2, y3, y4, .slice (some ⟨gs, 0, none⟩) ns cs, y6, y7, y8, .slice (some ⟨gI, 0, none⟩) nI cI, y10, y11, y12, y13, y14, y15, y16, y17, y18, y19, .pointer (some ⟨R, 0, none⟩), .int .i64 (i : Nat), y22, y23, y24, y25, y26, y27, y28, y29, y30, y31, y32, y33, y34, y35, y36, y37, y38, y39, y40, y41, y42, y43, y44, y45, y46, y47, y48, y49, y50, y51, y52, y53, y54, y55, y56, y57, y58, y59, y60, y61, y62, y63, y64, y65, y66, y67, y68, y69, y70, y71, y72, y73, y74, y75, y76, y77, y78, y79, y80, y81, y82, y83, y84, y85, y86, y87, y88, y89, y90, y91, y92, y93, y94, y95, y96, y97, y98, y99, y100, y101, y102, y103, y104, y105, y106, y107, y108, y109, y110, y111, y112, y113, y114, y115, y116, y117, y118, y119, y120, y121, y122, y123, y124, y125, y126, y127, y128, y129, y130, y131, y132, y133, y134, y135, y136, y137, y138, y139, y140, y141, y142, y143, y144, y145, y146, y147, y148, y149, y150, y151, y152, y153, y154, y155, y156, y157, y158, y159, y160, y161, y162, y163, y164, y165, y166, y167, y168, y169, y170, y171, y172, y173, y174, y175, y176, y177, y178, y179, y180, y181, y182, y183, y184, y185, y186, y187, y188, y189, y190, y191, y192, y193, y194, y195, y196, y197, y198, y199, y200, y201, y202, y203, y204, y205, y206, y207, y208, y209, y210, y211, y212, y213, y214, y215, y216, y217, y218, y219, y220, y221, y222, y223, z224, z225, z226, z227, z228, z229, z230, z231, z232, z233, z234, z235, z236, z237, z238, z239, y240, y241, y242, y243, y244, y245, y246, y247, y248, y249, y250, y251, y252, y253], df⟩ X) :
    cod.wp Try.prog Q ⟨#[y0, y1, y2, y3, y4, .slice (some ⟨gs, 0, none⟩) ns cs, y6, y7, y8, .slice (some ⟨gI, 0, none⟩) nI cI, y10, y11, y12, y13, y14, y15, y16, y17, y18, y19, .pointer (some ⟨R, 0, none⟩), .int .i64 (i : Nat), y22, y23, y24, y25, y26, y27, y28, y29, y30, y31, y32, y33, y34, y35, y36, y37, y38, y39, y40, y41, y42, y43, y44, y45, y46, y47, y48, y49, y50, y51, y52, y53, y54, y55, y56, y57, y58, y59, y60, y61, y62, y63, y64, y65, y66, y67, y68, y69, y70, y71, y72, y73, y74, y75, y76, y77, y78, y79, y80, y81, y82, y83, y84, y85, y86, y87, y88, y89, y90, y91, y92, y93, y94, y95, y96, y97, y98, y99, y100, y101, y102, y103, y104, y105, y106, y107, y108, y109, y110, y111, y112, y113, y114, y115, y116, y117, y118, y119, y120, y121, y122, y123, y124, y125, y126, y127, y128, y129, y130, y131, y132, y133, y134, y135, y136, y137, y138, y139, y140, y141, y142, y143, y144, y145, y146, y147, y148, y149, y150, y151, y152, y153, y154, y155, y156, y157, y158, y159, y160, y161, y162, y163, y164, y165, y166, y167, y168, y169, y170, y171, y172, y173, y174, y175, y176, y177, y178, y179, y180, y181, y182, y183, y184, y185, y186, y187, y188, y189, y190, y191, y192, y193, y194, y195, y196, y197, y198, y199, y200, y201, y202, y203, y204, y205, y206, y207, y208, y209, y210, y211, y212, y213, y214, y215, y216, y217, y218, y219, y220, y221, y222, y223, y224, y225, y226, y227, y228, y229, y230, y231, y232, y233, y234, y235, y236, y237, y238, y239, y240, y241, y242, y243, y244, y245, y246, y247, y248, y249, y250, y251, y252, y253], df⟩ W := by
  suffices hS : ∃ co : Code, (Try.f7.body.bind (findG 47)) = some co ∧ co.wp Try.prog Q ⟨#[y0, y1, y2, y3, y4, .slice (some ⟨gs, 0, none⟩) ns cs, y6, y7, y8, .slice (some ⟨gI, 0, none⟩) nI cI, y10, y11, y12, y13, y14, y15, y16, y17, y18, y19, .pointer (some ⟨R, 0, none⟩), .int .i64 (i : Nat), y22, y23, y24, y25, y26, y27, y28, y29, y30, y31, y32, y33, y34, y35, y36, y37, y38, y39, y40, y41, y42, y43, y44, y45, y46, y47, y48, y49, y50, y51, y52, y53, y54, y55, y56, y57, y58, y59, y60, y61, y62, y63, y64, y65, y66, y67, y68, y69, y70, y71, y72, y73, y74, y75, y76, y77, y78, y79, y80, y81, y82, y83, y84, y85, y86, y87, y88, y89, y90, y91, y92, y93, y94, y95, y96, y97, y98, y99, y100, y101, y102, y103, y104, y105, y106, y107, y108, y109, y110, y111, y112, y113, y114, y115, y116, y117, y118, y119, y120, y121, y122, y123, y124, y125, y126, y127, y128, y129, y130, y131, y132, y133, y134, y135, y136, y137, y138, y139, y140, y141, y142, y143, y144, y145, y146, y147, y148, y149, y150, y151, y152, y153, y154, y155, y156, y157, y158, y159, y160, y161, y162, y163, y164, y165, y166, y167, y168, y169, y170, y171, y172, y173, y174, y175, y176, y177, y178, y179, y180, y181, y182, y183, y184, y185, y186, y187, y188, y189, y190, y191, y192, y193, y194, y195, y196, y197, y198, y199, y200, y201, y202, y203, y204, y205, y206, y207, y208, y209, y210, y211, y212, y213, y214, y215, y216, y217, y218, y219, y220, y221, y222, y223, y224, y225, y226, y227, y228, y229, y230, y231, y232, y233, y234, y235, y236, y237, y238, y239, y240, y241, y242, y243, y244, y245, y246, y247, y248, y249, y250, y251, y252, y253], df⟩ W by
    obtain ⟨c2, h1, h2⟩ := hS
    rw [hc] at h1
    cases h1
    exact h2
  clear hc
  refine ⟨_, rfl, ?_⟩
  obtain ⟨j0, hJ, hy0, hy1, hy2⟩ := info_partsK infoRtK
  have hmx : maxLen ≤ 9223372036854775807 := by decide
  replace hQ := hideK hQ
  replace HK := hideK HK
  have HM := hideK hM
  obtain ⟨a0, a1, a2⟩ := HK.out W (Below.refl _ _)
  obtain ⟨r0, r1, f0, f1⟩ := hM.cells
  have hRz := hM.lt
  have r0' : (W.alloc (.cells #[.int .i64 b.N, .int .i64 b.D] 42)).cell? ⟨R, 1, none⟩ = some u := (World.cell?_of_block (Below.heap_alloc W _ R hRz)).trans r1
  clear hM
  refine Code.wp_mono (Q := fun x a w => match x with | .normal => Q .normal a w | _ => False) (fun x a w h => by cases x <;> first | exact h | exact h.elim) ?_
  dsimp only [List.append]
  go_region_law
    ((refine step_append_lies _ (by rfl) _ _ 23 (by rfl) base 42 j0 _ 2 16 Try.underlying23 hJ hy0 hy1 hy2 rfl (by decide) u SL.length (flatRt SL) (by rfl) ((own_growK HM.out.rt (bel1 W _)).drew) ⟨W.heap.size, 0, none⟩ 1 1 [.int .i64 b.N, .int .i64 b.D] (by rfl) rfl (World.news_of_block (cs := #[.int .i64 b.N, .int .i64 b.D]) (t := 42) (fr := (0, 0)) (World.alloc_heap_new W _)) (by simp [Value.oneCell']) (by omega) (by unfold maxLen; omega) (by omega) (by simp; omega) (W.heap.size + 1) (by simp) ?_; intro gg cap5 w5 hown5 hgrow hat5 hlt5;
      obtain ⟨k0, k1, g0, g1⟩ := cells_ofV (HM.out.grew ((bel1 W (.cells #[.int .i64 b.N, .int .i64 b.D] 42)).drew) hgrow (.inr rfl))))
  all_goals
    have HF := hideK (And.intro hown5 hgrow)
    exact hQ.out _ _ _ _ _ _ _ _ _ _ _ _ _ _ _ _ _ _ (HM.out.put1 (bel1 W _).drew HF.out.2 HF.out.1) (below_put (Below.refl _ _) (bel1 W _).drew HF.out.2 (fun k hk => (HM.out.rt.lt k hk).1) hbz hbR _)
set_option maxRecDepth 100000 in
set_option maxHeartbeats 4000000 in
theorem regG48 {cod : Code} {Q : Exit → Act → World → Prop} {df : List Deferred} {W : World} {q : Nat} {x : Kn} {base R : Nat} {v u : Value} {KL : List Kn} {SL : List Rt} {y0 y1 y2 y3 y4 y5 y6 y7 y8 y9 y10 y11 y12 y13 y14 y15 y16 y17 y18 y21 y22 y23 y24 y25 y26 y27 y28 y29 y30 y31 y32 y33 y34 y35 y36 y37 y38 y39 y40 y41 y42 y43 y44 y45 y46 y47 y48 y49 y50 y51 y52 y53 y54 y55 y56 y57 y58 y59 y60 y61 y62 y63 y64 y65 y66 y67 y68 y69 y70 y71 y72 y73 y74 y75 y76 y77 y78 y79 y80 y81 y82 y83 y84 y85 y86 y87 y88 y89 y90 y91 y92 y93 y94 y95 y96 y97 y98 y99 y100 y101 y102 y103 y104 y105 y106 y107 y108 y109 y110 y111 y112 y113 y114 y115 y116 y117 y118 y119 y120 y121 y122 y123 y124 y125 y126 y127 y128 y129 y130 y131 y132 y133 y134 y135 y136 y137 y138 y139 y140 y141 y142 y143 y144 y145 y146 y147 y148 y149 y150 y151 y152 y153 y154 y155 y156 y157 y158 y159 y160 y161 y162 y163 y164 y165 y166 y167 y168 y169 y170 y171 y172 y173 y174 y175 y176 y177 y178 y179 y180 y181 y182 y183 y184 y185 y186 y187 y188 y189 y190 y191 y192 y193 y194 y195 y196 y197 y198 y199 y200 y201 y202 y203 y204 y205 y206 y207 y208 y209 y210 y211 y212 y213 y214 y215 y216 y217 y218 y219 y220 y221 y222 y223 y224 y225 y226 y227 y228 y229 y230 y231 y232 y233 y234 y235 y236 y237 y238 y239 y240 y241 y242 y243 y244 y245 y246 y247 y248 y249 y250 y251 y252 y253 : Value} (hc : Try.f7.body.bind (findG 48) = some cod)
     (hl : KL.length ≤ 200) (hM : RMapO W base R v u KL SL) (hbz : base ≤ W.heap.size) (hbR : base ≤ R) (HK : ∀ w', Below W.heap.size W w' → w'.cell? ⟨q, 0, none⟩ = some (.int .i64 x.i.N) ∧ w'.cell? ⟨q, 1, none⟩ = some (.int .i64 x.i.D) ∧ w'.cell? ⟨q, 2, none⟩ = some (.int .i64 x.o.N) ∧ w'.cell? ⟨q, 3, none⟩ = some (.int .i64 x.o.D))
    (hQ : ∀ (z240 z241 z242 z243 z244 z245 z246 z247 z248 z249 v1 : Value) (X : World), RMapO X base R v1 u (KL ++ [x]) SL → Below base W X → Q .normal ⟨#[y0, y1, y2, y3, y4, y5, y6, y7, y8, y9, y10, y11, y12, y13, y14, y15, y16, y17, y18, .pointer (some ⟨q, 0, none⟩), .pointer (some ⟨R, 0, none⟩), y21, y22, y23, y24, y25, y26, y27, y28, y29, y30, y31, y32, y33, y34, y35, y36, y37, y38, y39, y40, y41, y42, y43, y44, y45, y46, y47, y48, y49, y50, y51, y52, y53, y54, y55, y56, y57, y58, y59, y60, y61, y62, y63, y64, y65, y66, y67, y68, y69, y70, y71, y72, y73, y74, y75, y76, y77, y78, y79, y80, y81, y82, y83, y84, y85, y86, y87, y88, y89, y90, y91, y92, y93, y94, y95, y96, y97, y98, y99, y100, y101, y102, y103, y104, y105, y106, y107, y108, y109, y110, y111, y112, y113, y114, y115, y116, y117, y118, y119, y120, y121, y122, y123, y124, y125, y126, y127, y128, y129, y130, y131, y132, y133, y134, y135, y136, y137, y138, y139, y140, y141, y142, y143, y144, y145, y146, y147, y148, y149, y150, y151, y152, y153, y154, y155, y156, y157, y158, y159, y160, y161, y162, y163, y164, y165, y166, y167, y168, y169, y170, y171, y172, y173, y174, y175, y176, y177, y178, y179, y180, y181, y182, y183, y184, y185, y186, y187, y188, y189, y190, y191, y192, y193, y194, y195, y196, y197, y198, y199, y200, y201, y202, y203, y204, y205, y206, y207, y208, y209, y210, y211, y212, y213, y214, y215, y216, y217, y218, y219, y220, y221, y222, y223, y224, y225, y226, y227, y228, y229, y230, y231, y232, y233, y234, y235, y236, y237, y238, y239, z240, z241, z242, z243, z244, z245, z246, z247, z248, z249, y250, y251, y252, y253], df⟩ X) :
    cod.wp Try.prog Q ⟨#[y0, y1, y2, y3, y4, y5, y6, y7, y8, y9, y10, y11, y12, y13, y14, y15, y16, y17, y18, .pointer (some ⟨q, 0, none⟩), .pointer (some ⟨R, 0, none⟩), y21, y22, y23, y24, y25, y26, y27, y28, y29, y30, y31, y32, y33, y34, y35, y36, y37, y38, y39, y40, y41, y42, y43, y44, y45, y46, y47, y48, y49, y50, y51, y52, y53, y54, y55, y56, y57, y58, y59, y60, y61, y62, y63, y64, y65, y66, y67, y68, y69, y70, y71, y72, y73, y74, y75, y76, y77, y78, y79, y80, y81, y82, y83, y84, y85, y86, y87, y88, y89, y90, y91, y92, y93, y94, y95, y96, y97, y98, y99, y100, y101, y102, y103, y104, y105, y106, y107, y108, y109, y110, y111, y112, y113, y114, y115, y116, y117, y118, y119, y120, y121, y122, y123, y124, y125, y126, y127, y128, y129, y130, y131, y132, y133, y134, y135, y136, y137, y138, y139, y140, y141, y142, y143, y144, y145, y146, y147, y148, y149, y150, y151, y152, y153, y154, y155, y156, y157, y158, y159, y160, y161, y162, y163, y164, y165, y166, y167, y168, y169, y170, y171, y172, y173, y174, y175, y176, y177, y178, y179, y180, y181, y182, y183, y184, y185, y186, y187, y188, y189, y190, y191, y192, y193, y194, y195, y196, y197, y198, y199, y200, y201, y202, y203, y204, y205, y206, y207, y208, y209, y210, y211, y212, y213, y214, y215, y216, y217, y218, y219, y220, y221, y222, y223, y224, y225, y226, y227, y228, y229, y230, y231, y232, y233, y234, y235, y236, y237, y238, y239, y240, y241, y242, y243, y244, y245, y246, y247, y248, y249, y250, y251, y252, y253], df⟩ W := by
  suffices hS : ∃ co : Code, (Try.f7.body.bind (findG 48)) = some co ∧ co.wp Try.prog Q ⟨#[y0, y1, y2, y3, y4, y5, y6, y7, y8, y9, y10, y11, y12, y13, y14, y15, y16, y17, y18, .pointer (some ⟨q, 0, none⟩), .pointer (some ⟨R, 0, none⟩), y21, y22, y23, y24, y25, y26, y27, y28, y29, y30, y31, y32, y33, y34, y35, y36, y37, y38, y39, y40, y41, y42, y43, y44, y45, y46, y47, y48, y49, y50, y51, y52, y53, y54, y55, y56, y57, y58, y59, y60, y61, y62, y63, y64, y65, y66, y67, y68, y69, y70, y71, y72, y73, y74, y75, y76, y77, y78, y79, y80, y81, y82, y83, y84, y85, y86, y87, y88, y89, y90, y91, y92, y93, y94, y95, y96, y97, y98, y99, y100, y101, y102, y103, y104, y105, y106, y107, y108, y109, y110, y111, y112, y113, y114, y115, y116, y117, y118, y119, y120, y121, y122, y123, y124, y125, y126, y127, y128, y129, y130, y131, y132, y133, y134, y135, y136, y137, y138, y139, y140, y141, y142, y143, y144, y145, y146, y147, y148, y149, y150, y151, y152, y153, y154, y155, y156, y157, y158, y159, y160, y161, y162, y163, y164, y165, y166, y167, y168, y169, y170, y171, y172, y173, y174, y175, y176, y177, y178, y179, y180, y181, y182, y183, y184, y185, y186, y187, y188, y189, y190, y191, y192, y193, y194, y195, y196, y197, y198, y199, y200, y201, y202, y203, y204, y205, y206, y207, y208, y209, y210, y211, y212, y213, y214, y215, y216, y217, y218, y219, y220, y221, y222, y223, y224, y225, y226, y227, y228, y229, y230, y231, y232, y233, y234, y235, y236, y237, y238, y239, y240, y241, y242, y243, y244, y245, y246, y247, y248, y249, y250, y251, y252, y253], df⟩ W by
    obtain ⟨c2, h1, h2⟩ := hS
    rw [hc] at h1
    cases h1
    exact h2
  clear hc
  refine ⟨_, rfl, ?_⟩
  obtain ⟨j0, hJ, hy0, hy1, hy2⟩ := info_partsK infoKnK
  have hmx : maxLen ≤ 9223372036854775807 := by decide
  replace hQ := hideK hQ
  replace HK := hideK HK
  have HM := hideK hM
  obtain ⟨a0, a1, a2, a3⟩ := HK.out W (Below.refl _ _)
  obtain ⟨r0, r1, f0, f1⟩ := hM.cells
  have hRz := hM.lt
  have r0' : (W.alloc (.cells #[.int .i64 x.i.N, .int .i64 x.i.D, .int .i64 x.o.N, .int .i64 x.o.D] 45)).cell? ⟨R, 0, none⟩ = some v := (World.cell?_of_block (Below.heap_alloc W _ R hRz)).trans r0
  clear hM
  refine Code.wp_mono (Q := fun x a w => match x with | .normal => Q .normal a w | _ => False) (fun x a w h => by cases x <;> first | exact h | exact h.elim) ?_
  dsimp only [List.append]
  go_region_law
    ((refine step_append_lies _ (by rfl) _ _ 22 (by rfl) base 45 j0 _ 4 32 Try.underlying22 hJ hy0 hy1 hy2 rfl (by decide) v KL.length (flatKn KL) (by rfl) ((own_growK HM.out.kn (bel1 W _)).drew) ⟨W.heap.size, 0, none⟩ 1 1 [.int .i64 x.i.N, .int .i64 x.i.D, .int .i64 x.o.N, .int .i64 x.o.D] (by rfl) rfl (World.news_of_block (cs := #[.int .i64 x.i.N, .int .i64 x.i.D, .int .i64 x.o.N, .int .i64 x.o.D]) (t := 45) (fr := (0, 0)) (World.alloc_heap_new W _)) (by simp [Value.oneCell']) (by omega) (by unfold maxLen; omega) (by omega) (by simp; omega) (W.heap.size + 1) (by simp) ?_; intro gg cap5 w5 hown5 hgrow hat5 hlt5;
      obtain ⟨k0, k1, g0, g1⟩ := cells_ofV (HM.out.grew ((bel1 W (.cells #[.int .i64 x.i.N, .int .i64 x.i.D, .int .i64 x.o.N, .int .i64 x.o.D] 45)).drew) hgrow (.inl rfl))))
  all_goals
    have HF := hideK (And.intro hown5 hgrow)
    exact hQ.out _ _ _ _ _ _ _ _ _ _ _ _ (HM.out.put0 (bel1 W _).drew HF.out.2 HF.out.1) (below_put (Below.refl _ _) (bel1 W _).drew HF.out.2 (fun k hk => (HM.out.kn.lt k hk).1) hbz hbR _)
end Go.Proofs.Ytipnefaggpigfaa
