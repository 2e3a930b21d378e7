/- Several texts, one behind the other. -/
import Derived.Deep.CutBlock
import Derived.Laws.OwnMore
import Derived.Test.YtbiodfeanngkdaaDoorGH
import Derived.Test.YtbiodfeanngkdaaDoorGR
import Derived.Test.YtbiodfeanngkdaaDoorQuG
import Derived.Test.YtbiodfeanngkdaaDoorRS
import Derived.Test.YtbiodfeanngkdaaDoorSoO
import Derived.Test.YtbiodfeanngkdaaDoorSpE
import Derived.Test.YtbiodfeanngkdaaDoorSpI
import Derived.Test.YtbiodfeanngkdaaDoorSpJ
/- A part of a text's spans, as mathematics (P0706): cut and moved, or moved while it is cut. -/
namespace Go.Proofs.YtbiodfeanngkdaaDoor
open Go.RowKit Go.Shelf

/-- A span, cut to a part of the text. -/
def clS (f t : Int) (x : Sp) : Sp := ⟨max x.fr f, min x.tt t, x.kd, x.vl⟩
def fulS (x : Sp) : Bool := decide (x.fr < x.tt)
def clL (f t : Int) (L : List Sp) : List Sp := (L.map (clS f t)).filter fulS
/-- A span, cut and moved at once. -/
def suS (f t : Int) (x : Sp) : Sp := ⟨max x.fr f - f, min x.tt t - f, x.kd, x.vl⟩
def suL (f t : Int) (L : List Sp) : List Sp := (L.map (suS f t)).filter fulS
def InS (n : Int) (x : Sp) : Prop := 0 ≤ x.fr ∧ x.fr ≤ n ∧ 0 ≤ x.tt ∧ x.tt ≤ n
theorem wrap_in7 {z : Int} (h1 : -9000000000000000000 ≤ z) (h2 : z ≤ 9000000000000000000) : IntKind.i64.wrap z = z := IntWalk.i64_in _ ⟨by omega, by omega⟩
theorem su_mv (f t n : Int) (hf : 0 ≤ f) (hft : f ≤ t) (ht : t ≤ n) (hn : n ≤ 1000000) (x : Sp) (h : InS n x) : mvS (-f) (clS f t x) = suS f t x := by
  obtain ⟨a, b, c, d⟩ := h
  unfold mvS clS suS
  dsimp only
  rw [wrap_in7 (by omega) (by omega), wrap_in7 (by omega) (by omega)]
  rfl
theorem cl_snoc (f t : Int) (L : List Sp) (x : Sp) : clL f t (L ++ [x]) = if (clS f t x).fr < (clS f t x).tt then clL f t L ++ [clS f t x] else clL f t L := by
  unfold clL
  rw [List.map_append, List.filter_append]
  by_cases h : (clS f t x).fr < (clS f t x).tt
  · rw [if_pos h]; simp [fulS, h]
  · rw [if_neg h]; simp [fulS, h]
theorem su_snoc (f t : Int) (L : List Sp) (x : Sp) : suL f t (L ++ [x]) = if (suS f t x).fr < (suS f t x).tt then suL f t L ++ [suS f t x] else suL f t L := by
  unfold suL
  rw [List.map_append, List.filter_append]
  by_cases h : (suS f t x).fr < (suS f t x).tt
  · rw [if_pos h]; simp [fulS, h]
  · rw [if_neg h]; simp [fulS, h]
theorem su_cl (f t n : Int) (hf : 0 ≤ f) (hft : f ≤ t) (ht : t ≤ n) (hn : n ≤ 1000000) : ∀ (L : List Sp), (∀ x ∈ L, InS n x) → (clL f t L).map (mvS (-f)) = suL f t L
  | [], _ => rfl
  | x :: L, h => by
    have ih := su_cl f t n hf hft ht hn L (fun y hy => h y (List.mem_cons_of_mem _ hy))
    have e := su_mv f t n hf hft ht hn x (h x (List.mem_cons_self ..))
    unfold clL suL at ih ⊢
    rw [List.map_cons, List.map_cons]
    have q : fulS (clS f t x) = fulS (suS f t x) := by
      unfold fulS clS suS
      exact decide_eq_decide.2 (by constructor <;> intro k <;> simp only at k ⊢ <;> omega)
    by_cases k : fulS (suS f t x) = true
    · rw [List.filter_cons_of_pos k, List.filter_cons_of_pos (q.trans k), List.map_cons, ih, e]
    · rw [List.filter_cons_of_neg k, List.filter_cons_of_neg (by rw [q]; exact k), ih]
theorem isort_inR {α : Type} (lt : α → α → Bool) (z : α) : ∀ (r : List α), z ∈ isort lt r.reverse ↔ z ∈ r
  | [] => by simp [isort]
  | x :: r => by
    rw [List.reverse_cons, isort_snoc, mg_mem, isort_inR lt z r]
    simp [or_comm]
theorem isort_mem' {α : Type} (lt : α → α → Bool) (z : α) (l : List α) : z ∈ isort lt l ↔ z ∈ l := by
  have := isort_inR lt z l.reverse
  rw [List.reverse_reverse] at this
  rw [this]; simp
end Go.Proofs.YtbiodfeanngkdaaDoor

/- The reference of chapter 7: fits, within, cross, Check. -/
namespace Go.Proofs.YtbiodfeanngkdaaDoor
open Go.RowKit Go.Shelf
attribute [local go_sem] Oper.semAt_some

def inB (a b : Sp) : Bool := decide (b.fr ≤ a.fr ∧ a.tt ≤ b.tt)
instance (a b : Sp) : Decidable (crS a b) := by unfold crS; infer_instance
theorem crS_in (a b : Sp) : crS a b ↔ a.fr < b.tt ∧ b.fr < a.tt ∧ inB a b = false ∧ inB b a = false := by
  unfold crS inB
  simp only [decide_eq_false_iff_not]
theorem tx_text {W : World} {P : Nat} {a b : Value} (h : W.heap[P]? = some (.cells #[a, b] 24 (0, 0))) : W.cell? ⟨P, 0, none⟩ = some a ∧ W.cell? ⟨P, 1, none⟩ = some b := by simp [World.cell?, h]
/-- No two of the spans up to the i-th one cross. -/
def NoCr (D : List Sp) (i : Nat) : Prop := ∀ j k x y, j < i → k < j → D[j]? = some x → D[k]? = some y → ¬ crS x y
theorem noCr_all {D : List Sp} (h : NoCr D D.length) (hf : ∀ x ∈ D, x.fr < x.tt) : crB D = false := by
  rw [← Bool.not_eq_true, crB_iff D hf]
  rintro ⟨x, hx, y, hy, hc⟩
  obtain ⟨i, hi, rfl⟩ := List.getElem_of_mem hx
  obtain ⟨j, hj, rfl⟩ := List.getElem_of_mem hy
  rcases Nat.lt_trichotomy i j with l | l | l
  · exact h j i _ _ hj l (List.getElem?_eq_getElem hj) (List.getElem?_eq_getElem hi) hc
  · subst l
    exact crS_irr _ hc
  · exact h i j _ _ hi l (List.getElem?_eq_getElem hi) (List.getElem?_eq_getElem hj) (crS_symm hc)
theorem cr_some {D : List Sp} {x y : Sp} (hx : x ∈ D) (hy : y ∈ D) (h : crS x y) (hf : ∀ x ∈ D, x.fr < x.tt) : crB D = true := (crB_iff D hf).2 ⟨y, hy, x, hx, h⟩
theorem fit_lt {D : List Sp} {n : Int} (h : allB D n = true) : ∀ x ∈ D, x.fr < x.tt := fun x hx => by
  have h1 := List.all_eq_true.1 h x hx
  have h2 := of_decide_eq_true h1
  omega
end Go.Proofs.YtbiodfeanngkdaaDoor

/- How a sign looks: the program's way and the reference's are the same (P0702), as mathematics. -/
namespace Go.Proofs.YtbiodfeanngkdaaDoor
open Go.RowKit Go.Shelf

/-- A span over a sign; one of a kind. -/
def covB (n : Int) (x : Sp) : Bool := decide (x.fr ≤ n ∧ n < x.tt)
def kinB (n k : Int) (x : Sp) : Bool := covB n x && decide (x.kd = k)
/-- The colour that the last one gives. -/
def colC : Option Sp → Int
  | none => 0
  | some x => IntKind.i64.wrap (x.vl + 1)
def lookF (D : List Sp) (n : Int) : At := ⟨D.any (kinB n 1), D.any (kinB n 2), D.any (kinB n 3), D.any (kinB n 4), colC ((D.filter (kinB n 5)).getLast?)⟩
theorem snocI {α : Type} {P : List α → Prop} (h0 : P []) (h1 : ∀ l x, P l → P (l ++ [x])) (l : List α) : P l := by
  have h : ∀ r : List α, P r.reverse := fun r => by
    induction r with
    | nil => exact h0
    | cons x r ih => rw [List.reverse_cons]; exact h1 _ _ ih
  have := h l.reverse
  rwa [List.reverse_reverse] at this
theorem kin_cov {n k : Int} {x : Sp} (h : ¬ (x.fr ≤ n ∧ n < x.tt)) : kinB n k x = false := by simp [kinB, covB, h]
theorem kin_eq {n k : Int} {x : Sp} (h : x.fr ≤ n ∧ n < x.tt) : kinB n k x = decide (x.kd = k) := by simp [kinB, covB, h]
theorem last_snoc_if {α : Type} (p : α → Bool) (l : List α) (x : α) : ((l ++ [x]).filter p).getLast? = if p x = true then some x else (l.filter p).getLast? := by
  rw [List.filter_append]
  by_cases h : p x = true
  · simp [h]
  · simp [h]
theorem look_form (D : List Sp) (n : Int) : lookA D n = lookF D n := by
  induction D using snocI with
  | h0 => rfl
  | h1 l x ih =>
    rw [lookA_snoc, ih]
    unfold lookF
    simp only [List.any_append, List.any_cons, List.any_nil, Bool.or_false, last_snoc_if]
    by_cases h : x.fr ≤ n ∧ n < x.tt
    · rw [if_pos h]
      simp only [kin_eq h]
      unfold layA
      by_cases k1 : x.kd = 1
      · simp [k1]
      · by_cases k2 : x.kd = 2
        · simp [k2]
        · by_cases k3 : x.kd = 3
          · simp [k3]
          · by_cases k4 : x.kd = 4
            · simp [k4]
            · by_cases k5 : x.kd = 5
              · simp [k5, colC]
              · simp [k1, k2, k3, k4, k5]
    · rw [if_neg h]
      simp only [kin_cov h]
      simp
/-- The reference's way: the innermost colour so far. -/
def rstep (n : Int) (st : At × Option Sp) (x : Sp) : At × Option Sp :=
  if x.fr ≤ n ∧ n < x.tt then
    if x.kd = 1 then ({ st.1 with b := true }, st.2) else if x.kd = 2 then ({ st.1 with i := true }, st.2) else if x.kd = 3 then ({ st.1 with u := true }, st.2) else if x.kd = 4 then ({ st.1 with s := true }, st.2)
    else match st.2 with
      | none => ({ st.1 with c := IntKind.i64.wrap (x.vl + 1) }, some x)
      | some y => if inB x y = true then ({ st.1 with c := IntKind.i64.wrap (x.vl + 1) }, some x) else st
  else st
def rfoldA (D : List Sp) (n : Int) : At × Option Sp := D.foldl (rstep n) (at0, none)
theorem rfold_snoc (D : List Sp) (x : Sp) (n : Int) : rfoldA (D ++ [x]) n = rstep n (rfoldA D n) x := by simp [rfoldA]
/-- Where one more span is put in its place, the last one of a kind. -/
theorem mgLast {p : Sp → Bool} (x : Sp) : ∀ (L : List Sp), Srt ltS L → ((mg ltS L [x]).filter p).getLast? = if p x = true then (match (L.filter p).getLast? with | none => some x | some y => if ltS x y = true then some y else some x) else (L.filter p).getLast?
  | [], _ => by
    rw [mg_left]
    by_cases h : p x = true
    · simp [h]
    · simp [h]
  | a :: L, hs => by
    have hs2 : Srt ltS L := (List.pairwise_cons.1 hs).2
    have ha := (List.pairwise_cons.1 hs).1
    cases hlt : ltS x a with
    | true =>
      rw [mg_lt _ _ hlt, mg_nil]
      by_cases h : p x = true
      · rw [if_pos h, List.filter_cons, if_pos h, List.getLast?_cons]
        cases hl : ((a :: L).filter p).getLast? with
        | none => rfl
        | some y =>
          have hy : y ∈ a :: L := (List.mem_filter.1 (List.mem_of_getLast? hl)).1
          have hxy : ltS x y = true := by
            rcases List.mem_cons.1 hy with rfl | hy
            · exact hlt
            · exact swoS.lt_le hlt (ha y hy)
          simp [hxy]
      · rw [if_neg h, List.filter_cons, if_neg h]
    | false =>
      rw [mg_ge _ _ hlt]
      have ih := mgLast (p := p) x L hs2
      by_cases h : p x = true
      · rw [if_pos h] at ih ⊢
        rw [List.filter_cons, List.filter_cons]
        by_cases hp : p a = true
        · rw [if_pos hp, if_pos hp, List.getLast?_cons, List.getLast?_cons, ih]
          cases hl : (L.filter p).getLast? with
          | none => simp [hlt]
          | some y => by_cases hxy : ltS x y = true <;> simp [hxy]
        · rw [if_neg hp, if_neg hp, ih]
      · rw [if_neg h] at ih ⊢
        rw [List.filter_cons, List.filter_cons]
        by_cases hp : p a = true
        · rw [if_pos hp, if_pos hp, List.getLast?_cons, List.getLast?_cons, ih]
        · rw [if_neg hp, if_neg hp, ih]
theorem any_isort (p : Sp → Bool) (D : List Sp) : (isort ltS D).any p = D.any p := by
  rw [Bool.eq_iff_iff, List.any_eq_true, List.any_eq_true]
  exact ⟨fun ⟨x, h1, h2⟩ => ⟨x, (isort_mem' ltS x D).1 h1, h2⟩, fun ⟨x, h1, h2⟩ => ⟨x, (isort_mem' ltS x D).2 h1, h2⟩⟩
/-- Two spans over one sign that do not cross: the one that is put behind is within the other. -/
theorem in_lt {n : Int} {x y : Sp} (hx : x.fr ≤ n ∧ n < x.tt) (hy : y.fr ≤ n ∧ n < y.tt) (hc : ¬ crS x y) : inB x y = !(ltS x y) := by
  have h1 := ltS_iff x y
  unfold crS at hc
  cases hl : ltS x y with
  | true =>
    have h2 := h1.1 hl
    unfold inB
    exact decide_eq_false (by omega)
  | false =>
    have h2 : ¬ (x.fr < y.fr ∨ (x.fr = y.fr ∧ y.tt < x.tt)) := fun h => by rw [h1.2 h] at hl; cases hl
    unfold inB
    exact decide_eq_true (by omega)
theorem look_ref (n : Int) (D : List Sp) : (∀ x ∈ D, 1 ≤ x.kd ∧ x.kd ≤ 5) → (∀ x ∈ D, ∀ y ∈ D, ¬ crS x y) → rfoldA D n = (lookF (isort ltS D) n, ((isort ltS D).filter (kinB n 5)).getLast?) := by
  induction D using snocI with
  | h0 => intro _ _; rfl
  | h1 l x ih =>
    intro hk hc
    have ih := ih (fun y hy => hk y (List.mem_append_left _ hy)) (fun y hy z hz => hc y (List.mem_append_left _ hy) z (List.mem_append_left _ hz))
    have hkx := hk x (by simp)
    rw [rfold_snoc, ih, isort_snoc, mgLast x _ (isort_sorted swoS l)]
    have hany : ∀ k, (mg ltS (isort ltS l) [x]).any (kinB n k) = (kinB n k x || (isort ltS l).any (kinB n k)) := fun k => by
      rw [← isort_snoc, any_isort, any_isort, List.any_append]
      simp [Bool.or_comm]
    unfold lookF
    rw [hany, hany, hany, hany, mgLast x _ (isort_sorted swoS l)]
    unfold rstep
    by_cases h : x.fr ≤ n ∧ n < x.tt
    · rw [if_pos h]
      simp only [kin_eq h]
      by_cases k1 : x.kd = 1
      · simp [k1]
      · by_cases k2 : x.kd = 2
        · simp [k2]
        · by_cases k3 : x.kd = 3
          · simp [k3]
          · by_cases k4 : x.kd = 4
            · simp [k4]
            · have k5 : x.kd = 5 := by omega
              cases hl : ((isort ltS l).filter (kinB n 5)).getLast? with
              | none => simp [k5, colC]
              | some y =>
                have hy := List.mem_filter.1 (List.mem_of_getLast? hl)
                have hy2 : y.fr ≤ n ∧ n < y.tt := by
                  have h9 := hy.2
                  unfold kinB covB at h9
                  simp at h9
                  exact h9.1
                have e := in_lt h hy2 (hc x (by simp) y (List.mem_append_left _ ((isort_mem' ltS y l).1 hy.1)))
                cases hlt : ltS x y with
                | true => rw [hlt] at e; simp [k5, e, hlt, colC]
                | false => rw [hlt] at e; simp [k5, e, hlt, colC]
    · rw [if_neg h]
      simp only [kin_cov h]
      simp
end Go.Proofs.YtbiodfeanngkdaaDoor

/- Runs are the looks of the signs, one behind the other, put together (P0703), as mathematics. -/
namespace Go.Proofs.YtbiodfeanngkdaaDoor
open Go.RowKit Go.Shelf

/-- The looks of so many signs, from one on. -/
def seg (D : List Sp) (i : Int) (k : Nat) : List At := (List.range k).map fun (j : Nat) => lookA D (i + (j : Int))
theorem seg_len (D : List Sp) (i : Int) (k : Nat) : (seg D i k).length = k := by simp [seg]
theorem seg_add (D : List Sp) (i : Int) (k m : Nat) : seg D i (k + m) = seg D i k ++ seg D (i + k) m := by
  unfold seg
  rw [List.range_add, List.map_append, List.map_map]
  congr 1
  refine List.map_congr_left fun j _ => ?_
  simp only [Function.comp]
  congr 1
  omega
/-- Looks put together, one by one. -/
def rleL : List Rn → Int → List At → List Rn
  | acc, _, [] => acc
  | acc, i, a :: l => rleL (runStep acc i (i + 1) a) (i + 1) l
theorem rle_app : ∀ (l m : List At) (acc : List Rn) (i : Int), rleL acc i (l ++ m) = rleL (rleL acc i l) (i + l.length) m
  | [], m, acc, i => by simp [rleL]
  | a :: l, m, acc, i => by
    rw [List.cons_append]
    show rleL (runStep acc i (i + 1) a) (i + 1) (l ++ m) = _
    rw [rle_app l m]
    show _ = rleL (rleL (runStep acc i (i + 1) a) (i + 1) l) _ m
    congr 1
    simp
    omega
theorem step_step (acc : List Rn) (i e f : Int) (a : At) : runStep (runStep acc i e a) e f a = runStep acc i f a := by
  unfold runStep
  cases h : acc.getLast? with
  | none => simp
  | some r =>
    by_cases hr : r.a = a
    · simp [hr]
    · simp [hr]
theorem rle_same (a : At) : ∀ (k : Nat) (acc : List Rn) (i : Int), rleL acc i (List.replicate (k + 1) a) = runStep acc i (i + (k + 1 : Nat)) a
  | 0, acc, i => by
    show rleL (runStep acc i (i + 1) a) (i + 1) [] = _
    rw [rleL]
    rfl
  | k + 1, acc, i => by
    show rleL (runStep acc i (i + 1) a) (i + 1) (List.replicate (k + 1) a) = _
    rw [rle_same a k, step_step]
    congr 1
    omega
theorem look_same (D : List Sp) (m n : Int) (h : ∀ x ∈ D, (x.fr ≤ m ∧ m < x.tt) ↔ (x.fr ≤ n ∧ n < x.tt)) : lookA D m = lookA D n := by
  rw [look_form, look_form]
  have hk : ∀ x ∈ D, ∀ k, kinB m k x = kinB n k x := fun x hx k => by
    unfold kinB covB
    rw [decide_eq_decide.2 (h x hx)]
  have ha : ∀ k, D.any (kinB m k) = D.any (kinB n k) := fun k => by
    rw [Bool.eq_iff_iff, List.any_eq_true, List.any_eq_true]
    exact ⟨fun ⟨x, h1, h2⟩ => ⟨x, h1, by rw [← hk x h1 k]; exact h2⟩, fun ⟨x, h1, h2⟩ => ⟨x, h1, by rw [hk x h1 k]; exact h2⟩⟩
  unfold lookF
  rw [ha, ha, ha, ha, List.filter_congr (fun x hx => hk x hx 5)]
theorem seg_same (D : List Sp) (i : Int) (k : Nat) (h : ∀ x ∈ D, (x.fr ≤ i ∨ i + k ≤ x.fr) ∧ (x.tt ≤ i ∨ i + k ≤ x.tt)) : seg D i k = List.replicate k (lookA D i) := by
  refine List.eq_replicate_iff.2 ⟨seg_len D i k, fun a ha => ?_⟩
  unfold seg at ha
  obtain ⟨j, hj, rfl⟩ := List.mem_map.1 ha
  have hj := List.mem_range.1 hj
  exact look_same D _ _ fun x hx => by have := h x hx; omega
/-- Bounds that rise from one up to n. -/
def UpL (n : Int) : Int → List Int → Prop
  | f, [] => f = n
  | f, t :: l => f < t ∧ UpL n t l
theorem upL_le {n : Int} : ∀ {l : List Int} {f : Int}, UpL n f l → f ≤ n ∧ ∀ t ∈ l, f < t
  | [], f, h => ⟨by have h : f = n := h; omega, fun t ht => by simp at ht⟩
  | t :: l, f, h => by
    have h2 := upL_le h.2
    have h1 := h.1
    exact ⟨by omega, fun z hz => by
      rcases List.mem_cons.1 hz with rfl | hz
      · exact h1
      · have := h2.2 z hz; omega⟩
theorem go_rle (D : List Sp) (n : Int) : ∀ (l : List Int) (f : Int) (acc : List Rn), UpL n f l → (∀ x ∈ D, (x.fr ≤ f ∨ x.fr ∈ l) ∧ (x.tt ≤ f ∨ x.tt ∈ l)) → runGo D acc f l = rleL acc f (seg D f (n - f).toNat)
  | [], f, acc, h, _ => by
    have h : f = n := h
    subst h
    rw [Int.sub_self]
    rfl
  | t :: l, f, acc, h, hx => by
    have h1 := h.1
    have h2 := upL_le h.2
    obtain ⟨k, hk⟩ : ∃ k : Nat, t = f + (k + 1 : Nat) := ⟨(t - f - 1).toNat, by omega⟩
    have e : (n - f).toNat = (k + 1) + (n - t).toNat := by omega
    have es : seg D f (k + 1) = List.replicate (k + 1) (lookA D f) := seg_same D f (k + 1) fun x hx2 => by
      obtain ⟨a1, a2⟩ := hx x hx2
      constructor
      · rcases a1 with a1 | a1
        · exact .inl a1
        · rcases List.mem_cons.1 a1 with a1 | a1
          · right; omega
          · right; have := h2.2 _ a1; omega
      · rcases a2 with a2 | a2
        · exact .inl a2
        · rcases List.mem_cons.1 a2 with a2 | a2
          · right; omega
          · right; have := h2.2 _ a2; omega
    rw [e, seg_add, rle_app, es, rle_same, ← hk, List.length_replicate]
    show runGo D (runStep acc f t (lookA D f)) t l = _
    rw [go_rle D n l t _ h.2 (fun x hx2 => by
      obtain ⟨a1, a2⟩ := hx x hx2
      constructor
      · rcases a1 with a1 | a1
        · left; omega
        · rcases List.mem_cons.1 a1 with a1 | a1
          · left; omega
          · exact .inr a1
      · rcases a2 with a2 | a2
        · left; omega
        · rcases List.mem_cons.1 a2 with a2 | a2
          · left; omega
          · exact .inr a2), hk]
/-- Rising numbers without those that stand twice. -/
theorem compact_up (d : Array Int) (hs : ∀ i j : Nat, i ≤ j → j < d.size → d[i]! ≤ d[j]!) : ∀ (m : Nat), m + 1 ≤ d.size →
    (Lib.compactUpTo d (m + 1)).Pairwise (· < ·) ∧ (∀ z ∈ Lib.compactUpTo d (m + 1), z ≤ d[m]!) ∧ (∀ j, j ≤ m → d[j]! ∈ Lib.compactUpTo d (m + 1)) ∧ (∀ z ∈ Lib.compactUpTo d (m + 1), ∃ j, j ≤ m ∧ z = d[j]!) ∧ (Lib.compactUpTo d (m + 1)).head? = some d[0]!
  | 0, _ => by
    have e : Lib.compactUpTo d (0 + 1) = [d[0]!] := by
      rw [Lib.compactUpTo_succ, Lib.keeps_lt_one d 0 (by omega)]
      rfl
    rw [e]
    refine ⟨List.pairwise_singleton _ _, fun z hz => ?_, fun j hj => ?_, fun z hz => ?_, rfl⟩
    · simp at hz; omega
    · have : j = 0 := by omega
      subst this
      simp
    · simp at hz; exact ⟨0, by omega, hz⟩
  | m + 1, hm => by
    obtain ⟨i1, i2, i3, i4, i5⟩ := compact_up d hs m (by omega)
    rw [Lib.compactUpTo_succ]
    by_cases hk : d[m + 1]! = d[m + 1 - 1]!
    · rw [Lib.keeps_neg (by omega) hk]
      have hk : d[m + 1]! = d[m]! := hk
      rw [if_neg (by simp), List.append_nil]
      refine ⟨i1, fun z hz => by rw [hk]; exact i2 z hz, fun j hj => ?_, fun z hz => ?_, i5⟩
      · by_cases e : j = m + 1
        · rw [e, hk]; exact i3 m (by omega)
        · exact i3 j (by omega)
      · obtain ⟨j, hj, e⟩ := i4 z hz
        exact ⟨j, by omega, e⟩
    · rw [Lib.keeps_pos hk]
      have hk : d[m + 1]! ≠ d[m]! := hk
      have hlt : d[m]! < d[m + 1]! := by have := hs m (m + 1) (by omega) (by omega); omega
      rw [if_pos rfl]
      refine ⟨List.pairwise_append.2 ⟨i1, List.pairwise_singleton _ _, fun a ha b hb => ?_⟩, fun z hz => ?_, fun j hj => ?_, fun z hz => ?_, ?_⟩
      · simp at hb
        have := i2 a ha
        omega
      · rcases List.mem_append.1 hz with hz | hz
        · have := i2 z hz; omega
        · simp at hz; omega
      · by_cases e : j = m + 1
        · rw [e]; simp
        · exact List.mem_append_left _ (i3 j (by omega))
      · rcases List.mem_append.1 hz with hz | hz
        · obtain ⟨j, hj, e⟩ := i4 z hz
          exact ⟨j, by omega, e⟩
        · simp at hz; exact ⟨m + 1, by omega, hz⟩
      · rw [List.head?_append, i5]
        rfl
theorem up_of (n : Int) : ∀ (l : List Int) (f : Int), (f :: l).Pairwise (· < ·) → (∀ z ∈ f :: l, z ≤ n) → n ∈ f :: l → UpL n f l
  | [], f, _, _, h => by
    have : n = f := by simpa using h
    exact this.symm
  | t :: l, f, hp, hle, h => by
    have hp1 := List.pairwise_cons.1 hp
    refine ⟨hp1.1 t (by simp), up_of n l t hp1.2 (fun z hz => hle z (List.mem_cons_of_mem _ hz)) ?_⟩
    rcases List.mem_cons.1 h with e | h
    · have h1 := hp1.1 t (by simp)
      have h2 := hle t (by simp)
      omega
    · exact h
/-- The bounds of right spans. -/
theorem bnd_up (n : Nat) (D : List Sp) (h : ∀ x ∈ D, 0 ≤ x.fr ∧ x.fr < x.tt ∧ x.tt ≤ n) : UpL n 0 (bndM n D) ∧ ∀ x ∈ D, (x.fr ≤ 0 ∨ x.fr ∈ bndM n D) ∧ (x.tt ≤ 0 ∨ x.tt ∈ bndM n D) := by
  have hmem : ∀ z : Int, z ∈ bndS n D ↔ z = 0 ∨ z = n ∨ ∃ x ∈ D, z = x.fr ∨ z = x.tt := fun z => by
    unfold bndS
    rw [List.mem_mergeSort]
    unfold bndL
    simp
  have hsort : (bndS n D).Pairwise fun x y => decide (x ≤ y) = true := by
    unfold bndS
    exact List.pairwise_mergeSort (fun a b c h1 h2 => by simp at *; omega) (fun a b => by simp; omega) _
  have hlen : 2 ≤ (bndS n D).length := by rw [bndS_len]; omega
  have hle : ∀ z ∈ bndS n D, 0 ≤ z ∧ z ≤ n := fun z hz => by
    rcases (hmem z).1 hz with e | e | ⟨x, hx, e⟩
    · omega
    · omega
    · have := h x hx; omega
  generalize hB : bndS n D = B at *
  have hget : ∀ j, j < B.length → B.toArray[j]! ∈ B := fun j hj => by
    have : B.toArray[j]! = B[j] := by simp [hj]
    rw [this]
    exact List.getElem_mem hj
  have hs : ∀ i j : Nat, i ≤ j → j < B.toArray.size → B.toArray[i]! ≤ B.toArray[j]! := fun i j hij hj => by
    have hj2 : j < B.length := by simpa using hj
    by_cases e : i = j
    · subst e; omega
    · have := List.pairwise_iff_getElem.1 hsort i j (by omega) hj2 (by omega)
      simp at this
      simpa [hj2, show i < B.length by omega] using this
  obtain ⟨m, hm⟩ : ∃ m, B.length = m + 1 := ⟨B.length - 1, by omega⟩
  obtain ⟨i1, i2, i3, i4, i5⟩ := compact_up B.toArray hs m (by simp; omega)
  have hC : bndC n D = Lib.compactUpTo B.toArray (m + 1) := by
    unfold bndC Lib.compact
    rw [hB, hm]
  have hCm : ∀ z, z ∈ bndC n D ↔ z ∈ B := fun z => by
    rw [hC]
    constructor
    · intro hz
      obtain ⟨j, hj, e⟩ := i4 z hz
      rw [e]
      exact hget j (by omega)
    · intro hz
      obtain ⟨j, hj, e⟩ := List.getElem_of_mem hz
      have := i3 j (by omega)
      simpa [hj, e] using this
  have h0 : (0 : Int) ∈ bndC n D := (hCm 0).2 ((hmem 0).2 (.inl rfl))
  have hn : (n : Int) ∈ bndC n D := (hCm n).2 ((hmem n).2 (.inr (.inl rfl)))
  rw [← hC] at i1
  have hlec : ∀ z ∈ bndC n D, 0 ≤ z ∧ z ≤ n := fun z hz => hle z ((hCm z).1 hz)
  have hall : ∀ x ∈ D, x.fr ∈ bndC n D ∧ x.tt ∈ bndC n D := fun x hx => ⟨(hCm _).2 ((hmem _).2 (.inr (.inr ⟨x, hx, .inl rfl⟩))), (hCm _).2 ((hmem _).2 (.inr (.inr ⟨x, hx, .inr rfl⟩)))⟩
  unfold bndM
  cases hc : bndC n D with
  | nil => rw [hc] at h0; simp at h0
  | cons f l =>
    rw [hc] at i1 h0 hn hlec hall
    have hf : f = 0 := by
      rcases List.mem_cons.1 h0 with e | e
      · exact e.symm
      · have h1 := (List.pairwise_cons.1 i1).1 0 e
        have h2 := hlec f (by simp)
        omega
    subst hf
    refine ⟨up_of n l 0 i1 (fun z hz => (hlec z hz).2) hn, fun x hx => ?_⟩
    obtain ⟨a1, a2⟩ := hall x hx
    constructor
    · rcases List.mem_cons.1 a1 with e | e
      · left; omega
      · exact .inr e
    · rcases List.mem_cons.1 a2 with e | e
      · left; omega
      · exact .inr e
/-- Runs are the looks of all signs, put together. -/
theorem runs_rle (n : Nat) (D : List Sp) (h : ∀ x ∈ D, 0 ≤ x.fr ∧ x.fr < x.tt ∧ x.tt ≤ n) : runsM n D = rleL [] 0 (seg D 0 n) := by
  obtain ⟨h1, h2⟩ := bnd_up n D h
  unfold runsM
  rw [go_rle D n _ 0 [] h1 h2, show ((n : Int) - 0).toNat = n by omega]
/-- What runs say, sign by sign. -/
def expR (L : List Rn) : List At := L.flatMap fun r => List.replicate (r.tt - r.fr).toNat r.a
theorem exp_step (acc : List Rn) (i : Int) (a : At) (h : ∀ r, acc.getLast? = some r → r.tt = i ∧ r.fr < i) : expR (runStep acc i (i + 1) a) = expR acc ++ [a] ∧ ∀ r, (runStep acc i (i + 1) a).getLast? = some r → r.tt = i + 1 ∧ r.fr < i + 1 := by
  unfold runStep
  cases hl : acc.getLast? with
  | none =>
    have : acc = [] := by simpa using hl
    subst this
    refine ⟨?_, fun r hr => ?_⟩
    · simp [expR, show (i + 1 - i).toNat = 1 by omega]
    · simp at hr; subst hr; simp; omega
  | some r =>
    obtain ⟨h1, h2⟩ := h r hl
    obtain ⟨A, rfl⟩ : ∃ A, acc = A ++ [r] := by
      refine ⟨acc.dropLast, ?_⟩
      have hne : acc ≠ [] := fun e => by rw [e] at hl; simp at hl
      rw [List.getLast?_eq_some_getLast hne] at hl
      have hl := Option.some.inj hl
      rw [← hl, List.dropLast_concat_getLast hne]
    by_cases hr : r.a = a
    · simp only [hr, if_true]
      refine ⟨?_, fun q hq => ?_⟩
      · obtain ⟨k, hk⟩ : ∃ k : Nat, i = r.fr + k := ⟨(i - r.fr).toNat, by omega⟩
        have e1 : (i + 1 - r.fr).toNat = k + 1 := by omega
        have e2 : (r.tt - r.fr).toNat = k := by omega
        simp [expR, e1, e2, hr, List.replicate_succ']
      · simp at hq; subst hq; simp; omega
    · simp only [if_neg hr]
      refine ⟨?_, fun q hq => ?_⟩
      · simp [expR, show (i + 1 - i).toNat = 1 by omega]
      · simp at hq; subst hq; simp; omega
theorem exp_rle : ∀ (l : List At) (acc : List Rn) (i : Int), (∀ r, acc.getLast? = some r → r.tt = i ∧ r.fr < i) → expR (rleL acc i l) = expR acc ++ l
  | [], acc, i, _ => by simp [rleL]
  | a :: l, acc, i, h => by
    obtain ⟨h1, h2⟩ := exp_step acc i a h
    show expR (rleL (runStep acc i (i + 1) a) (i + 1) l) = _
    rw [exp_rle l _ _ h2, h1, List.append_assoc]
    rfl
theorem rle_inj {l m : List At} (h : rleL [] 0 l = rleL [] 0 m) : l = m := by
  have h1 := exp_rle l [] 0 (fun r hr => by simp at hr)
  have h2 := exp_rle m [] 0 (fun r hr => by simp at hr)
  rw [h, h2] at h1
  simpa [expR] using h1.symm
end Go.Proofs.YtbiodfeanngkdaaDoor

/- The reference's looks (P0702). -/
namespace Go.Proofs.YtbiodfeanngkdaaDoor
open Go.RowKit Go.Shelf
attribute [local go_sem] Oper.semAt_some

/-- The place of the innermost colour so far. -/
def InR (D : List Sp) (i : Nat) (q : Option Sp) (v : Value) : Prop := (q = none ∧ v = .int .i64 (-1)) ∨ ∃ (k : Nat) (y : Sp), k < i ∧ D[k]? = some y ∧ q = some y ∧ v = .int .i64 (k : Nat)
theorem InR.more {D : List Sp} {i : Nat} {q : Option Sp} {v : Value} (h : InR D i q v) : InR D (i + 1) q v := by
  rcases h with h | ⟨k, y, h1, h2⟩
  · exact .inl h
  · exact .inr ⟨k, y, by omega, h2⟩
theorem AtC.but {W V : World} {P g : Nat} {a : At} (h : AtC W P a) (k : But (fun k => k = g) W V) (hne : P ≠ g) : AtC V P a := (k.same P h.lt hne).trans h
theorem tx_but {W V : World} {P g : Nat} {a b : Value} (h : W.heap[P]? = some (.cells #[a, b] 24 (0, 0))) (k : But (fun k => k = g) W V) (hne : P ≠ g) : V.heap[P]? = some (.cells #[a, b] 24 (0, 0)) := (k.same P (Array.getElem?_eq_some_iff.1 h).1 hne).trans h
theorem rst_no {n : Int} {st : At × Option Sp} {x : Sp} (h : ¬ (x.fr ≤ n ∧ n < x.tt)) : rstep n st x = st := by unfold rstep; rw [if_neg h]
theorem rst_1 {n : Int} {st : At × Option Sp} {x : Sp} (h : x.fr ≤ n ∧ n < x.tt) (k : x.kd = 1) : rstep n st x = ({ st.1 with b := true }, st.2) := by unfold rstep; rw [if_pos h, if_pos k]
theorem rst_2 {n : Int} {st : At × Option Sp} {x : Sp} (h : x.fr ≤ n ∧ n < x.tt) (k : x.kd = 2) : rstep n st x = ({ st.1 with i := true }, st.2) := by unfold rstep; rw [if_pos h, if_neg (by omega), if_pos k]
theorem rst_3 {n : Int} {st : At × Option Sp} {x : Sp} (h : x.fr ≤ n ∧ n < x.tt) (k : x.kd = 3) : rstep n st x = ({ st.1 with u := true }, st.2) := by unfold rstep; rw [if_pos h, if_neg (by omega), if_neg (by omega), if_pos k]
theorem rst_4 {n : Int} {st : At × Option Sp} {x : Sp} (h : x.fr ≤ n ∧ n < x.tt) (k : x.kd = 4) : rstep n st x = ({ st.1 with s := true }, st.2) := by unfold rstep; rw [if_pos h, if_neg (by omega), if_neg (by omega), if_neg (by omega), if_pos k]
theorem rst_n {n : Int} {a : At} {x : Sp} (h : x.fr ≤ n ∧ n < x.tt) (k1 : x.kd ≠ 1) (k2 : x.kd ≠ 2) (k3 : x.kd ≠ 3) (k4 : x.kd ≠ 4) : rstep n (a, none) x = ({ a with c := IntKind.i64.wrap (x.vl + 1) }, some x) := by unfold rstep; rw [if_pos h, if_neg k1, if_neg k2, if_neg k3, if_neg k4]
theorem rst_s {n : Int} {a : At} {x y : Sp} (h : x.fr ≤ n ∧ n < x.tt) (k1 : x.kd ≠ 1) (k2 : x.kd ≠ 2) (k3 : x.kd ≠ 3) (k4 : x.kd ≠ 4) : rstep n (a, some y) x = if inB x y = true then ({ a with c := IntKind.i64.wrap (x.vl + 1) }, some x) else (a, some y) := by unfold rstep; rw [if_pos h, if_neg k1, if_neg k2, if_neg k3, if_neg k4]
theorem at_set0 {W : World} {B : Nat} {a : At} (h : AtC W B a) : AtC (W.setCell ⟨B, 0, none⟩ (.bool true)) B { a with b := true } := by
  have h9 := set_atS h 0 (.bool true)
  first | exact h9 | (simpa [AtC] using h9)
theorem at_set1 {W : World} {B : Nat} {a : At} (h : AtC W B a) : AtC (W.setCell ⟨B, 1, none⟩ (.bool true)) B { a with i := true } := by
  have h9 := set_atS h 1 (.bool true)
  first | exact h9 | (simpa [AtC] using h9)
theorem at_set2 {W : World} {B : Nat} {a : At} (h : AtC W B a) : AtC (W.setCell ⟨B, 2, none⟩ (.bool true)) B { a with u := true } := by
  have h9 := set_atS h 2 (.bool true)
  first | exact h9 | (simpa [AtC] using h9)
theorem at_set3 {W : World} {B : Nat} {a : At} (h : AtC W B a) : AtC (W.setCell ⟨B, 3, none⟩ (.bool true)) B { a with s := true } := by
  have h9 := set_atS h 3 (.bool true)
  first | exact h9 | (simpa [AtC] using h9)
theorem at_set4 {W : World} {B : Nat} {a : At} (h : AtC W B a) (v : Int) : AtC (W.setCell ⟨B, 4, none⟩ (.int .i64 v)) B { a with c := v } := by
  have h9 := set_atS h 4 (.int .i64 v)
  first | exact h9 | (simpa [AtC] using h9)
theorem at_all {W : World} {B : Nat} {a : At} (h : AtC W B a) {b0 b1 b2 b3 : Bool} {c4 : Int} : AtC (((((W.setCell ⟨B, 0, none⟩ (.bool b0)).setCell ⟨B, 1, none⟩ (.bool b1)).setCell ⟨B, 2, none⟩ (.bool b2)).setCell ⟨B, 3, none⟩ (.bool b3)).setCell ⟨B, 4, none⟩ (.int .i64 c4)) B ⟨b0, b1, b2, b3, c4⟩ := by
  have h9 := set_atS (set_atS (set_atS (set_atS (set_atS h 0 (.bool b0)) 1 (.bool b1)) 2 (.bool b2)) 3 (.bool b3)) 4 (.int .i64 c4)
  first | exact h9 | (simpa [AtC] using h9)
end Go.Proofs.YtbiodfeanngkdaaDoor

/- style.Runs at every text (chapter 7). -/
namespace Go.Proofs.YtbiodfeanngkdaaDoor
open Go.RowKit Go.Shelf
attribute [local go_sem] Oper.semAt_some

/-- The answer of Runs in memory. -/
def RunAns (w : World) (s : ByteArray) (D : List Sp) (e : Ending) (w' : World) : Prop :=
  Below w.heap.size w w' ∧ ((chkT s D ≠ 0 ∧ e = .returned (.tuple #[.slice none 0 0, .int .i64 (chkT s D)])) ∨
    (chkT s D = 0 ∧ ∃ v, e = .returned (.tuple #[v, .int .i64 0]) ∧ w'.ownsRow w.heap.size 50 7 v (runsM (signs s).length (isort ltS D)).length (flat7 (runsM (signs s).length (isort ltS D)))))
theorem chkT_few {s : ByteArray} {D : List Sp} (h : chkT s D = 0) : s.size ≤ 4096 ∧ D.length ≤ 256 := by
  unfold chkT at h
  by_cases h1 : 4096 < s.size
  · rw [if_pos h1] at h; omega
  · rw [if_neg h1] at h
    by_cases h2 : 256 < D.length
    · rw [if_pos h2] at h; omega
    · omega
set_option maxRecDepth 100000 in
set_option maxHeartbeats 2000000 in
theorem runs_any (s : ByteArray) (D : List Sp) (oa : Option Addr) (ca : Nat) (hs : s.size ≤ 140737488355328) (hca : D.length ≤ ca ∧ ca ≤ maxLen) (hna : oa = none → D = [] ∧ ca = 0) (w : World) (hRa : SpO w oa D) :
    Calls Tryd.prog 16 #[.agg #[.string s, .slice oa D.length ca]] w (RunAns w s D) := by
  have HC1 := hideS (fun (W : World) (h : Below w.heap.size w W) => check7_any s D oa ca hs hca hna W (hRa.keep h))
  have HCt := hideS (fun (W : World) => count7_any s W hs)
  obtain ⟨c1, hc1⟩ : ∃ c, chkT s D = c := ⟨_, rfl⟩
  obtain ⟨n, hn⟩ : ∃ n, (signs s).length = n := ⟨_, rfl⟩
  obtain ⟨ND, hND⟩ : ∃ ND, D.length = ND := ⟨_, rfl⟩
  have HX := hideS (And.intro hc1 (And.intro hn hND))
  have HY := hideS (And.intro hRa (And.intro hna hca))
  rw [hc1, hND] at HC1
  rw [hn] at HCt
  obtain ⟨PO, hPO⟩ : ∃ PO : Ending → World → Prop, PO = RunAns w s D := ⟨_, rfl⟩
  rw [← hPO, hND]
  have HPO := hideS hPO
  clear hPO hRa hna hca hc1 hn hND
  go_enter Tryd.func16, Tryd.ntmps16
  go_wp2_with fail
  obtain ⟨W0, hW0⟩ : ∃ W0, w.alloc (.cells #[.string s, .slice oa ND ca] 24) = W0 := ⟨_, rfl⟩
  have n0 : W0.heap[w.heap.size]? = some (.cells #[.string s, .slice oa ND ca] 24 (0, 0)) := by rw [← hW0]; exact World.alloc_heap_new w _
  have b0 : Below w.heap.size w W0 := by rw [← hW0]; exact bel1S _ _
  rw [hW0]
  have H0 := hideS (And.intro n0 b0)
  clear hW0 n0 b0
  refine (HC1.out W0 H0.out.2).mono ?_
  rintro e w1 ⟨rfl, b1⟩
  have hl0 : w.heap.size < W0.heap.size := (Array.getElem?_eq_some_iff.1 H0.out.1).1
  have n1 := (b1.block w.heap.size hl0).trans H0.out.1
  have H1 := hideS (And.intro n1 (bupS H0.out.2 b1))
  clear n1 b1 H0 HC1 hl0
  by_cases e1 : c1 = 0
  · subst e1
    have hf := chkT_few HX.out.1
    have hf2 : ND ≤ 256 := by have := hf.2; rw [HX.out.2.2] at this; exact this
    have hl1 : w.heap.size < w1.heap.size := (Array.getElem?_eq_some_iff.1 H1.out.1).1
    have k0 : w1.cell? ⟨w.heap.size, 0, none⟩ = some (.string s) := by have h9 := H1.out.1; simp [World.cell?, h9]
    have k1 : w1.cell? ⟨w.heap.size, 1, none⟩ = some (.slice oa ND ca) := by have h9 := H1.out.1; simp [World.cell?, h9]
    have HOu := hideS (fun (W : World) (h : Below w.heap.size w W) => outer_any D oa ca (by rw [HX.out.2.2]; omega) HY.out.2.1 W (HY.out.1.keep h))
    have hIl : (isort ltS D).length = ND := by rw [isort_length, HX.out.2.2]
    have HRu := hideS (fun (W : World) (o : Option Addr) (c : Nat) (hc : ND ≤ c ∧ c ≤ maxLen) (hR : SpO W o (isort ltS D)) => runsOf_any (isort ltS D) o c (n : Nat) (by omega) (by rw [hIl]; exact hc) W hR)
    rw [HX.out.2.2] at HOu
    rw [hIl] at HRu
    clear hIl
    go_upto_region 4 with fail
    go_region_held3 (fun w' => w'.cell? ⟨w.heap.size, 0, none⟩ = some (.string s) ∧ w'.cell? ⟨w.heap.size, 1, none⟩ = some (.slice oa ND ca)) (first | go_keep | assumption | exact kA9 | exact kB9 | exact kC9) (first
      | (go_at_call 14; (with_reducible refine (HCt.out _).mono ?_); rintro e wA ⟨rfl, bA⟩; have bA : Below w1.heap.size w1 wA := (by first | exact ⟨bA.os, bA.tape, bA.output, bA.size, bA.block⟩ | exact bA); have kA9 : wA.cell? ⟨w.heap.size, 0, none⟩ = some (.string s) ∧ wA.cell? ⟨w.heap.size, 1, none⟩ = some (.slice oa ND ca) := ⟨(bA.cell (p := ⟨w.heap.size, 0, none⟩) hl1).trans k0, (bA.cell (p := ⟨w.heap.size, 1, none⟩) hl1).trans k1⟩; have HbA := hideS bA; clear bA)
      | (go_at_call 31; (with_reducible refine (HOu.out _ (bupS H1.out.2 HbA.out)).mono ?_); rintro e wB ⟨o2, cp2, rfl, hc2, _, _, hR2, bB⟩; have bB : Below w1.heap.size w1 wB := bupS HbA.out bB; have kB9 : wB.cell? ⟨w.heap.size, 0, none⟩ = some (.string s) ∧ wB.cell? ⟨w.heap.size, 1, none⟩ = some (.slice oa ND ca) := ⟨(bB.cell (p := ⟨w.heap.size, 0, none⟩) hl1).trans k0, (bB.cell (p := ⟨w.heap.size, 1, none⟩) hl1).trans k1⟩; have HbB := hideS (And.intro bB hR2); clear bB hR2)
      | (go_at_call 32; (with_reducible refine (HRu.out _ o2 cp2 hc2 HbB.out.2).mono ?_); rintro e wC ⟨v3, rfl, own3, bC⟩; have own3 := own_from own3 (show w.heap.size ≤ _ from Nat.le_trans H1.out.2.size HbB.out.1.size); have bC : Below w1.heap.size w1 wC := bupS HbB.out.1 bC; have kC9 : wC.cell? ⟨w.heap.size, 0, none⟩ = some (.string s) ∧ wC.cell? ⟨w.heap.size, 1, none⟩ = some (.slice oa ND ca) := ⟨(bC.cell (p := ⟨w.heap.size, 0, none⟩) hl1).trans k0, (bC.cell (p := ⟨w.heap.size, 1, none⟩) hl1).trans k1⟩; have HbC := hideS (And.intro bC own3); clear bC own3))
    all_goals
      go_wp2_with fail
      rw [HPO.out]
      refine ⟨bupS H1.out.2 HbC.out.1, .inr ⟨HX.out.1, v3, rfl, ?_⟩⟩
      rw [HX.out.2.1]
      exact HbC.out.2
  · have e1b : (c1 != 0) = true := by simpa using e1
    go_wp2_with fail
    rw [HPO.out]
    refine ⟨H1.out.2, .inl ⟨by rw [HX.out.1]; exact e1, ?_⟩⟩
    rw [HX.out.1]
    rfl
end Go.Proofs.YtbiodfeanngkdaaDoor

/- The head of the statements of chapter 7: its first example. -/
namespace Go.Proofs.YtbiodfeanngkdaaDoor
open Go.RowKit Go.Shelf
attribute [local go_sem] Oper.semAt_some

def hdS : ByteArray := ⟨#[97, 98, 99, 100]⟩
def hdU : ByteArray := ⟨#[120]⟩
def hdD : List Sp := [⟨0, 4, 1, 0⟩, ⟨1, 3, 2, 0⟩]
theorem hd_sort : isort ltS hdD = hdD := by first | rfl | kernel_rfl | decide
theorem hd_cross : crB hdD = false := by unfold crB; rw [hd_sort]; first | rfl | kernel_rfl | decide
theorem hd_signs : (signs hdS).length = 4 := by kernel_rfl
theorem hd_check : chkT hdS hdD = 0 := by
  unfold chkT
  rw [hd_cross, hd_signs]
  kernel_rfl
theorem hd_checku : chkT hdU [] = 0 := by kernel_rfl
theorem hd_bnds : bndS 4 hdD = [0, 0, 1, 3, 4, 4] := by
  unfold bndS
  simp [bndL, hdD, List.mergeSort]
theorem hd_runs : runsM 4 hdD = [⟨0, 1, ⟨true, false, false, false, 0⟩⟩, ⟨1, 3, ⟨true, true, false, false, 0⟩⟩, ⟨3, 4, ⟨true, false, false, false, 0⟩⟩] := by
  unfold runsM bndM bndC
  rw [hd_bnds]
  kernel_rfl
theorem hd_glue : glueM [cutM hdS 0 1, hdU, cutM hdS 1 4] = (⟨#[97, 120, 98, 99, 100]⟩, 0) := by kernel_rfl
theorem hd_splice : splM hdS hdD 1 1 hdU [] = (0, ⟨#[97, 120, 98, 99, 100]⟩, [⟨0, 5, 1, 0⟩, ⟨2, 4, 2, 0⟩]) := by
  unfold splM
  rw [hd_check, hd_checku, hd_sort, hd_signs]
  have e1 : (1 : Int).toNat = 1 := rfl
  rw [e1, hd_glue, if_neg (by simp), if_neg (by simp), if_neg (by simp [betB]), if_neg (by simp)]
  have e2 : aroundM 1 1 ((signs hdU).length : Nat) hdD ++ List.map (mvS 1) [] = [⟨0, 5, 1, 0⟩, ⟨2, 4, 2, 0⟩] := by kernel_rfl
  rw [e2, if_neg (by simp)]
theorem hd_run_eq (W : World) : (binOp .eql 50 (.agg #[.int .i64 1, .int .i64 3, .bool true, .bool true, .bool false, .bool false, .int .i64 0]) (.agg #[.int .i64 1, .int .i64 3, .bool true, .bool true, .bool false, .bool false, .int .i64 0])).run Tryd.prog W = .ok (.bool true) W := by kernel_rfl
theorem run_guard : Tryd.prog.eqGuardType Tryd.prog.depth 50 = false := by kernel_rfl
set_option maxRecDepth 100000 in
set_option maxHeartbeats 4000000 in
theorem head7 (w : World) (hw : 2 ≤ w.heap.size) (hT : Lib.Utf8Tabs 0 1 w) : Calls Tryd.prog 5 #[] w fun e w' => e = .returned (.bool true) ∧ Below w.heap.size w w' := by
  have HT := hideS hT
  clear hT
  go_enter Tryd.func5, Tryd.ntmps5
  go_wp2_with fail
  obtain ⟨W0, hW0⟩ : ∃ W0, (w.alloc (.cells #[.int .i64 0, .int .i64 4, .int .i64 1, .int .i64 0, .int .i64 1, .int .i64 3, .int .i64 2, .int .i64 0] 45)).alloc (.cells #[.string ⟨#[97, 98, 99, 100]⟩, .slice (some ⟨w.heap.size, 0, none⟩) 2 2] 24) = W0 := ⟨_, rfl⟩
  have n0 : W0.heap[w.heap.size]? = some (.cells #[.int .i64 0, .int .i64 4, .int .i64 1, .int .i64 0, .int .i64 1, .int .i64 3, .int .i64 2, .int .i64 0] 45 (0, 0)) := by rw [← hW0]; exact (Below.heap_alloc _ _ _ (by simp)).trans (World.alloc_heap_new w _)
  have n1 : Tx W0 (w.heap.size + 1) (.string ⟨#[97, 98, 99, 100]⟩) (.slice (some ⟨w.heap.size, 0, none⟩) 2 2) := by
    rw [← hW0]
    have h9 := Tx.new (w.alloc (.cells #[.int .i64 0, .int .i64 4, .int .i64 1, .int .i64 0, .int .i64 1, .int .i64 3, .int .i64 2, .int .i64 0] 45)) (.string ⟨#[97, 98, 99, 100]⟩) (.slice (some ⟨w.heap.size, 0, none⟩) 2 2)
    rw [World.size_alloc] at h9
    exact h9
  have b0 : Below w.heap.size w W0 := by rw [← hW0]; exact bupS (bel1S _ _) (bel1S _ _)
  have sp0 : SpO W0 (some ⟨w.heap.size, 0, none⟩) hdD := SC.spo ⟨_, n0, rfl, fun i p hp => by
    match i, hp with
    | 0, hp =>
      obtain rfl : (⟨0, 4, 1, 0⟩ : Sp) = p := by simpa [hdD] using hp
      exact ⟨rfl, rfl, rfl, rfl⟩
    | 1, hp =>
      obtain rfl : (⟨1, 3, 2, 0⟩ : Sp) = p := by simpa [hdD] using hp
      exact ⟨rfl, rfl, rfl, rfl⟩
    | n + 2, hp => simp [hdD] at hp⟩
  rw [hW0]
  have hmx : (2 : Nat) ≤ maxLen := by decide
  have HRn : Hid (Calls Tryd.prog 16 #[.agg #[.string ⟨#[97, 98, 99, 100]⟩, .slice (some ⟨w.heap.size, 0, none⟩) 2 2]] W0 (RunAns W0 hdS hdD)) := hideS (runs_any hdS hdD (some ⟨w.heap.size, 0, none⟩) 2 (by decide) ⟨by decide, hmx⟩ (fun e => nomatch e) W0 sp0)
  have H0 := hideS (And.intro n1 (And.intro b0 sp0))
  clear hW0 n0 n1 b0 sp0
  refine HRn.out.mono ?_
  rintro e w1 ⟨b1, ⟨h, _⟩ | ⟨_, v, rfl, own⟩⟩
  · exact absurd hd_check h
  rw [hd_signs, hd_sort] at own
  change w1.ownsRow W0.heap.size 50 7 v (runsM 4 hdD).length (flat7 (runsM 4 hdD)) at own
  rw [hd_runs] at own
  obtain ⟨gr, cp, rfl⟩ : ∃ gr cp, v = .slice (some ⟨gr, 0, none⟩) 3 cp := by
    rcases own.2 with ⟨_, e0⟩ | ⟨gr, cp, cur, e0, _⟩
    · simp at e0
    · exact ⟨gr, cp, e0⟩
  have H1 := hideS (And.intro own (And.intro (H0.out.1.keep b1) (And.intro (bupS H0.out.2.1 b1) (H0.out.2.2.keep b1))))
  clear own b1 H0 HRn
  obtain ⟨k0, k1, _, _⟩ := H1.out.2.1.cells
  have HSp : Hid (Calls Tryd.prog 8 #[.agg #[.string ⟨#[97, 98, 99, 100]⟩, .slice (some ⟨w.heap.size, 0, none⟩) 2 2], .int .i64 1, .int .i64 1, .agg #[.string ⟨#[120]⟩, .slice none 0 0]] w1 (SplAns w1 (splM hdS hdD 1 1 hdU []))) := hideS (splice_any hdS hdU hdD [] (some ⟨w.heap.size, 0, none⟩) none 2 0 1 1 (by decide) (by decide) ⟨by decide, hmx⟩ ⟨by decide, by decide⟩ (fun e => nomatch e) (fun _ => ⟨rfl, rfl⟩) w1 (Nat.le_trans hw H1.out.2.2.1.size) (tabs_below hw HT.out H1.out.2.2.1) H1.out.2.2.2 (SpO.nil _ _))
  go_wp2_with fail
  refine HSp.out.mono ?_
  rw [hd_splice]
  rintro e w2 ⟨v2, rfl, own2, b2⟩
  simp only at own2 ⊢
  obtain ⟨g2, cp2, rfl⟩ : ∃ g2 cp2, v2 = .slice (some ⟨g2, 0, none⟩) 2 cp2 := by
    rcases own2.2 with ⟨_, e0⟩ | ⟨g2, cp2, cur, e0, _⟩
    · simp at e0
    · exact ⟨g2, cp2, e0⟩
  have own1 := own_keep H1.out.1 b2
  obtain ⟨r0, _, hgr, _⟩ := own_cells own1 7 (.int .i64 1) rfl
  have r1 := (own_cells own1 8 (.int .i64 3) rfl).1
  have r2 := (own_cells own1 9 (.bool true) rfl).1
  have r3 := (own_cells own1 10 (.bool true) rfl).1
  have r4 := (own_cells own1 11 (.bool false) rfl).1
  have r5 := (own_cells own1 12 (.bool false) rfl).1
  have r6 := (own_cells own1 13 (.int .i64 0) rfl).1
  obtain ⟨q0, _, hg2, _⟩ := own_cells own2 4 (.int .i64 2) rfl
  have H2 := hideS (bupS H1.out.2.2.1 b2)
  have hgd := run_guard
  have hre := hd_run_eq
  clear own1 own2 b2 H1 HSp k0 k1
  go_wp2_with fail
  go_ret
  exact ⟨rfl, bupS H2.out (bel1S _ _)⟩
end Go.Proofs.YtbiodfeanngkdaaDoor

/- Runs compared (P0705): slices.Equal over runs. -/
namespace Go.Proofs.YtbiodfeanngkdaaDoor
open Go.RowKit Go.Shelf
attribute [local go_sem] Oper.semAt_some

def Rn.val (r : Rn) : Value := .agg #[.int .i64 r.fr, .int .i64 r.tt, .bool r.a.b, .bool r.a.i, .bool r.a.u, .bool r.a.s, .int .i64 r.a.c]
set_option maxRecDepth 100000 in
theorem at_equal (d : Nat) (x y : At) (w : World) : (Op.equalIn (d + 2) 38 x.val y.val).run Tryd.prog w = .ok (decide (x = y)) w := by
  obtain ⟨a, b, c, e, f⟩ := x
  obtain ⟨a', b', c', e', f'⟩ := y
  unfold At.val
  rw [run_equalIn_agg _ _ _ _ _ at_under at_held]
  have hf := at_fields
  match h : (Tryd.prog.fieldsOf 38).toList, hf with
  | [f0, f1, f2, f3, f4], hf =>
    clear h
    simp only [List.map_cons, List.map_nil, List.cons.injEq, Prod.mk.injEq, and_true] at hf
    obtain ⟨⟨n0, t0, o0⟩, ⟨n1, t1, o1⟩, ⟨n2, t2, o2⟩, ⟨n3, t3, o3⟩, ⟨n4, t4, o4⟩⟩ := hf
    have u3 : Tryd.prog.underlying 3 = some (.int .i64) := Tryd.underlying3
    have u4 : Tryd.prog.underlying 4 = some .bool := Tryd.underlying4
    simp [Op.eqFields, n0, n1, n2, n3, n4, t0, t1, t2, t3, t4, o0, o1, o2, o3, o4, go_sem, u3, u4]
    by_cases h0 : a = a' <;> by_cases h1 : b = b' <;> by_cases h2 : c = c' <;> by_cases h3 : e = e' <;> by_cases h4 : f = f' <;> simp [h0, h1, h2, h3, h4]
  | [], hf => simp at hf
  | [_], hf => simp at hf
  | [_, _], hf => simp at hf
  | [_, _, _], hf => simp at hf
  | [_, _, _, _], hf => simp at hf
  | _ :: _ :: _ :: _ :: _ :: _ :: _, hf => simp at hf
theorem at_neq (x y : At) (w : World) : (binOp .neq 38 x.val y.val).run Tryd.prog w = .ok (.bool (!decide (x = y))) w := by
  have h := at_equal 9998 x y w
  unfold At.val at h ⊢
  rw [run_neq_struct, h]
  rfl
theorem rn_under : Tryd.prog.underlying 50 = some (.struct (Tryd.prog.fieldsOf 50)) := by kernel_rfl
theorem rn_held : Tryd.prog.stoodInHeld 50 = false := by kernel_rfl
theorem rn_fields : (Tryd.prog.fieldsOf 50).toList.map (fun f => (f.name, f.type, f.offset)) = [("From", 3, 0), ("To", 3, 1), ("Attr", 38, 2)] := by kernel_rfl
theorem at_size : Tryd.prog.cellsOf 38 = 5 := by kernel_rfl
set_option maxRecDepth 100000 in
theorem rn_neq (x y : Rn) (w : World) : (binOp .neq 50 x.val y.val).run Tryd.prog w = .ok (.bool (!decide (x = y))) w := by
  obtain ⟨a, b, c⟩ := x
  obtain ⟨a', b', c'⟩ := y
  unfold Rn.val
  simp only
  rw [run_neq_struct, run_equalIn_agg _ _ _ _ _ rn_under rn_held]
  have hf := rn_fields
  match h : (Tryd.prog.fieldsOf 50).toList, hf with
  | [f0, f1, f2], hf =>
    clear h
    simp only [List.map_cons, List.map_nil, List.cons.injEq, Prod.mk.injEq, and_true] at hf
    obtain ⟨⟨n0, t0, o0⟩, ⟨n1, t1, o1⟩, ⟨n2, t2, o2⟩⟩ := hf
    have u3 : Tryd.prog.underlying 3 = some (.int .i64) := Tryd.underlying3
    simp [Op.eqFields, n0, n1, n2, t0, t1, t2, o0, o1, o2, go_sem, u3]
    by_cases h0 : a = a'
    · by_cases h1 : b = b'
      · subst h0 h1
        obtain ⟨c0, c1, c2, c3, c4⟩ := c
        obtain ⟨e0, e1, e2, e3, e4⟩ := c'
        simp
        by_cases h0 : c0 = e0 <;> by_cases h1 : c1 = e1 <;> by_cases h2 : c2 = e2 <;> by_cases h3 : c3 = e3 <;> by_cases h4 : c4 = e4 <;> simp [h0, h1, h2, h3, h4]
      · simp [h0, h1]
    · simp [h0]
  | [], hf => simp at hf
  | [_], hf => simp at hf
  | [_, _], hf => simp at hf
  | _ :: _ :: _ :: _ :: _, hf => simp at hf
/-- A row of runs that can be read; a row of looks. -/
def RnO (W : World) (o : Option Addr) (L : List Rn) : Prop := ∀ (i : Nat) (r : Rn), L[i]? = some r → ∃ a, o = some a ∧ a.block < W.heap.size ∧ W.cell? (a.add (i * 7)) = some (.int .i64 r.fr) ∧ W.cell? ⟨(a.add (i * 7)).block, (a.add (i * 7)).off + 1, none⟩ = some (.int .i64 r.tt) ∧ W.cell? ⟨(a.add (i * 7)).block, (a.add (i * 7)).off + 2, none⟩ = some (.bool r.a.b) ∧ W.cell? ⟨(a.add (i * 7)).block, (a.add (i * 7)).off + 3, none⟩ = some (.bool r.a.i) ∧ W.cell? ⟨(a.add (i * 7)).block, (a.add (i * 7)).off + 4, none⟩ = some (.bool r.a.u) ∧ W.cell? ⟨(a.add (i * 7)).block, (a.add (i * 7)).off + 5, none⟩ = some (.bool r.a.s) ∧ W.cell? ⟨(a.add (i * 7)).block, (a.add (i * 7)).off + 6, none⟩ = some (.int .i64 r.a.c)
def AtO (W : World) (o : Option Addr) (L : List At) : Prop := ∀ (i : Nat) (r : At), L[i]? = some r → ∃ a, o = some a ∧ a.block < W.heap.size ∧ W.cell? (a.add (i * 5)) = some (.bool r.b) ∧ W.cell? ⟨(a.add (i * 5)).block, (a.add (i * 5)).off + 1, none⟩ = some (.bool r.i) ∧ W.cell? ⟨(a.add (i * 5)).block, (a.add (i * 5)).off + 2, none⟩ = some (.bool r.u) ∧ W.cell? ⟨(a.add (i * 5)).block, (a.add (i * 5)).off + 3, none⟩ = some (.bool r.s) ∧ W.cell? ⟨(a.add (i * 5)).block, (a.add (i * 5)).off + 4, none⟩ = some (.int .i64 r.c)
theorem RnO.keep {W V : World} {o : Option Addr} {L : List Rn} (h : RnO W o L) (b : Below W.heap.size W V) : RnO V o L := fun i r hr => by
  obtain ⟨a, e, hb, c0, c1, c2, c3, c4, c5, c6⟩ := h i r hr
  have hk : (a.add (i * 7)).block < W.heap.size := by rw [addrS_block]; exact hb
  exact ⟨a, e, Nat.lt_of_lt_of_le hb b.size, (b.cell hk).trans c0, (b.cell (p := ⟨(a.add (i * 7)).block, _, none⟩) hk).trans c1, (b.cell (p := ⟨(a.add (i * 7)).block, _, none⟩) hk).trans c2, (b.cell (p := ⟨(a.add (i * 7)).block, _, none⟩) hk).trans c3, (b.cell (p := ⟨(a.add (i * 7)).block, _, none⟩) hk).trans c4, (b.cell (p := ⟨(a.add (i * 7)).block, _, none⟩) hk).trans c5, (b.cell (p := ⟨(a.add (i * 7)).block, _, none⟩) hk).trans c6⟩
theorem AtO.keep {W V : World} {o : Option Addr} {L : List At} (h : AtO W o L) (b : Below W.heap.size W V) : AtO V o L := fun i r hr => by
  obtain ⟨a, e, hb, c0, c1, c2, c3, c4⟩ := h i r hr
  have hk : (a.add (i * 5)).block < W.heap.size := by rw [addrS_block]; exact hb
  exact ⟨a, e, Nat.lt_of_lt_of_le hb b.size, (b.cell hk).trans c0, (b.cell (p := ⟨(a.add (i * 5)).block, _, none⟩) hk).trans c1, (b.cell (p := ⟨(a.add (i * 5)).block, _, none⟩) hk).trans c2, (b.cell (p := ⟨(a.add (i * 5)).block, _, none⟩) hk).trans c3, (b.cell (p := ⟨(a.add (i * 5)).block, _, none⟩) hk).trans c4⟩
theorem add_zeroK (g k : Nat) : (⟨g, 0, none⟩ : Addr).add k = ⟨g, k, none⟩ := by
  unfold Addr.add
  split
  · rename_i h0
    rw [h0]
  · simp
theorem own_cap {W : World} {base n : Nat} {e : TypeId} {size : Nat} {v : Value} {xs : List Value} (h : W.ownsRow base e size v n xs) : ∃ o c, v = .slice o n c ∧ (n ≤ c ∧ c ≤ maxLen) ∧ ∀ j u, xs[j]? = some u → ∃ g, o = some ⟨g, 0, none⟩ ∧ g < W.heap.size ∧ W.cell? ⟨g, j, none⟩ = some u := by
  have h9 := h
  rcases h.2 with ⟨e0, e1⟩ | ⟨g, cap, cur, e0, hb, hg, hcn, hcm, hs, h4⟩
  · subst e1
    refine ⟨none, 0, e0, ⟨Nat.le_refl _, by unfold maxLen; omega⟩, fun j u hj => ?_⟩
    have hl := h.1
    rw [Nat.zero_mul] at hl
    rw [List.length_eq_zero_iff.1 hl] at hj
    simp at hj
  · subst e0
    exact ⟨some ⟨g, 0, none⟩, cap, rfl, ⟨hcn, hcm⟩, fun j u hj => ⟨g, rfl, (own_cells h9 j u hj).2.2.1, (own_cells h9 j u hj).1⟩⟩
theorem rn_of_own {W : World} {base n : Nat} {v : Value} {L : List Rn} (h : W.ownsRow base 50 7 v n (flat7 L)) : ∃ o c, v = .slice o n c ∧ (n ≤ c ∧ c ≤ maxLen) ∧ RnO W o L := by
  obtain ⟨o, c, e, hc, hx⟩ := own_cap h
  refine ⟨o, c, e, hc, fun i r hr => ?_⟩
  have ha := flat7_at L i r hr
  obtain ⟨g, rfl, hg, c0⟩ := hx (i * 7 + 0) _ (ha 0 _ rfl)
  obtain ⟨g1, e1, _, c1⟩ := hx (i * 7 + 1) _ (ha 1 _ rfl)
  obtain ⟨g2, e2, _, c2⟩ := hx (i * 7 + 2) _ (ha 2 _ rfl)
  obtain ⟨g3, e3, _, c3⟩ := hx (i * 7 + 3) _ (ha 3 _ rfl)
  obtain ⟨g4, e4, _, c4⟩ := hx (i * 7 + 4) _ (ha 4 _ rfl)
  obtain ⟨g5, e5, _, c5⟩ := hx (i * 7 + 5) _ (ha 5 _ rfl)
  obtain ⟨g6, e6, _, c6⟩ := hx (i * 7 + 6) _ (ha 6 _ rfl)
  obtain rfl : g = g1 := by simpa using e1
  obtain rfl : g = g2 := by simpa using e2
  obtain rfl : g = g3 := by simpa using e3
  obtain rfl : g = g4 := by simpa using e4
  obtain rfl : g = g5 := by simpa using e5
  obtain rfl : g = g6 := by simpa using e6
  refine ⟨_, rfl, hg, ?_⟩
  rw [add_zeroK]
  exact ⟨c0, c1, c2, c3, c4, c5, c6⟩
def At.cells (r : At) : List Value := [.bool r.b, .bool r.i, .bool r.u, .bool r.s, .int .i64 r.c]
def flat5 (L : List At) : List Value := L.flatMap At.cells
theorem flat5_len (L : List At) : (flat5 L).length = L.length * 5 := by
  induction L with
  | nil => rfl
  | cons x L ih =>
    have : flat5 (x :: L) = x.cells ++ flat5 L := rfl
    rw [this, List.length_append, ih, List.length_cons]
    simp [At.cells]
    omega
theorem flat5_snoc (L : List At) (x : At) : flat5 (L ++ [x]) = flat5 L ++ x.cells := by simp [flat5]
theorem flat5_at : ∀ (Q : List At) (i : Nat) (p : At), Q[i]? = some p → ∀ j v, p.cells[j]? = some v → (flat5 Q)[i * 5 + j]? = some v
  | [], i, p, h => by simp at h
  | x :: Q, 0, p, h => fun j v hj => by
    simp at h
    subst h
    have hl : j < x.cells.length := (List.getElem?_eq_some_iff.1 hj).1
    show (x.cells ++ flat5 Q)[0 * 5 + j]? = some v
    rw [Nat.zero_mul, Nat.zero_add, List.getElem?_append_left hl]
    exact hj
  | x :: Q, i + 1, p, h => fun j v hj => by
    have ih := flat5_at Q i p (by simpa using h) j v hj
    show (x.cells ++ flat5 Q)[(i + 1) * 5 + j]? = some v
    have hl : x.cells.length = 5 := rfl
    rw [List.getElem?_append_right (by omega), hl, show (i + 1) * 5 + j - 5 = i * 5 + j by omega]
    exact ih
theorem at_of_own {W : World} {base n : Nat} {v : Value} {L : List At} (h : W.ownsRow base 38 5 v n (flat5 L)) : ∃ o c, v = .slice o n c ∧ (n ≤ c ∧ c ≤ maxLen) ∧ AtO W o L := by
  obtain ⟨o, c, e, hc, hx⟩ := own_cap h
  refine ⟨o, c, e, hc, fun i r hr => ?_⟩
  have ha := flat5_at L i r hr
  obtain ⟨g, rfl, hg, c0⟩ := hx (i * 5 + 0) _ (ha 0 _ rfl)
  obtain ⟨g1, e1, _, c1⟩ := hx (i * 5 + 1) _ (ha 1 _ rfl)
  obtain ⟨g2, e2, _, c2⟩ := hx (i * 5 + 2) _ (ha 2 _ rfl)
  obtain ⟨g3, e3, _, c3⟩ := hx (i * 5 + 3) _ (ha 3 _ rfl)
  obtain ⟨g4, e4, _, c4⟩ := hx (i * 5 + 4) _ (ha 4 _ rfl)
  obtain rfl : g = g1 := by simpa using e1
  obtain rfl : g = g2 := by simpa using e2
  obtain rfl : g = g3 := by simpa using e3
  obtain rfl : g = g4 := by simpa using e4
  refine ⟨_, rfl, hg, ?_⟩
  rw [add_zeroK]
  exact ⟨c0, c1, c2, c3, c4⟩
end Go.Proofs.YtbiodfeanngkdaaDoor

/- Looks of all signs by the reference; Same of both (P0705). -/
namespace Go.Proofs.YtbiodfeanngkdaaDoor
open Go.RowKit Go.Shelf
attribute [local go_sem] Oper.semAt_some

/-- The looks of so many signs by the reference. -/
def alls (D : List Sp) (n : Nat) : List At := (List.range n).map fun (k : Nat) => (rfoldA D (k : Int)).1
theorem alls_snoc (D : List Sp) (n : Nat) : alls D (n + 1) = alls D n ++ [(rfoldA D (n : Int)).1] := by simp [alls, List.range_succ]
theorem alls_len (D : List Sp) (n : Nat) : (alls D n).length = n := by simp [alls]
theorem chk_all {s : ByteArray} {D : List Sp} (h : chkT s D = 0) : (∀ x ∈ D, (0 ≤ x.fr ∧ x.fr < x.tt ∧ x.tt ≤ (signs s).length) ∧ 1 ≤ x.kd ∧ x.kd ≤ 5) ∧ ∀ x ∈ D, ∀ y ∈ D, ¬ crS x y := by
  have h0 := h
  obtain ⟨h1, h2⟩ := chkT_ok h
  unfold chkT at h
  rw [if_neg (by omega), if_neg (by omega)] at h
  by_cases k : allB D (signs s).length = true ∧ crB D = false
  · have hf : ∀ x ∈ D, (0 ≤ x.fr ∧ x.fr < x.tt ∧ x.tt ≤ (signs s).length) ∧ 1 ≤ x.kd ∧ x.kd ≤ 5 := fun x hx => by
      have k1 := List.all_eq_true.1 k.1 x hx
      unfold fitB at k1
      have k2 := of_decide_eq_true k1
      omega
    refine ⟨hf, fun x hx y hy hc => ?_⟩
    have := (crB_iff D (fun z hz => (hf z hz).1.2.1)).2 ⟨y, hy, x, hx, hc⟩
    rw [k.2] at this
    cases this
  · rw [if_neg k] at h; omega
theorem alls_seg {s : ByteArray} {D : List Sp} (h : chkT s D = 0) (n : Nat) : alls D n = seg (isort ltS D) 0 n := by
  obtain ⟨h1, h2⟩ := chk_all h
  unfold alls seg
  refine List.map_congr_left fun k _ => ?_
  rw [look_ref k D (fun x hx => (h1 x hx).2) h2, look_form, Int.zero_add]
theorem runs_seg {s : ByteArray} {D : List Sp} (h : chkT s D = 0) : runsM (signs s).length (isort ltS D) = rleL [] 0 (alls D (signs s).length) := by
  rw [alls_seg h, runs_rle _ _ (fun x hx => ((chk_all h).1 x ((isort_mem' ltS x D).1 hx)).1)]
/-- Are two texts alike? -/
def samB (s : ByteArray) (D : List Sp) (u : ByteArray) (E : List Sp) : Bool := decide (chkT s D = 0 ∧ chkT u E = 0 ∧ s = u ∧ alls D (signs s).length = alls E (signs u).length)
theorem sam_runs {s u : ByteArray} {D E : List Sp} (h1 : chkT s D = 0) (h2 : chkT u E = 0) : (runsM (signs s).length (isort ltS D) = runsM (signs u).length (isort ltS E)) ↔ alls D (signs s).length = alls E (signs u).length := by
  rw [runs_seg h1, runs_seg h2]
  exact ⟨fun h => rle_inj h, fun h => by rw [h]⟩
theorem infoAt : (Tryd.prog.info? 38).map (fun i => (i.zero, i.size, i.bytes)) = some (some (.agg #[.bool false, .bool false, .bool false, .bool false, .int .i64 0]), 5, 16) := by kernel_rfl
theorem cell_fiveS (w : World) (a b c d e : Value) (t : TypeId) : ∀ j u, [a, b, c, d, e][j]? = some u → (w.alloc (.cells #[a, b, c, d, e] t)).cell? ((⟨w.heap.size, 0, none⟩ : Addr).add j) = some u := by
  intro j u hj
  have e0 : (w.alloc (.cells #[a, b, c, d, e] t)).heap[w.heap.size]? = _ := World.alloc_heap_new w _
  match j, hj with
  | 0, hj | 1, hj | 2, hj | 3, hj | 4, hj =>
    simp at hj
    subst hj
    unfold World.cell?
    rw [addrS_block, e0]
    rfl
  | n + 5, hj => simp at hj
end Go.Proofs.YtbiodfeanngkdaaDoor

/- What a cut's signs look like, and those of texts that are joined (P0712, P0713), as mathematics. -/
namespace Go.Proofs.YtbiodfeanngkdaaDoor
open Go.RowKit Go.Shelf

theorem isort_id : ∀ (l : List Sp), Srt ltS l → isort ltS l = l := by
  have key : ∀ (l : List Sp) (x : Sp), (∀ y ∈ l, ltS x y = false) → mg ltS l [x] = l ++ [x] := by
    intro l x
    induction l with
    | nil => intro _; rw [mg_left]; rfl
    | cons a l ih =>
      intro h
      rw [mg_ge _ _ (h a (by simp)), ih (fun y hy => h y (by simp [hy]))]
      rfl
  intro l
  induction l using snocI with
  | h0 => intro _; rfl
  | h1 l x ih =>
    intro h
    have hp := List.pairwise_append.1 h
    rw [isort_snoc, ih hp.1, key l x (fun y hy => hp.2.2 y hy x (by simp))]
/-- Spans that part as they should: in order, none crosses. -/
def OkL (n : Int) (L : List Sp) : Prop := (∀ x ∈ L, (0 ≤ x.fr ∧ x.fr < x.tt ∧ x.tt ≤ n) ∧ 1 ≤ x.kd ∧ x.kd ≤ 5) ∧ ∀ x ∈ L, ∀ y ∈ L, ¬ crS x y
theorem okL_sort {s : ByteArray} {D : List Sp} (h : chkT s D = 0) : OkL (signs s).length (isort ltS D) ∧ Srt ltS (isort ltS D) := by
  obtain ⟨h1, h2⟩ := chk_all h
  exact ⟨⟨fun x hx => h1 x ((isort_mem' ltS x D).1 hx), fun x hx y hy => h2 x ((isort_mem' ltS x D).1 hx) y ((isort_mem' ltS y D).1 hy)⟩, isort_sorted swoS D⟩
theorem su_mem {f t : Int} {L : List Sp} {z : Sp} (h : z ∈ suL f t L) : ∃ x ∈ L, z = suS f t x ∧ (suS f t x).fr < (suS f t x).tt := by
  unfold suL at h
  obtain ⟨h1, h2⟩ := List.mem_filter.1 h
  obtain ⟨x, hx, rfl⟩ := List.mem_map.1 h1
  exact ⟨x, hx, rfl, of_decide_eq_true h2⟩
theorem su_srt {n f t : Int} {L : List Sp} (hL : OkL n L) (hs : Srt ltS L) : Srt ltS (suL f t L) := by
  unfold suL
  have key : (L.map (suS f t)).Pairwise fun x y => fulS x = true → fulS y = true → ltS y x = false := by
    rw [List.pairwise_map]
    have h9 : L.Pairwise fun x y => (x ∈ L ∧ y ∈ L) ∧ ltS y x = false := by
      have := List.pairwise_iff_getElem.1 hs
      exact List.pairwise_iff_getElem.2 fun i j hi hj hij => ⟨⟨List.getElem_mem hi, List.getElem_mem hj⟩, this i j hi hj hij⟩
    refine h9.imp fun {x y} h k1 k2 => ?_
    obtain ⟨⟨mx, my⟩, hl⟩ := h
    have k1 := of_decide_eq_true k1
    have k2 := of_decide_eq_true k2
    have fx := (hL.1 x mx).1
    have fy := (hL.1 y my).1
    have hc := hL.2 x mx y my
    have hl : ¬ (y.fr < x.fr ∨ (y.fr = x.fr ∧ x.tt < y.tt)) := fun h => by rw [(ltS_iff y x).2 h] at hl; cases hl
    unfold crS at hc
    unfold suS at k1 k2 ⊢
    simp only at k1 k2
    cases hlt : ltS (⟨max y.fr f - f, min y.tt t - f, y.kd, y.vl⟩ : Sp) ⟨max x.fr f - f, min x.tt t - f, x.kd, x.vl⟩ with
    | false => rfl
    | true =>
      have := (ltS_iff _ _).1 hlt
      simp only at this
      omega
  refine List.pairwise_iff_getElem.2 fun i j hi hj hij => ?_
  have h1 := key.filter fulS
  have h2 := List.pairwise_iff_getElem.1 h1 i j hi hj hij
  exact h2 (List.mem_filter.1 (List.getElem_mem hi)).2 (List.mem_filter.1 (List.getElem_mem hj)).2
theorem su_kin {f t k c : Int} (h1 : f ≤ k) (h2 : k < t) (x : Sp) : kinB (k - f) c (suS f t x) = kinB k c x := by
  unfold kinB covB suS
  simp only
  congr 1
  rw [decide_eq_decide]
  omega
theorem su_full {f t k c : Int} {x : Sp} (h1 : f ≤ k) (h2 : k < t) (h : kinB k c x = true) : fulS (suS f t x) = true := by
  unfold kinB covB at h
  simp at h
  unfold fulS suS
  simp
  omega
theorem su_filter {f t k c : Int} (h1 : f ≤ k) (h2 : k < t) : ∀ (L : List Sp), (suL f t L).filter (kinB (k - f) c) = (L.filter (kinB k c)).map (suS f t)
  | [] => rfl
  | x :: L => by
    have ih := su_filter (c := c) h1 h2 L
    unfold suL at ih ⊢
    rw [List.map_cons, List.filter_cons, List.filter_cons]
    by_cases hk : kinB k c x = true
    · rw [if_pos (su_full h1 h2 hk), if_pos hk, List.filter_cons, if_pos (by rw [su_kin h1 h2]; exact hk), ih, List.map_cons]
    · rw [if_neg hk]
      by_cases hf : fulS (suS f t x) = true
      · rw [if_pos hf, List.filter_cons, if_neg (by rw [su_kin h1 h2]; exact hk), ih]
      · rw [if_neg hf, ih]
theorem any_filter (p : Sp → Bool) (L : List Sp) : L.any p = !(L.filter p).isEmpty := by
  induction L with
  | nil => rfl
  | cons x L ih =>
    rw [List.any_cons, List.filter_cons, ih]
    by_cases h : p x = true
    · simp [h]
    · simp [h]
/-- A sign of a cut looks as it did. -/
theorem su_look {f t k : Int} (h1 : f ≤ k) (h2 : k < t) (L : List Sp) : lookF (suL f t L) (k - f) = lookF L k := by
  unfold lookF
  simp only [any_filter, su_filter h1 h2]
  have hl : ((L.filter (kinB k 5)).map (suS f t)).getLast? = ((L.filter (kinB k 5)).getLast?).map (suS f t) := by rw [List.getLast?_map]
  rw [hl]
  simp only [List.isEmpty_map]
  congr 1
  cases (L.filter (kinB k 5)).getLast? with
  | none => rfl
  | some x => rfl
theorem su_ok {n f t : Int} {L : List Sp} (hL : OkL n L) : OkL (t - f) (suL f t L) := by
  refine ⟨fun z hz => ?_, fun z hz y hy hc => ?_⟩
  · obtain ⟨x, hx, rfl, hlt⟩ := su_mem hz
    have := hL.1 x hx
    unfold suS at hlt ⊢
    simp only at hlt ⊢
    omega
  · obtain ⟨x, hx, rfl, hlt⟩ := su_mem hz
    obtain ⟨u, hu, rfl, hlu⟩ := su_mem hy
    refine hL.2 x hx u hu ?_
    unfold crS at hc ⊢
    unfold suS at hc hlt hlu
    simp only at hc hlt hlu
    omega
theorem su_len (f t : Int) (L : List Sp) : (suL f t L).length ≤ L.length := by
  unfold suL
  exact Nat.le_trans (List.length_filter_le _ _) (by simp)
theorem chk_of {s : ByteArray} {D : List Sp} (h1 : s.size ≤ 4096) (h2 : D.length ≤ 256) (h3 : OkL (signs s).length D) (h4 : ∀ x ∈ D, 0 ≤ x.vl ∧ x.vl ≤ (if x.kd = 5 then 16777215 else 0)) : chkT s D = 0 := by
  unfold chkT
  rw [if_neg (by omega), if_neg (by omega), if_pos]
  refine ⟨List.all_eq_true.2 fun x hx => ?_, ?_⟩
  · have := h3.1 x hx
    have := h4 x hx
    unfold fitB
    exact decide_eq_true (by omega)
  · cases hc : crB D with
    | false => rfl
    | true =>
      obtain ⟨x, hx, y, hy, h⟩ := (crB_iff D (fun x hx => (h3.1 x hx).1.2.1)).1 hc
      exact absurd h (h3.2 y hy x hx)
end Go.Proofs.YtbiodfeanngkdaaDoor

/- Cuts and joins: the looks of the parts, the looks of the whole (P0712, P0713), as mathematics. -/
namespace Go.Proofs.YtbiodfeanngkdaaDoor
open Go.RowKit Go.Shelf

theorem chk_vl {s : ByteArray} {D : List Sp} (h : chkT s D = 0) : ∀ x ∈ D, 0 ≤ x.vl ∧ x.vl ≤ (if x.kd = 5 then 16777215 else 0) := fun x hx => by
  obtain ⟨h1, h2⟩ := chkT_ok h
  unfold chkT at h
  rw [if_neg (by omega), if_neg (by omega)] at h
  by_cases k : allB D (signs s).length = true ∧ crB D = false
  · have k1 := List.all_eq_true.1 k.1 x hx
    unfold fitB at k1
    have k2 := of_decide_eq_true k1
    omega
  · rw [if_neg k] at h; omega
theorem cut_signs (s : ByteArray) (i j : Nat) (h1 : i ≤ j) (h2 : j ≤ (signs s).length) : (signs (cutM s i j)).length = j - i :=
  (part_spots s i j (bAt s i) (bAt s j) h1 h2 (bAt_eq s i (by omega)).1 (bAt_eq s j h2).1).2.2.1
/-- A cut of a right text is right. -/
theorem cut_ok {s : ByteArray} {D : List Sp} (h : chkT s D = 0) (i j : Nat) (h1 : i ≤ j) (h2 : j ≤ (signs s).length) : chkT (cutM s i j) (suL i j (isort ltS D)) = 0 := by
  obtain ⟨h3, h4⟩ := chkT_ok h
  have hl := su_len i j (isort ltS D)
  rw [isort_length] at hl
  refine chk_of (Nat.le_trans (cutM_size s i j) h3) (by omega) ?_ ?_
  · rw [cut_signs s i j h1 h2]
    have h9 := su_ok (f := i) (t := j) (okL_sort h).1
    rw [show ((j - i : Nat) : Int) = (j : Int) - i by omega]
    exact h9
  · intro z hz
    obtain ⟨x, hx, rfl, _⟩ := su_mem hz
    exact chk_vl h x ((isort_mem' ltS x D).1 hx)
/-- The signs of a cut look as they did. -/
theorem cut_alls {s : ByteArray} {D : List Sp} (h : chkT s D = 0) (i j : Nat) (h1 : i ≤ j) (h2 : j ≤ (signs s).length) : alls (suL i j (isort ltS D)) (j - i) = ((alls D (signs s).length).drop i).take (j - i) := by
  rw [alls_seg (cut_ok h i j h1 h2), alls_seg h, isort_id _ (su_srt (okL_sort h).1 (okL_sort h).2)]
  apply List.ext_getElem?
  intro k
  by_cases hk : k < j - i
  · have e1 : (seg (suL i j (isort ltS D)) 0 (j - i))[k]? = some (lookA (suL i j (isort ltS D)) (0 + (k : Int))) := by
      unfold seg
      rw [List.getElem?_map, List.getElem?_range hk]
      rfl
    have e2 : (((seg (isort ltS D) 0 (signs s).length).drop i).take (j - i))[k]? = some (lookA (isort ltS D) (0 + ((i + k : Nat) : Int))) := by
      rw [List.getElem?_take, if_pos hk, List.getElem?_drop]
      unfold seg
      rw [List.getElem?_map, List.getElem?_range (by omega)]
      rfl
    rw [e1, e2, look_form, look_form]
    have h9 := su_look (f := i) (t := j) (k := ((i + k : Nat) : Int)) (by omega) (by omega) (isort ltS D)
    rw [show ((i + k : Nat) : Int) - (i : Int) = 0 + (k : Int) by omega] at h9
    rw [h9, Int.zero_add]
  · rw [List.getElem?_eq_none (by rw [seg_len]; omega), List.getElem?_take, if_neg (by omega)]
theorem extract_join (s : ByteArray) (a b c : Nat) (h1 : a ≤ b) (h2 : b ≤ c) : s.extract a b ++ s.extract b c = s.extract a c := by
  refine ba_ext ?_
  simp [ByteArray.data_extract, h1, h2]
theorem cut_join (s : ByteArray) (i j k : Nat) (h1 : i ≤ j) (h2 : j ≤ k) (h3 : k ≤ (signs s).length) : cutM s i j ++ cutM s j k = cutM s i k := by
  unfold cutM
  exact extract_join s _ _ _ (bAt_mono s i j h1 (by omega)) (bAt_mono s j k h2 h3)
/-- Spans that reach no sign say nothing of it. -/
theorem rst_no9 {n : Int} {st : At × Option Sp} {x : Sp} (h : ¬ (x.fr ≤ n ∧ n < x.tt)) : rstep n st x = st := by unfold rstep; rw [if_neg h]
theorem fold_skip (k : Int) : ∀ (D : List Sp) (st : At × Option Sp), (∀ x ∈ D, ¬ (x.fr ≤ k ∧ k < x.tt)) → D.foldl (rstep k) st = st
  | [], _, _ => rfl
  | x :: D, st, h => by
    rw [List.foldl_cons, rst_no9 (h x (by simp)), fold_skip k D st (fun y hy => h y (by simp [hy]))]
theorem mv_in {n m : Int} {x : Sp} (hn : 0 ≤ n ∧ n ≤ 1000000) (hm : m ≤ 1000000) (hx : 0 ≤ x.fr ∧ x.fr < x.tt ∧ x.tt ≤ m) : mvS n x = ⟨x.fr + n, x.tt + n, x.kd, x.vl⟩ := by
  unfold mvS
  rw [wrap_in7 (by omega) (by omega), wrap_in7 (by omega) (by omega)]
theorem fold_mv {n m k : Int} (hn : 0 ≤ n ∧ n ≤ 1000000) (hm : m ≤ 1000000) : ∀ (E : List Sp) (a : At) (o : Option Sp), (∀ x ∈ E, 0 ≤ x.fr ∧ x.fr < x.tt ∧ x.tt ≤ m) → (∀ y, o = some y → 0 ≤ y.fr ∧ y.fr < y.tt ∧ y.tt ≤ m) →
    (E.map (mvS n)).foldl (rstep (n + k)) (a, o.map (mvS n)) = ((E.foldl (rstep k) (a, o)).1, (E.foldl (rstep k) (a, o)).2.map (mvS n))
  | [], a, o, _, _ => rfl
  | x :: E, a, o, h, ho => by
    have hx := h x (by simp)
    have e := mv_in hn hm hx
    have hE : ∀ y ∈ E, 0 ≤ y.fr ∧ y.fr < y.tt ∧ y.tt ≤ m := fun y hy => h y (by simp [hy])
    rw [List.map_cons, List.foldl_cons, List.foldl_cons]
    have step : rstep (n + k) (a, o.map (mvS n)) (mvS n x) = ((rstep k (a, o) x).1, (rstep k (a, o) x).2.map (mvS n)) ∧ ∀ y, (rstep k (a, o) x).2 = some y → 0 ≤ y.fr ∧ y.fr < y.tt ∧ y.tt ≤ m := by
      have ec : ((mvS n x).fr ≤ n + k ∧ n + k < (mvS n x).tt) ↔ (x.fr ≤ k ∧ k < x.tt) := by rw [e]; simp only; omega
      have ek : (mvS n x).kd = x.kd := rfl
      have ev : (mvS n x).vl = x.vl := rfl
      unfold rstep
      by_cases hc : x.fr ≤ k ∧ k < x.tt
      · rw [if_pos (ec.2 hc), if_pos hc, ek, ev]
        by_cases k1 : x.kd = 1
        · simp [k1]; exact ho
        · by_cases k2 : x.kd = 2
          · simp [k2]; exact ho
          · by_cases k3 : x.kd = 3
            · simp [k3]; exact ho
            · by_cases k4 : x.kd = 4
              · simp [k4]; exact ho
              · rw [if_neg k1, if_neg k2, if_neg k3, if_neg k4, if_neg k1, if_neg k2, if_neg k3, if_neg k4]
                cases o with
                | none =>
                  refine ⟨rfl, fun y hy => ?_⟩
                  simp at hy
                  subst hy
                  exact hx
                | some y =>
                  have hy := ho y rfl
                  have ei : inB (mvS n x) (mvS n y) = inB x y := by
                    unfold inB
                    rw [e, mv_in hn hm hy, decide_eq_decide]
                    simp only
                    omega
                  simp only [Option.map_some, ei]
                  by_cases hi : inB x y = true
                  · rw [if_pos hi, if_pos hi]
                    refine ⟨rfl, fun z hz => ?_⟩
                    simp at hz
                    subst hz
                    exact hx
                  · rw [if_neg hi, if_neg hi]
                    refine ⟨rfl, fun z hz => ?_⟩
                    simp at hz
                    subst hz
                    exact hy
      · rw [if_neg (fun h => hc (ec.1 h)), if_neg hc]
        exact ⟨rfl, ho⟩
    rw [step.1]
    exact fold_mv hn hm E _ _ hE step.2
/-- The signs of two texts behind one another look as they did. -/
theorem join_alls {n m : Nat} {D E : List Sp} (hn : n ≤ 1000000) (hm : m ≤ 1000000) (hD : ∀ x ∈ D, 0 ≤ x.fr ∧ x.fr < x.tt ∧ x.tt ≤ n) (hE : ∀ x ∈ E, 0 ≤ x.fr ∧ x.fr < x.tt ∧ x.tt ≤ m) : alls (D ++ E.map (mvS n)) (n + m) = alls D n ++ alls E m := by
  unfold alls
  rw [List.range_add, List.map_append, List.map_map]
  congr 1
  · refine List.map_congr_left fun k hk => ?_
    have hk := List.mem_range.1 hk
    unfold rfoldA
    rw [List.foldl_append, fold_skip (k : Int) (E.map (mvS n)) _ (fun z hz => by
      obtain ⟨x, hx, rfl⟩ := List.mem_map.1 hz
      have h9 := hE x hx
      rw [mv_in (m := m) (by omega) (by omega) h9]
      simp only
      omega)]
  · refine List.map_congr_left fun k hk => ?_
    simp only [Function.comp]
    unfold rfoldA
    rw [List.foldl_append, fold_skip ((n + k : Nat) : Int) D _ (fun x hx => by have := hD x hx; omega)]
    have h9 := fold_mv (n := n) (m := m) (k := k) (by omega) (by omega) E at0 none hE (fun y h => by cases h)
    rw [show ((n + k : Nat) : Int) = (n : Int) + k by omega]
    simp only [Option.map_none] at h9
    rw [h9]
theorem join_signs (s u : ByteArray) (h : meltsB s u = false) : (signs (s ++ u)).length = (signs s).length + (signs u).length := by
  have h9 : signs (s ++ u) = signs s ++ (signs u).map (Sg.up s.size) := by
    by_cases e : signs (s ++ u) = signs s ++ (signs u).map (Sg.up s.size)
    · exact e
    · have := (melts_signs s u).2 e
      rw [h] at this
      cases this
  rw [h9, List.length_append, List.length_map]
/-- Right texts, joined, are right. -/
theorem join_ok {s u : ByteArray} {D E : List Sp} (h1 : chkT s D = 0) (h2 : chkT u E = 0) (hm : meltsB s u = false) (hz : (s ++ u).size ≤ 4096) (hl : (D ++ E.map (mvS (signs s).length)).length ≤ 256) : chkT (s ++ u) (D ++ E.map (mvS (signs s).length)) = 0 := by
  obtain ⟨a1, a2⟩ := chk_all h1
  obtain ⟨b1, b2⟩ := chk_all h2
  have n1 := signs_le s
  have n2 := signs_le u
  have k1 := (chkT_ok h1).1
  have k2 := (chkT_ok h2).1
  have mv : ∀ z ∈ E.map (mvS (signs s).length), ∃ x ∈ E, z = ⟨x.fr + (signs s).length, x.tt + (signs s).length, x.kd, x.vl⟩ := fun z hz => by
    obtain ⟨x, hx, rfl⟩ := List.mem_map.1 hz
    exact ⟨x, hx, mv_in (m := (signs u).length) (by omega) (by omega) (b1 x hx).1⟩
  refine chk_of hz hl ⟨fun z hz => ?_, fun x hx y hy hc => ?_⟩ (fun z hz => ?_)
  · rw [join_signs s u hm]
    rcases List.mem_append.1 hz with hz | hz
    · have := a1 z hz; omega
    · obtain ⟨x, hx, rfl⟩ := mv z hz
      have := b1 x hx
      simp only
      omega
  · rcases List.mem_append.1 hx with hx | hx <;> rcases List.mem_append.1 hy with hy | hy
    · exact a2 x hx y hy hc
    · obtain ⟨v, hv, rfl⟩ := mv y hy
      have p1 := a1 x hx
      have p2 := b1 v hv
      unfold crS at hc
      simp only at hc
      omega
    · obtain ⟨v, hv, rfl⟩ := mv x hx
      have p1 := a1 y hy
      have p2 := b1 v hv
      unfold crS at hc
      simp only at hc
      omega
    · obtain ⟨v, hv, rfl⟩ := mv x hx
      obtain ⟨u2, hu, rfl⟩ := mv y hy
      refine b2 v hv u2 hu ?_
      unfold crS at hc ⊢
      simp only at hc
      omega
  · rcases List.mem_append.1 hz with hz | hz
    · exact chk_vl h1 z hz
    · obtain ⟨x, hx, rfl⟩ := mv z hz
      exact chk_vl h2 x hx
end Go.Proofs.YtbiodfeanngkdaaDoor

/- The reference's begins, ends, moved; texts one behind the other (P0708). -/
namespace Go.Proofs.YtbiodfeanngkdaaDoor
open Go.RowKit Go.Shelf
attribute [local go_sem] Oper.semAt_some

theorem melts_nil (x : ByteArray) : meltsB ByteArray.empty x = false := by
  have h := meltsB_open ByteArray.empty x
  have h0 : (openE ByteArray.empty).size = 0 := by rfl
  rw [h0] at h
  cases hm : meltsB ByteArray.empty x with
  | false => rfl
  | true => exact absurd (h.1 hm).1 (by omega)
/-- Three texts behind one another. -/
theorem glue3 (x u y : ByteArray) : glueM [x, u, y] = if 4096 < (x ++ u ++ y).size then (ByteArray.empty, 3) else if meltsB x u = true then (ByteArray.empty, 22) else if meltsB (x ++ u) y = true then (ByteArray.empty, 22) else (x ++ u ++ y, 0) := by
  unfold glueM
  have e1 : lenB [x, u, y] = (x ++ u ++ y).size := by simp [lenB, ByteArray.size_append]; omega
  rw [e1]
  by_cases h : 4096 < (x ++ u ++ y).size
  · rw [if_pos h, if_pos h]
  · rw [if_neg h, if_neg h]
    unfold glueGo
    rw [melts_nil, if_neg (by simp), ByteArray.empty_append]
    unfold glueGo
    by_cases h2 : meltsB x u = true
    · rw [if_pos h2, if_pos h2]
    · rw [if_neg h2, if_neg h2]
      rfl
theorem glue2 (x u : ByteArray) : glueM [x, u] = if 4096 < (x ++ u).size then (ByteArray.empty, 3) else if meltsB x u = true then (ByteArray.empty, 22) else (x ++ u, 0) := by
  unfold glueM
  have e1 : lenB [x, u] = (x ++ u).size := by simp [lenB, ByteArray.size_append]
  rw [e1]
  by_cases h : 4096 < (x ++ u).size
  · rw [if_pos h, if_pos h]
  · rw [if_neg h, if_neg h]
    unfold glueGo
    rw [melts_nil, if_neg (by simp), ByteArray.empty_append]
    rfl
end Go.Proofs.YtbiodfeanngkdaaDoor

/- style.Join at every argument (P0707). -/
namespace Go.Proofs.YtbiodfeanngkdaaDoor
open Go.RowKit Go.Shelf
attribute [local go_sem] Oper.semAt_some

/-- What Join tells: an error, or a text. -/
def joiM (s : ByteArray) (D : List Sp) (u : ByteArray) (E : List Sp) : Int × ByteArray × List Sp :=
  if chkT s D ≠ 0 then (chkT s D, ByteArray.empty, []) else if chkT u E ≠ 0 then (chkT u E, ByteArray.empty, [])
  else if (glueM [s, u]).2 ≠ 0 then ((glueM [s, u]).2, ByteArray.empty, [])
  else if 256 < (D ++ E.map (mvS (signs s).length)).length then (2, ByteArray.empty, [])
  else (0, (glueM [s, u]).1, D ++ E.map (mvS (signs s).length))
theorem strR_two (w : World) (x y : ByteArray) : StrR (w.alloc (.cells #[.string x, .string y] 9)) w.heap.size [x, y] := fun i s h => by
  have e0 : (w.alloc (.cells #[.string x, .string y] 9)).heap[w.heap.size]? = _ := World.alloc_heap_new w _
  match i, h with
  | 0, h | 1, h =>
    simp at h
    subst h
    unfold World.cell?
    rw [e0]
    rfl
  | n + 2, h => simp at h
end Go.Proofs.YtbiodfeanngkdaaDoor

/- style.Cut at every argument (P0706). -/
namespace Go.Proofs.YtbiodfeanngkdaaDoor
open Go.RowKit Go.Shelf
attribute [local go_sem] Oper.semAt_some

/-- What both Cut tell: an error, or a text. -/
def cutT (s : ByteArray) (D : List Sp) (a b : Int) : Int × ByteArray × List Sp :=
  if chkT s D ≠ 0 then (chkT s D, ByteArray.empty, []) else if betB a b (signs s).length = false then (1, ByteArray.empty, [])
  else (0, cutM s a.toNat b.toNat, suL a b (isort ltS D))
theorem cl_len (f t : Int) (L : List Sp) : (clL f t L).length ≤ L.length := by
  unfold clL
  exact Nat.le_trans (List.length_filter_le _ _) (by simp)
theorem allB_in {D : List Sp} {n : Int} (h : allB D n = true) : ∀ x ∈ D, InS n x := fun x hx => by
  unfold allB at h
  have k := List.all_eq_true.1 h x hx
  unfold fitB at k
  have k := of_decide_eq_true k
  unfold InS
  omega
theorem chk_in {s : ByteArray} {D : List Sp} (h : chkT s D = 0) : ∀ x ∈ isort ltS D, InS (signs s).length x := fun x hx => by
  obtain ⟨h1, h2⟩ := chkT_ok h
  unfold chkT at h
  rw [if_neg (by omega), if_neg (by omega)] at h
  by_cases k : allB D (signs s).length = true ∧ crB D = false
  · exact allB_in k.1 x ((isort_mem' ltS x D).1 hx)
  · rw [if_neg k] at h; omega
end Go.Proofs.YtbiodfeanngkdaaDoor

/- The reference's may, outer: the outer spans first, put in one by one (P0706). -/
namespace Go.Proofs.YtbiodfeanngkdaaDoor
open Go.RowKit Go.Shelf
attribute [local go_sem] Oper.semAt_some

theorem flat4_cut (L : List Sp) (k : Nat) : flat4 L = flat4 (L.take k) ++ flat4 (L.drop k) := by
  have h : ∀ A B : List Sp, flat4 (A ++ B) = flat4 A ++ flat4 B := fun A B => by simp [flat4]
  have h9 := h (L.take k) (L.drop k)
  rw [List.take_append_drop] at h9
  exact h9
end Go.Proofs.YtbiodfeanngkdaaDoor

/- The reference's part (P0706). -/
namespace Go.Proofs.YtbiodfeanngkdaaDoor
open Go.RowKit Go.Shelf
attribute [local go_sem] Oper.semAt_some

end Go.Proofs.YtbiodfeanngkdaaDoor

/- The reference's Cut at every argument (P0706). -/
namespace Go.Proofs.YtbiodfeanngkdaaDoor
open Go.RowKit Go.Shelf
attribute [local go_sem] Oper.semAt_some

theorem own_form9 {W : World} {base n : Nat} {e : TypeId} {size : Nat} {v : Value} {xs : List Value} (h : W.ownsRow base e size v n xs) : ∃ o c, v = .slice o n c := by
  rcases h.2 with ⟨e0, e1⟩ | ⟨g, cp, cur, e0, _⟩
  · exact ⟨_, _, by rw [e0, e1]⟩
  · exact ⟨_, _, e0⟩
theorem but_low {M : Nat → Prop} {A W V : World} (h : But M A W) (k : Below A.heap.size W V) : But M A V :=
  ⟨k.os.trans h.os, k.tape.trans h.tape, k.output.trans h.output, Nat.le_trans h.size k.size, fun j hj hm => (k.block j hj).trans (h.same j hj hm)⟩
theorem tx_set1 {W : World} {P : Nat} {a b : Value} (h : Tx W P a b) (d : Value) : Tx (W.setCell ⟨P, 1, none⟩ d) P a d := by
  have h9 := set_atS h 1 d
  unfold Tx
  rw [h9]
  rfl
end Go.Proofs.YtbiodfeanngkdaaDoor

/- The reference's moved (P0708). -/
namespace Go.Proofs.YtbiodfeanngkdaaDoor
open Go.RowKit Go.Shelf
attribute [local go_sem] Oper.semAt_some

end Go.Proofs.YtbiodfeanngkdaaDoor

/- surtitlelaw7: SameSpans, SameText, Lend, Back; both Plain (chapter 7). -/
namespace Go.Proofs.YtbiodfeanngkdaaDoor
open Go.RowKit Go.Shelf
attribute [local go_sem] Oper.semAt_some

theorem sp_under : Tryd.prog.underlying 45 = some (.struct (Tryd.prog.fieldsOf 45)) := by kernel_rfl
theorem sp_held : Tryd.prog.stoodInHeld 45 = false := by kernel_rfl
theorem sp_guard : Tryd.prog.eqGuardType Tryd.prog.depth 45 = false := by kernel_rfl
theorem sp_fields : (Tryd.prog.fieldsOf 45).toList.map (fun f => (f.name, f.type, f.offset)) = [("From", 3, 0), ("To", 3, 1), ("Kind", 3, 2), ("Value", 3, 3)] := by kernel_rfl
set_option maxRecDepth 100000 in
theorem sp_same (a b c d : Int) (w : World) : (Op.equalIn 10000 45 (.agg #[.int .i64 a, .int .i64 b, .int .i64 c, .int .i64 d]) (.agg #[.int .i64 a, .int .i64 b, .int .i64 c, .int .i64 d])).run Tryd.prog w = .ok true w := by
  rw [run_equalIn_agg _ _ _ _ _ sp_under sp_held]
  have hf := sp_fields
  match h : (Tryd.prog.fieldsOf 45).toList, hf with
  | [f0, f1, f2, f3], hf =>
    clear h
    simp only [List.map_cons, List.map_nil, List.cons.injEq, Prod.mk.injEq, and_true] at hf
    obtain ⟨⟨n0, t0, o0⟩, ⟨n1, t1, o1⟩, ⟨n2, t2, o2⟩, ⟨n3, t3, o3⟩⟩ := hf
    have u3 : Tryd.prog.underlying 3 = some (.int .i64) := Tryd.underlying3
    simp [Op.eqFields, n0, n1, n2, n3, t0, t1, t2, t3, o0, o1, o2, o3, go_sem, u3]
  | [], hf => simp at hf
  | [_], hf => simp at hf
  | [_, _], hf => simp at hf
  | [_, _, _], hf => simp at hf
  | _ :: _ :: _ :: _ :: _ :: _, hf => simp at hf
theorem sp_neq (a b c d : Int) (w : World) : (binOp .neq 45 (.agg #[.int .i64 a, .int .i64 b, .int .i64 c, .int .i64 d]) (.agg #[.int .i64 a, .int .i64 b, .int .i64 c, .int .i64 d])).run Tryd.prog w = .ok (.bool false) w := by
  rw [run_neq_struct, sp_same]; rfl
theorem sp_eql (a b c d : Int) (w : World) : (binOp .eql 45 (.agg #[.int .i64 a, .int .i64 b, .int .i64 c, .int .i64 d]) (.agg #[.int .i64 a, .int .i64 b, .int .i64 c, .int .i64 d])).run Tryd.prog w = .ok (.bool true) w := by
  rw [run_eql_struct, sp_same]; rfl
/-- What both Plain tell. -/
def plaV (s : ByteArray) : Value := if 4096 < s.size then .tuple #[.agg #[.string ⟨#[]⟩, .slice none 0 0], .int .i64 3] else .tuple #[.agg #[.string s, .slice none 0 0], .int .i64 0]
end Go.Proofs.YtbiodfeanngkdaaDoor

/- surtitlelaw7: Lend, Back (chapter 7). -/
namespace Go.Proofs.YtbiodfeanngkdaaDoor
open Go.RowKit Go.Shelf
attribute [local go_sem] Oper.semAt_some

def mkS : Sp := ⟨-77, 0, 0, 0⟩
/-- append to a row of one's own, of a slice that may be nil: a step of a region that draws. -/
theorem step_spans {P : Program} (w : World) {ops : Array Oper} {o : Oper} {a : Act} {K : Act → World → Prop} {Q : Exit → Act → World → Prop} {E : Prop} (hg : o.guard = none) (s x : Operand) (t : TypeId)
    (ho : o.op = .call { callee := .builtin .append, args := #[s, x], argTypes := #[t, t] })
    (base : Nat) (e : TypeId) (i : TypeInfo) (z : Value) (size bytes : Nat) (ht : P.underlying t = some (.slice e)) (hi : P.info? e = some i) (hz : i.zero = some z)
    (hsize : i.size = size) (hby : i.bytes = bytes) (hzs : z.cells.size = size) (hsz : 0 < size)
    (v : Value) (n : Nat) (xs : List Value) (hs : a.eval s = v) (hown : w.ownsRow base e size v n xs)
    (oa : Option Addr) (m c : Nat) (news : List Value) (hx : a.eval x = .slice oa m c) (hn : oa = none → m = 0 ∧ c = 0) (hl : news.length = m * size) (hnews : ∀ ad, oa = some ad → ∀ j u, news[j]? = some u → w.cell? (ad.add j) = some u) (h1 : ∀ u ∈ news, u.oneCell' = true)
    (h63 : n + m ≤ maxLen) (hbytes : (n + m) * bytes ≤ 140737488355328) (hbase : base ≤ w.heap.size)
    (hvn : v ≠ .slice none 0 0) (h : ∀ v' w', w'.ownsRow base e size v' (n + m) (xs ++ news) → w.grownBy w' v.ownBlock → v' ≠ .slice none 0 0 → K (a.put o.dst v') w') :
    if Region.wanted o (yielded ops a.tmps) = true then Oper.wp P o a w K Q else E := by
  have hw : Region.wanted o (yielded ops a.tmps) = true := by simp [Region.wanted, hg]
  rw [if_pos hw]
  cases oa with
  | none =>
    obtain ⟨rfl, rfl⟩ := hn rfl
    have hbv : news = [] := List.length_eq_zero_iff.1 (by rw [hl, Nat.zero_mul])
    subst hbv
    have h2 := h v w (by rw [List.append_nil]; exact hown) (World.grownBy.refl w _) hvn
    have hrun := run_append_owned_none (P := P) (w := w) base t o.type e i size ht hi v n xs hown
    unfold Oper.wp
    simp [execOp, ho, resolve, invoke, builtin, hs, hx, hrun, Result.andThen]
    exact h2
  | some ad => exact wp_append_own w s x t ho base e i z size bytes ht hi hz hsize hby hzs hsz v n xs hs hown ad m c news hx hl (hnews ad rfl) h1 h63 hbytes hbase fun v' w' h2 h3 h4 => h v' w' h2 h3 (fun e9 => hvn (h4.1 e9).1)
theorem own_some {W : World} {base n : Nat} {e : TypeId} {size : Nat} {v : Value} {xs : List Value} (h : W.ownsRow base e size v (n + 1) xs) : ∃ g c, v = .slice (some ⟨g, 0, none⟩) (n + 1) c ∧ n + 1 ≤ c := by
  rcases h.2 with ⟨_, e0⟩ | ⟨g, c, cur, e0, _, _, h3, _⟩
  · omega
  · exact ⟨g, c, e0, h3⟩
theorem make_spans (n : Nat) (hn : n ≤ 8796093022208) : ∃ mk : World → World, ∀ W : World, (Instr.makeSlice 22 (.int .i64 0) (.int .i64 (n : Int))).run Tryd.prog W = .ok (.slice (some ⟨W.heap.size, 0, none⟩) 0 n) (mk W) ∧
    (mk W).ownsRow W.heap.size 45 4 (.slice (some ⟨W.heap.size, 0, none⟩) 0 n) 0 [] ∧ W.grownBy (mk W) none := by
  obtain ⟨i0, hi, hz0, hz1, hz2⟩ := info_parts infoSp
  obtain ⟨mk, h⟩ := Classical.axiomOfChoice (fun W : World => run_make_own (P := Tryd.prog) W W.heap.size 22 45 i0 (.agg #[.int .i64 0, .int .i64 0, .int .i64 0, .int .i64 0]) 4 Tryd.underlying22 hi hz0 hz1 .i64 .i64 n (by rw [hz2]; omega) (by unfold maxLen; omega) (Nat.le_refl _))
  exact ⟨mk, h⟩
end Go.Proofs.YtbiodfeanngkdaaDoor

/- The reference's Splice at every argument (P0708). -/
namespace Go.Proofs.YtbiodfeanngkdaaDoor
open Go.RowKit Go.Shelf
attribute [local go_sem] Oper.semAt_some

/-- append to a row of one's own, of a slice that may be nil: a step of a region that draws. -/
theorem step_spans2 {P : Program} (w : World) {ops : Array Oper} {o : Oper} {a : Act} {K : Act → World → Prop} {Q : Exit → Act → World → Prop} {E : Prop} (hg : o.guard = none) (s x : Operand) (t : TypeId)
    (ho : o.op = .call { callee := .builtin .append, args := #[s, x], argTypes := #[t, t] })
    (base : Nat) (e : TypeId) (i : TypeInfo) (z : Value) (size bytes : Nat) (ht : P.underlying t = some (.slice e)) (hi : P.info? e = some i) (hz : i.zero = some z)
    (hsize : i.size = size) (hby : i.bytes = bytes) (hzs : z.cells.size = size) (hsz : 0 < size)
    (v : Value) (n : Nat) (xs : List Value) (hs : a.eval s = v) (hown : w.ownsRow base e size v n xs)
    (oa : Option Addr) (m c : Nat) (news : List Value) (hx : a.eval x = .slice oa m c) (hn : oa = none → m = 0 ∧ c = 0) (hl : news.length = m * size) (hnews : ∀ ad, oa = some ad → ∀ j u, news[j]? = some u → w.cell? (ad.add j) = some u) (h1 : ∀ u ∈ news, u.oneCell' = true)
    (h63 : n + m ≤ maxLen) (hbytes : (n + m) * bytes ≤ 140737488355328) (hbase : base ≤ w.heap.size)
    (h : ∀ v' w', w'.ownsRow base e size v' (n + m) (xs ++ news) → w.grownBy w' v.ownBlock → K (a.put o.dst v') w') :
    if Region.wanted o (yielded ops a.tmps) = true then Oper.wp P o a w K Q else E := by
  have hw : Region.wanted o (yielded ops a.tmps) = true := by simp [Region.wanted, hg]
  rw [if_pos hw]
  cases oa with
  | none =>
    obtain ⟨rfl, rfl⟩ := hn rfl
    have hbv : news = [] := List.length_eq_zero_iff.1 (by rw [hl, Nat.zero_mul])
    subst hbv
    have h2 := h v w (by rw [List.append_nil]; exact hown) (World.grownBy.refl w _)
    have hrun := run_append_owned_none (P := P) (w := w) base t o.type e i size ht hi v n xs hown
    unfold Oper.wp
    simp [execOp, ho, resolve, invoke, builtin, hs, hx, hrun, Result.andThen]
    exact h2
  | some ad => exact wp_append_own w s x t ho base e i z size bytes ht hi hz hsize hby hzs hsz v n xs hs hown ad m c news hx hl (hnews ad rfl) h1 h63 hbytes hbase fun v' w' h2 h3 _ => h v' w' h2 h3
theorem own_read9 {W : World} {base n : Nat} {v : Value} {Q : List Sp} (h : W.ownsRow base 45 4 v n (flat4 Q)) (hn : Q.length = n) : ∃ o cap, v = .slice o n cap ∧ (n ≤ cap ∧ cap ≤ maxLen) ∧ SpO W o Q ∧ (∀ a, o = some a → base ≤ a.block) := by
  obtain ⟨o, cap, e, hc, _, hs, hel⟩ := own_sc h hn
  refine ⟨o, cap, e, hc, ?_, fun a ha => ?_⟩
  · cases o with
    | none => rw [hel rfl]; exact SpO.nil _ _
    | some ad =>
      obtain ⟨g, rfl, _, hsc⟩ := hs ad rfl
      exact hsc.spo
  · obtain ⟨g, rfl, hg, _⟩ := hs a ha
    exact hg
theorem take_snoc9 {α : Type} {L : List α} {k : Nat} {p : α} (h : L[k]? = some p) : L.take (k + 1) = L.take k ++ [p] := by rw [List.take_add_one, h]; rfl
theorem sp_cells9 {W : World} {G : Nat} {a b c d : Value} (h : W.heap[G]? = some (.cells #[a, b, c, d] 45)) : W.cell? ⟨G, 0, none⟩ = some a ∧ W.cell? ⟨G, 1, none⟩ = some b ∧ W.cell? ⟨G, 2, none⟩ = some c ∧ W.cell? ⟨G, 3, none⟩ = some d ∧ W.frozen? ⟨G, 0, none⟩ = false ∧ W.frozen? ⟨G, 1, none⟩ = false := by
  simp [World.cell?, World.frozen?, h]
/-- Splice, where both texts and the part are right. -/
theorem splM_ok (s : ByteArray) (D : List Sp) (i j n : Nat) (u : ByteArray) (E : List Sp) (x y : ByteArray) (m : Nat) (h1 : chkT s D = 0) (h2 : chkT u E = 0) (hn : (signs s).length = n) (hm : (signs u).length = m) (hb : betB i j n = true) (hx : cutM s 0 i = x) (hy : cutM s j n = y) :
    splM s D i j u E = if 4096 < (x ++ u ++ y).size then (3, ByteArray.empty, []) else if meltsB x u = true then (22, ByteArray.empty, []) else if meltsB (x ++ u) y = true then (22, ByteArray.empty, [])
      else if 256 < (aroundM i j m (isort ltS D) ++ E.map (mvS i)).length then (2, ByteArray.empty, []) else (0, x ++ u ++ y, aroundM i j m (isort ltS D) ++ E.map (mvS i)) := by
  unfold splM
  rw [h1, h2, hn, hm, hb, if_neg (by simp), if_neg (by simp), if_neg (by simp), Int.toNat_natCast, Int.toNat_natCast, hx, hy, glue3]
  by_cases c1 : 4096 < (x ++ u ++ y).size
  · rw [if_pos c1, if_pos c1]
    rfl
  · rw [if_neg c1, if_neg c1]
    by_cases c2 : meltsB x u = true
    · rw [if_pos c2, if_pos c2]
      rfl
    · rw [if_neg c2, if_neg c2]
      by_cases c3 : meltsB (x ++ u) y = true
      · rw [if_pos c3, if_pos c3]
        rfl
      · rw [if_neg c3, if_neg c3, if_neg (by simp)]
end Go.Proofs.YtbiodfeanngkdaaDoor

/- Join as mathematics: the reference's by Splice at the end is the program's (P0707). -/
namespace Go.Proofs.YtbiodfeanngkdaaDoor
open Go.RowKit Go.Shelf

theorem bAt_zero (s : ByteArray) : bAt s 0 = 0 := by
  unfold bAt spotAt
  rw [List.take_zero]
  rfl
theorem bAt_end (s : ByteArray) : bAt s (signs s).length = s.size := by
  obtain ⟨q, h1, _, _, h4⟩ := spotAt_lies s _ (Nat.le_refl _)
  rw [List.drop_length] at h4
  have h5 : q = s.size := h4
  unfold bAt
  rw [h1, h5]
  simp
theorem cutM_all (s : ByteArray) : cutM s 0 (signs s).length = s := by
  unfold cutM
  rw [bAt_zero, bAt_end, ByteArray.extract_zero_size]
theorem cutM_none (s : ByteArray) (i : Nat) : cutM s i i = ByteArray.empty := by
  unfold cutM
  refine ba_ext ?_
  simp
theorem melts_end (x : ByteArray) : meltsB x ByteArray.empty = false := by
  cases h : meltsB x ByteArray.empty with
  | false => rfl
  | true =>
    refine absurd ?_ ((melts_iff x ByteArray.empty).1 h)
    rw [ByteArray.append_empty]
    exact ⟨_, sgns_lies x x.size 0 (by omega) (Nat.zero_le _)⟩
theorem around_id (n m : Int) : ∀ (L : List Sp), (∀ x ∈ L, x.fr < x.tt ∧ x.tt ≤ n) → aroundM n n m L = L
  | [], _ => rfl
  | x :: L, h => by
    have hx := h x (List.mem_cons_self ..)
    have ih := around_id n m L (fun y hy => h y (List.mem_cons_of_mem _ hy))
    unfold aroundM at ih ⊢
    have e1 : begI n n m x.fr = x.fr := by unfold begI; rw [if_neg (by omega), if_pos (by omega)]
    have e2 : endI n n m x.tt = x.tt := by unfold endI; rw [if_pos (by omega)]
    rw [List.map_cons, List.filter_cons, e1, e2, if_pos (by simp [hx.1]), ih]
theorem chk_fit {s : ByteArray} {D : List Sp} (h : chkT s D = 0) : ∀ x ∈ D, InS (signs s).length x ∧ x.fr < x.tt := fun x hx => by
  obtain ⟨h1, h2⟩ := chkT_ok h
  unfold chkT at h
  rw [if_neg (by omega), if_neg (by omega)] at h
  by_cases k : allB D (signs s).length = true ∧ crB D = false
  · exact ⟨allB_in k.1 x hx, fit_lt k.1 x hx⟩
  · rw [if_neg k] at h; omega
theorem mv_zero (n : Int) (hn : n ≤ 1000000) : ∀ (L : List Sp), (∀ x ∈ L, InS n x) → L.map (mvS 0) = L
  | [], _ => rfl
  | x :: L, h => by
    have hx := h x (List.mem_cons_self ..)
    unfold InS at hx
    rw [List.map_cons, mv_zero n hn L (fun y hy => h y (List.mem_cons_of_mem _ hy))]
    unfold mvS
    rw [wrap_in7 (by omega) (by omega), wrap_in7 (by omega) (by omega), Int.add_zero, Int.add_zero]
/-- Join is Splice at the end, but for the spans' order. -/
theorem spl_joi (s : ByteArray) (D : List Sp) (u : ByteArray) (E : List Sp) :
    (splM s D (signs s).length (signs s).length u E).1 = (joiM s D u E).1 ∧
    ((joiM s D u E).1 ≠ 0 → joiM s D u E = ((joiM s D u E).1, ByteArray.empty, [])) ∧
    ((joiM s D u E).1 = 0 → chkT s D = 0 ∧ chkT u E = 0 ∧ joiM s D u E = (0, (splM s D (signs s).length (signs s).length u E).2.1, D ++ E.map (mvS (signs s).length))) := by
  by_cases h1 : chkT s D = 0
  · by_cases h2 : chkT u E = 0
    · have hb : betB (signs s).length (signs s).length (signs s).length = true := by unfold betB; simp
      have e1 := splM_ok s D (signs s).length (signs s).length (signs s).length u E _ _ _ h1 h2 rfl rfl hb rfl rfl
      rw [cutM_all, cutM_none, ByteArray.append_empty, melts_end] at e1
      have hid : aroundM (signs s).length (signs s).length (signs u).length (isort ltS D) = isort ltS D := around_id _ _ _ (fun x hx => by
        have := chk_fit h1 x ((isort_mem' ltS x D).1 hx)
        unfold InS at this
        omega)
      rw [hid] at e1
      have hlen : (isort ltS D ++ E.map (mvS (signs s).length)).length = (D ++ E.map (mvS (signs s).length)).length := by rw [List.length_append, List.length_append, isort_length]
      rw [hlen] at e1
      have e2 : joiM s D u E = if 4096 < (s ++ u).size then (3, ByteArray.empty, []) else if meltsB s u = true then (22, ByteArray.empty, []) else if 256 < (D ++ E.map (mvS (signs s).length)).length then (2, ByteArray.empty, []) else (0, s ++ u, D ++ E.map (mvS (signs s).length)) := by
        unfold joiM
        rw [h1, h2, if_neg (by simp), if_neg (by simp), glue2]
        by_cases c1 : 4096 < (s ++ u).size
        · rw [if_pos c1, if_pos c1]; rfl
        · rw [if_neg c1, if_neg c1]
          by_cases c2 : meltsB s u = true
          · rw [if_pos c2, if_pos c2]; rfl
          · rw [if_neg c2, if_neg c2, if_neg (by simp)]
      rw [e1, e2]
      by_cases c1 : 4096 < (s ++ u).size
      · rw [if_pos c1, if_pos c1]
        exact ⟨rfl, fun _ => rfl, fun h => absurd h (by simp)⟩
      · rw [if_neg c1, if_neg c1]
        by_cases c2 : meltsB s u = true
        · rw [if_pos c2, if_pos c2]
          exact ⟨rfl, fun _ => rfl, fun h => absurd h (by simp)⟩
        · rw [if_neg c2, if_neg c2, if_neg (by simp)]
          by_cases c3 : 256 < (D ++ E.map (mvS (signs s).length)).length
          · rw [if_pos c3, if_pos c3]
            exact ⟨rfl, fun _ => rfl, fun h => absurd h (by simp)⟩
          · rw [if_neg c3, if_neg c3]
            exact ⟨rfl, fun h => absurd rfl h, fun _ => ⟨h1, h2, rfl⟩⟩
    · have e1 : splM s D (signs s).length (signs s).length u E = (chkT u E, ByteArray.empty, []) := by unfold splM; rw [h1, if_neg (by simp), if_pos h2]
      have e2 : joiM s D u E = (chkT u E, ByteArray.empty, []) := by unfold joiM; rw [h1, if_neg (by simp), if_pos h2]
      rw [e1, e2]
      exact ⟨rfl, fun _ => rfl, fun h => absurd h h2⟩
  · have e1 : splM s D (signs s).length (signs s).length u E = (chkT s D, ByteArray.empty, []) := by unfold splM; rw [if_pos h1]
    have e2 : joiM s D u E = (chkT s D, ByteArray.empty, []) := by unfold joiM; rw [if_pos h1]
    rw [e1, e2]
    exact ⟨rfl, fun _ => rfl, fun h => absurd h h1⟩
end Go.Proofs.YtbiodfeanngkdaaDoor

/- The cuts of a text, joined, are the text (P0712, P0713), as mathematics. -/
namespace Go.Proofs.YtbiodfeanngkdaaDoor
open Go.RowKit Go.Shelf

/-- The signs of a cut, where they lay. -/
theorem cut_lies (s : ByteArray) (i j : Nat) (h1 : i ≤ j) (h2 : j ≤ (signs s).length) : (signs (cutM s i j)).map (Sg.up (bAt s i)) = ((signs s).drop i).take (j - i) := by
  obtain ⟨a, ha, hal, l1, l2⟩ := spotAt_lies s i (by omega)
  obtain ⟨b, hb, hbl, l3, l4⟩ := spotAt_lies s j h2
  have ea := (bAt_eq s i (by omega)).1
  have eb := (bAt_eq s j h2).1
  obtain rfl : a = bAt s i := by omega
  obtain rfl : b = bAt s j := by omega
  have e : (signs s).take j = (signs s).take i ++ ((signs s).drop i).take (j - i) := by
    rw [← List.take_add]
    congr 1
    omega
  rw [e] at l3
  obtain ⟨q, q1, q2⟩ := lies_split l3
  have hq : q = bAt s i := by
    have x := stepsF_b ⟨0, 0, 0⟩ l1
    have y := stepsF_b ⟨0, 0, 0⟩ q1
    have h1 := lies_le l1
    have h2 := lies_le q1
    rw [x] at y
    simp at y
    omega
  subst hq
  exact signs_part q2 hbl
theorem up_up (a b : Nat) (x : Sg) : (x.up a).up b = x.up (a + b) := by
  unfold Sg.up
  simp only [Sg.mk.injEq, and_true]
  omega
theorem up_inj (a : Nat) {x y : Sg} (h : x.up a = y.up a) : x = y := by
  obtain ⟨x1, x2, x3, x4, x5⟩ := x
  obtain ⟨y1, y2, y3, y4, y5⟩ := y
  unfold Sg.up at h
  simp only [Sg.mk.injEq] at h
  obtain ⟨e1, rfl, rfl, rfl, rfl⟩ := h
  obtain rfl : x1 = y1 := by omega
  rfl
theorem map_up_inj (a : Nat) : ∀ {l m : List Sg}, l.map (Sg.up a) = m.map (Sg.up a) → l = m
  | [], [], _ => rfl
  | [], _ :: _, h => by simp at h
  | _ :: _, [], h => by simp at h
  | x :: l, y :: m, h => by
    rw [List.map_cons, List.map_cons, List.cons.injEq] at h
    rw [up_inj a h.1, map_up_inj a h.2]
/-- Two cuts side by side melt into nothing. -/
theorem cut_melts (s : ByteArray) (i j k : Nat) (h1 : i ≤ j) (h2 : j ≤ k) (h3 : k ≤ (signs s).length) : meltsB (cutM s i j) (cutM s j k) = false := by
  cases e : meltsB (cutM s i j) (cutM s j k) with
  | false => rfl
  | true =>
    refine ((melts_signs _ _).1 e ?_).elim
    rw [cut_join s i j k h1 h2 h3]
    apply map_up_inj (bAt s i)
    rw [cut_lies s i k (by omega) h3, List.map_append, cut_lies s i j h1 (by omega), List.map_map]
    have ef : (Sg.up (bAt s i) ∘ Sg.up (cutM s i j).size) = Sg.up (bAt s j) := by
      funext x
      show (x.up (cutM s i j).size).up (bAt s i) = x.up (bAt s j)
      have m1 := bAt_mono s i j h1 (by omega)
      have m2 := (bAt_eq s j (by omega)).2
      rw [up_up]
      congr 1
      unfold cutM
      rw [ByteArray.size_extract]
      omega
    rw [ef, cut_lies s j k h2 h3]
    rw [show k - i = (j - i) + (k - j) by omega, List.take_add, List.drop_drop]
    congr 3
    omega
/-- Two cuts side by side, joined. -/
theorem joi_cuts {s : ByteArray} {D X : List Sp} (h : chkT s D = 0) (j k : Nat) (h2 : j ≤ k) (h3 : k ≤ (signs s).length) (hX : chkT (cutM s 0 j) X = 0) :
    joiM (cutM s 0 j) X (cutM s j k) (suL j k (isort ltS D)) = if 256 < (X ++ (suL j k (isort ltS D)).map (mvS j)).length then (2, ByteArray.empty, []) else (0, cutM s 0 k, X ++ (suL j k (isort ltS D)).map (mvS j)) := by
  have h0 := (chkT_ok h).1
  have hz : (cutM s 0 j ++ cutM s j k).size ≤ 4096 := by
    rw [cut_join s 0 j k (by omega) h2 h3]
    exact Nat.le_trans (cutM_size s 0 k) h0
  have hg : glueM [cutM s 0 j, cutM s j k] = (cutM s 0 k, 0) := by
    rw [glue2, if_neg (by omega), cut_melts s 0 j k (by omega) h2 h3, if_neg (by simp), cut_join s 0 j k (by omega) h2 h3]
  unfold joiM
  rw [if_neg (by simp [hX]), if_neg (by simp [cut_ok h j k h2 h3]), hg, if_neg (by simp), cut_signs s 0 j (by omega) (by omega), Nat.sub_zero]
/-- What it then looks like. -/
theorem joi_right {s : ByteArray} {D X : List Sp} (h : chkT s D = 0) (j k : Nat) (h2 : j ≤ k) (h3 : k ≤ (signs s).length) (hX : chkT (cutM s 0 j) X = 0) (hA : alls X j = (alls D (signs s).length).take j)
    (hl : ¬ 256 < (X ++ (suL j k (isort ltS D)).map (mvS j)).length) :
    chkT (cutM s 0 k) (X ++ (suL j k (isort ltS D)).map (mvS j)) = 0 ∧ alls (X ++ (suL j k (isort ltS D)).map (mvS j)) k = (alls D (signs s).length).take k := by
  have h0 := (chkT_ok h).1
  have hn := signs_le s
  have ej : (signs (cutM s 0 j)).length = j := cut_signs s 0 j (by omega) (by omega)
  have ek : (signs (cutM s j k)).length = k - j := cut_signs s j k h2 h3
  have hc := cut_ok h j k h2 h3
  have hz : (cutM s 0 j ++ cutM s j k).size ≤ 4096 := by
    rw [cut_join s 0 j k (by omega) h2 h3]
    exact Nat.le_trans (cutM_size s 0 k) h0
  refine ⟨?_, ?_⟩
  · have h9 := join_ok hX hc (cut_melts s 0 j k (by omega) h2 h3) hz (by rw [ej]; omega)
    rw [ej, cut_join s 0 j k (by omega) h2 h3] at h9
    exact h9
  · have h9 := join_alls (n := j) (m := k - j) (D := X) (E := suL j k (isort ltS D)) (by omega) (by omega) (fun x hx => by have := ((chk_all hX).1 x hx).1; rw [ej] at this; exact this) (fun x hx => by have := ((chk_all hc).1 x hx).1; rw [ek] at this; exact this)
    rw [show j + (k - j) = k by omega] at h9
    rw [h9, hA, cut_alls h j k h2 h3, ← List.take_add]
    congr 1
    omega
/-- The three cuts, joined, are alike to the text. -/
theorem joi_same {s : ByteArray} {D Y : List Sp} (h : chkT s D = 0) (hY : chkT (cutM s 0 (signs s).length) Y = 0) (hA : alls Y (signs s).length = (alls D (signs s).length).take (signs s).length) : samB (cutM s 0 (signs s).length) Y s D = true := by
  unfold samB
  rw [cutM_all] at hY ⊢
  refine decide_eq_true ⟨hY, h, rfl, ?_⟩
  rw [hA, List.take_of_length_le (by rw [alls_len]; omega)]
end Go.Proofs.YtbiodfeanngkdaaDoor

/- surtitlelaw7: within, same (P0712). -/
namespace Go.Proofs.YtbiodfeanngkdaaDoor
open Go.RowKit Go.Shelf
attribute [local go_sem] Oper.semAt_some

set_option maxRecDepth 100000 in
theorem within7_any (a m : Int) (hm : 0 < m ∧ m ≤ 4611686018427387904) (w : World) :
    Calls Tryd.prog 7 #[.int .i64 a, .int .i64 m] w fun e w' => e = .returned (.int .i64 (a % m)) ∧ w' = w := by
  obtain ⟨t, ht⟩ : ∃ t, a.tmod m = t := ⟨_, rfl⟩
  have zt : ∀ w, (Op.intDiv .rem .i64 a m).run Tryd.prog w = .ok (.int .i64 t) w := fun w => by
    unfold Op.intDiv
    rw [if_neg (by omega), ht]
    rfl
  have m0 := Int.emod_nonneg a (show m ≠ 0 by omega)
  have m1 := Int.emod_lt_of_pos a hm.1
  have tm : a % m = if t < 0 then t + m else t := by
    rw [← ht]
    by_cases c : 0 ≤ a
    · have e := Int.tmod_eq_emod_of_nonneg (b := m) c
      rw [e, if_neg (by omega)]
    · have e := Int.tmod_eq_emod (a := a) (b := m)
      have na : (m.natAbs : Int) = m := by omega
      by_cases dv : m ∣ a
      · rw [if_pos (.inr dv)] at e
        have : a % m = 0 := Int.emod_eq_zero_of_dvd dv
        rw [e, this]
        simp
      · rw [if_neg (fun x => x.elim c dv)] at e
        have : a % m ≠ 0 := fun x => dv (Int.dvd_of_emod_eq_zero x)
        rw [e, if_pos (by omega)]
        omega
  have tb : -4611686018427387904 ≤ t ∧ t ≤ 4611686018427387904 := by
    by_cases c : t < 0
    · rw [if_pos c] at tm; omega
    · rw [if_neg c] at tm; omega
  rw [tm]
  clear tm m0 m1
  by_cases c : t < 0
  · rw [if_pos c]
    go_enter Tryd.func7, Tryd.ntmps7
    go_wp2_with fail
    go_ret
    exact ⟨rfl, rfl⟩
  · rw [if_neg c]
    go_enter Tryd.func7, Tryd.ntmps7
    go_wp2_with fail
    go_ret
    exact ⟨rfl, rfl⟩

/-- A part of a row of looks. -/
theorem AtO.part {W : World} {a : Addr} {L : List At} (h : AtO W (some a) L) (i m : Nat) : AtO W (some (a.add (i * 5))) ((L.drop i).take m) := fun k r hr => by
  rw [List.getElem?_take] at hr
  by_cases hk : k < m
  · rw [if_pos hk, List.getElem?_drop] at hr
    obtain ⟨b, e, hb, c0, c1, c2, c3, c4⟩ := h (i + k) r hr
    obtain rfl : a = b := by simpa using e
    have ea : (a.add (i * 5)).add (k * 5) = a.add ((i + k) * 5) := by
      rw [show (i + k) * 5 = i * 5 + k * 5 by omega]
      unfold Addr.add
      by_cases h0 : i * 5 = 0
      · by_cases h1 : k * 5 = 0
        · simp [h0, h1]
        · simp [h0, h1]
      · by_cases h1 : k * 5 = 0
        · simp [h0, h1]
        · rw [if_neg h0, if_neg h1, if_neg (by omega)]
          simp [Nat.add_assoc]
    refine ⟨_, rfl, by rw [addrS_block]; exact hb, ?_⟩
    rw [ea]
    exact ⟨c0, c1, c2, c3, c4⟩
  · rw [if_neg hk] at hr
    simp at hr
theorem AtO.nil (W : World) (o : Option Addr) : AtO W o [] := fun i r h => by simp at h
set_option maxRecDepth 100000 in
set_option maxHeartbeats 2000000 in
theorem sameA_any (L : List At) (o1 o2 : Option Addr) (c1 c2 : Nat) (hl : L.length ≤ 1048576) (w : World) (h1 : AtO w o1 L) (h2 : AtO w o2 L) :
    Calls Tryd.prog 11 #[.slice o1 L.length c1, .slice o2 L.length c2] w fun e w' => e = .returned (.bool true) ∧ Below w.heap.size w w' := by
  obtain ⟨N, hN⟩ : ∃ N, L.length = N := ⟨_, rfl⟩
  have HN := hideS (And.intro hN (And.intro h1 h2))
  rw [hN] at hl ⊢
  clear hN h1 h2
  have hgd := at_guard
  go_enter Tryd.func11, Tryd.ntmps11
  go_wp2_with fail
  go_loopw [5] (fun iv wq => ∃ i : Nat, iv = .int .i64 (i : Nat) ∧ i ≤ N ∧ Below w.heap.size w wq) (fun iv _ => N - (intOf iv).toNat)
  case atStart => exact ⟨0, rfl, Nat.zero_le _, Below.refl _ _⟩
  case round =>
    obtain ⟨i, rfl, hiN, hb⟩ := hrel
    obtain ⟨wq, rfl⟩ : ∃ wq, wq = wr := ⟨_, rfl⟩
    by_cases hlt : i < N
    · obtain ⟨x, hx⟩ : ∃ x, L[i]? = some x := ⟨_, List.getElem?_eq_getElem (by rw [HN.out.1]; exact hlt)⟩
      obtain ⟨a, rfl, _, k0, k1, k2, k3, k4⟩ := HN.out.2.1.keep hb i x hx
      obtain ⟨d, rfl, _, e0, e1, e2, e3, e4⟩ := HN.out.2.2.keep hb i x hx
      have d1 : (i : Int) < (N : Int) := by omega
      have wi : IntKind.i64.wrap ((i : Int) + 1) = ((i + 1 : Nat) : Int) := by rw [show ((i + 1 : Nat) : Int) = (i : Int) + 1 by omega]; exact IntWalk.i64_in _ ⟨by omega, by omega⟩
      have HB := hideS hb
      have hne := fun W => at_neq x x W
      unfold At.val at hne
      rw [decide_eq_true rfl] at hne
      clear hb hx
      go_wp2_with fail
      go_quiet (fail)
      go_wp2_with fail
      go_roundw
      case rel => exact ⟨i + 1, by first | rfl | simp, by omega, HB.out.trans ((below_dnS (Below.refl _ _) nq).mono HB.out.size)⟩
      case measure => simp [intOf]; omega
    · have d1 : ¬ (i : Int) < (N : Int) := by omega
      have HB := hideS hb
      clear hb
      go_wp2_with fail
      go_ret
      exact ⟨rfl, HB.out⟩
end Go.Proofs.YtbiodfeanngkdaaDoor

/- Runs part the signs, and say how each looks (P0703, P0711), as mathematics. -/
namespace Go.Proofs.YtbiodfeanngkdaaDoor
open Go.RowKit Go.Shelf

/-- Runs of the first i signs of looks. -/
structure RP (l : List At) (R : List Rn) (i : Nat) : Prop where
  no : i = 0 → R = []
  has : 0 < i → ∃ r, R.getLast? = some r ∧ r.tt = i
  zero : ∀ r, R[0]? = some r → r.fr = 0
  next : ∀ (k : Nat) (r q : Rn), R[k]? = some r → R[k + 1]? = some q → q.fr = r.tt
  up : ∀ (k : Nat) (r : Rn), R[k]? = some r → 0 ≤ r.fr ∧ r.fr < r.tt ∧ r.tt ≤ i
  look : ∀ (k : Nat) (r : Rn), R[k]? = some r → ∀ j : Nat, r.fr ≤ j → j < r.tt → l[j]? = some r.a
theorem rp_nil (l : List At) : RP l [] 0 := ⟨fun _ => rfl, fun h => absurd h (by omega), fun r h => by simp at h, fun k r q h => by simp at h, fun k r h => by simp at h, fun k r h => by simp at h⟩
theorem getLast_at {R : List Rn} {r : Rn} (h : R.getLast? = some r) : ∃ A, R = A ++ [r] ∧ R[A.length]? = some r := by
  have hne : R ≠ [] := fun e => by rw [e] at h; simp at h
  rw [List.getLast?_eq_some_getLast hne] at h
  have h := Option.some.inj h
  refine ⟨R.dropLast, ?_, ?_⟩
  · rw [← h, List.dropLast_concat_getLast hne]
  · conv => lhs; rw [← List.dropLast_concat_getLast hne]
    simp [h]
theorem rp_step {l : List At} {R : List Rn} {i : Nat} {a : At} (h : RP l R i) (ha : l[i]? = some a) : RP l (runStep R i (i + 1) a) (i + 1) := by
  by_cases hi : i = 0
  · have hR := h.no hi
    subst hR hi
    have e : runStep [] ((0 : Nat) : Int) (((0 : Nat) : Int) + 1) a = [⟨0, 1, a⟩] := rfl
    rw [e]
    refine ⟨fun h => absurd h (by omega), fun _ => ⟨_, rfl, rfl⟩, fun r hr => ?_, fun k r q h1 h2 => ?_, fun k r hr => ?_, fun k r hr j h1 h2 => ?_⟩
    · simp at hr; rw [← hr]
    · simp at h2
    · cases k with
      | zero => simp at hr; rw [← hr]; simp
      | succ k => simp at hr
    · cases k with
      | zero =>
        simp at hr
        rw [← hr] at h1 h2 ⊢
        have : j = 0 := by simp at h2; omega
        rw [this]; exact ha
      | succ k => simp at hr
  · obtain ⟨r, hr, hrt⟩ := h.has (by omega)
    obtain ⟨A, rfl, hAr⟩ := getLast_at hr
    obtain ⟨u0, u1, u2⟩ := h.up _ _ hAr
    unfold runStep
    rw [hr]
    simp only
    by_cases hra : r.a = a
    · rw [if_pos hra, List.dropLast_concat]
      have hold : ∀ k q, k < A.length → (A ++ [(⟨r.fr, (i : Int) + 1, r.a⟩ : Rn)])[k]? = some q → (A ++ [r])[k]? = some q := fun k q hk hq => by
        rw [List.getElem?_append_left hk] at hq ⊢; exact hq
      have hnew : ∀ k q, ¬ k < A.length → (A ++ [(⟨r.fr, (i : Int) + 1, r.a⟩ : Rn)])[k]? = some q → k = A.length ∧ q = ⟨r.fr, (i : Int) + 1, r.a⟩ := fun k q hk hq => by
        have hk2 := (List.getElem?_eq_some_iff.1 hq).1
        simp at hk2
        have e : k = A.length := by omega
        subst e
        simp at hq
        exact ⟨rfl, hq.symm⟩
      refine ⟨fun h => absurd h (by omega), fun _ => ⟨⟨r.fr, (i : Int) + 1, r.a⟩, by simp, by simp⟩, fun q hq => ?_, fun k p q h1 h2 => ?_, fun k q hq => ?_, fun k q hq j h1 h2 => ?_⟩
      · by_cases hk : 0 < A.length
        · exact h.zero q (hold 0 q hk hq)
        · obtain ⟨e1, e2⟩ := hnew 0 q hk hq
          rw [e2]
          exact h.zero r (by rw [e1]; exact hAr)
      · by_cases hk : k + 1 < A.length
        · exact h.next k p q (hold k p (by omega) h1) (hold (k + 1) q hk h2)
        · obtain ⟨e1, e2⟩ := hnew (k + 1) q hk h2
          rw [e2]
          exact h.next k p r (hold k p (by omega) h1) (by rw [e1]; exact hAr)
      · by_cases hk : k < A.length
        · have := h.up k q (hold k q hk hq); omega
        · obtain ⟨e1, e2⟩ := hnew k q hk hq
          rw [e2]
          simp
          omega
      · by_cases hk : k < A.length
        · exact h.look k q (hold k q hk hq) j h1 h2
        · obtain ⟨e1, e2⟩ := hnew k q hk hq
          rw [e2] at h1 h2 ⊢
          simp at h1 h2
          by_cases hj : j = i
          · rw [hj, ha]; simp [hra]
          · exact h.look A.length r hAr j h1 (by omega)
    · rw [if_neg hra]
      have hold : ∀ k q, k < (A ++ [r]).length → ((A ++ [r]) ++ [(⟨(i : Int), (i : Int) + 1, a⟩ : Rn)])[k]? = some q → (A ++ [r])[k]? = some q := fun k q hk hq => by
        rw [List.getElem?_append_left hk] at hq; exact hq
      have hnew : ∀ k q, ¬ k < (A ++ [r]).length → ((A ++ [r]) ++ [(⟨(i : Int), (i : Int) + 1, a⟩ : Rn)])[k]? = some q → k = A.length + 1 ∧ q = ⟨(i : Int), (i : Int) + 1, a⟩ := fun k q hk hq => by
        have hk2 := (List.getElem?_eq_some_iff.1 hq).1
        simp at hk2 hk
        have e : k = A.length + 1 := by omega
        subst e
        rw [List.getElem?_append_right (by simp)] at hq
        simp at hq
        exact ⟨rfl, hq.symm⟩
      refine ⟨fun h => absurd h (by omega), fun _ => ⟨⟨(i : Int), (i : Int) + 1, a⟩, by simp, by simp⟩, fun q hq => h.zero q (hold 0 q (by simp) hq), fun k p q h1 h2 => ?_, fun k q hq => ?_, fun k q hq j h1 h2 => ?_⟩
      · by_cases hk : k + 1 < (A ++ [r]).length
        · exact h.next k p q (hold k p (by omega) h1) (hold (k + 1) q hk h2)
        · obtain ⟨e1, e2⟩ := hnew (k + 1) q hk h2
          have hp := hold k p (by simp; omega) h1
          rw [show k = A.length by omega, hAr] at hp
          rw [e2, ← Option.some.inj hp]
          exact hrt.symm
      · by_cases hk : k < (A ++ [r]).length
        · have := h.up k q (hold k q hk hq); omega
        · obtain ⟨e1, e2⟩ := hnew k q hk hq
          rw [e2]
          simp
          omega
      · by_cases hk : k < (A ++ [r]).length
        · exact h.look k q (hold k q hk hq) j h1 h2
        · obtain ⟨e1, e2⟩ := hnew k q hk hq
          rw [e2] at h1 h2 ⊢
          simp at h1 h2
          rw [show j = i by omega]
          exact ha
theorem rp_rle (l : List At) : ∀ (m : List At) (R : List Rn) (i : Nat), RP l R i → (∀ j, m[j]? = l[i + j]?) → RP l (rleL R i m) (i + m.length)
  | [], R, i, h, _ => by simpa [rleL] using h
  | a :: m, R, i, h, hm => by
    have h0 : l[i]? = some a := by have := hm 0; simpa using this.symm
    have h1 := rp_step h h0
    have h2 := rp_rle l m _ (i + 1) h1 (fun j => by have := hm (j + 1); simp at this; rw [this]; congr 1; omega)
    show RP l (rleL (runStep R i (i + 1) a) (i + 1) m) _
    rw [show i + (a :: m).length = i + 1 + m.length by simp; omega]
    exact h2
theorem rp_all (l : List At) : RP l (rleL [] 0 l) l.length := by
  have h := rp_rle l l [] 0 (rp_nil l) (fun j => by simp)
  simpa using h
/-- The run in which a sign stands, from that of the sign ahead on. -/
def AtRun (R : List Rn) (i k : Nat) : Prop := (i = 0 ∧ k = 0) ∨ ∃ r, R[k]? = some r ∧ r.fr < i ∧ (i : Int) ≤ r.tt
theorem run_on {l : List At} {R : List Rn} {n i k : Nat} (h : RP l R n) (hi : i < n) (hk : AtRun R i k) : ∃ r, R[k]? = some r ∧ ((r.tt ≠ i ∧ l[i]? = some r.a ∧ AtRun R (i + 1) k) ∨ (r.tt = i ∧ ∃ q, R[k + 1]? = some q ∧ l[i]? = some q.a ∧ AtRun R (i + 1) (k + 1))) := by
  rcases hk with ⟨rfl, rfl⟩ | ⟨r, hr, h1, h2⟩
  · obtain ⟨q, hq, _⟩ := h.has hi
    obtain ⟨A, rfl, hA⟩ := getLast_at hq
    obtain ⟨r, hr⟩ : ∃ r, (A ++ [q])[0]? = some r := by
      cases A with
      | nil => exact ⟨_, rfl⟩
      | cons x A => exact ⟨_, rfl⟩
    have e0 := h.zero r hr
    have u := h.up 0 r hr
    refine ⟨r, hr, .inl ⟨by simp; omega, h.look 0 r hr 0 (by simp; omega) (by simp; omega), .inr ⟨r, hr, by simp; omega, by simp; omega⟩⟩⟩
  · refine ⟨r, hr, ?_⟩
    have u := h.up k r hr
    by_cases e : r.tt = i
    · right
      obtain ⟨z, hz, hzt⟩ := h.has (by omega)
      obtain ⟨A, rfl, hA⟩ := getLast_at hz
      have hkl : k < A.length := by
        have hk2 := (List.getElem?_eq_some_iff.1 hr).1
        simp at hk2
        by_cases ek : k = A.length
        · rw [ek, hA] at hr
          have := Option.some.inj hr
          rw [this] at hzt
          omega
        · omega
      obtain ⟨q, hq⟩ : ∃ q, (A ++ [z])[k + 1]? = some q := ⟨_, List.getElem?_eq_getElem (by simp; omega)⟩
      have en := h.next k r q hr hq
      have uq := h.up (k + 1) q hq
      exact ⟨e, q, hq, h.look (k + 1) q hq i (by omega) (by omega), .inr ⟨q, hq, by omega, by omega⟩⟩
    · left
      exact ⟨e, h.look k r hr i (by omega) (by omega), .inr ⟨r, hr, by omega, by omega⟩⟩
end Go.Proofs.YtbiodfeanngkdaaDoor

/- Look at every text, every sign, the program's and the reference's (P0702). -/
namespace Go.Proofs.YtbiodfeanngkdaaDoor
open Go.RowKit Go.Shelf
attribute [local go_sem] Oper.semAt_some

/-- How a sign looks, or an error. -/
def lokR (s : ByteArray) (D : List Sp) (n : Int) : At × Int := if chkT s D ≠ 0 then (at0, chkT s D) else if n < 0 ∨ ((signs s).length : Int) ≤ n then (at0, 1) else (lookA (isort ltS D) n, 0)
end Go.Proofs.YtbiodfeanngkdaaDoor

/- Same at every two texts, the program's and the reference's (P0705). -/
namespace Go.Proofs.YtbiodfeanngkdaaDoor
open Go.RowKit Go.Shelf
attribute [local go_sem] Oper.semAt_some

theorem ba_ne {s u : ByteArray} (h : ¬ s = u) : ¬ s.toList = u.toList := fun k => h (ByteArray.ext (Array.toList_inj.1 (by rw [← Lib.toList_data, ← Lib.toList_data]; exact k)))
/-- The answer of Runs in one form. -/
theorem run_form {w w' : World} {s : ByteArray} {D : List Sp} {e : Ending} (h : RunAns w s D e w') : Below w.heap.size w w' ∧ ∃ v, e = .returned (.tuple #[v, .int .i64 (chkT s D)]) ∧ (chkT s D = 0 → ∃ o c, v = .slice o (runsM (signs s).length (isort ltS D)).length c ∧ RnO w' o (runsM (signs s).length (isort ltS D))) := by
  refine ⟨h.1, ?_⟩
  rcases h.2 with ⟨h1, h2⟩ | ⟨h1, v, h2, h3⟩
  · exact ⟨_, h2, fun h => absurd h h1⟩
  · rw [h1]
    obtain ⟨o, c, e1, _, e2⟩ := rn_of_own h3
    exact ⟨v, h2, fun _ => ⟨o, c, e1, e2⟩⟩
theorem step_len (acc : List Rn) (f t : Int) (a : At) : (runStep acc f t a).length ≤ acc.length + 1 := by
  unfold runStep
  cases h : acc.getLast? with
  | none => simp
  | some r =>
    simp only
    split
    · simp
    · simp
theorem rle_len : ∀ (l : List At) (acc : List Rn) (i : Int), (rleL acc i l).length ≤ acc.length + l.length
  | [], acc, i => by simp [rleL]
  | a :: l, acc, i => by
    have h1 := rle_len l (runStep acc i (i + 1) a) (i + 1)
    have h2 := step_len acc i (i + 1) a
    show (rleL (runStep acc i (i + 1) a) (i + 1) l).length ≤ _
    rw [List.length_cons]
    omega
theorem sam_no {s u : ByteArray} {D E : List Sp} (h : ¬ (chkT s D = 0 ∧ chkT u E = 0 ∧ s = u)) : samB s D u E = false := decide_eq_false fun k => h ⟨k.1, k.2.1, k.2.2.1⟩
end Go.Proofs.YtbiodfeanngkdaaDoor

/- The reference's Runs; runs held against runs (P0703). -/
namespace Go.Proofs.YtbiodfeanngkdaaDoor
open Go.RowKit Go.Shelf
attribute [local go_sem] Oper.semAt_some

end Go.Proofs.YtbiodfeanngkdaaDoor
