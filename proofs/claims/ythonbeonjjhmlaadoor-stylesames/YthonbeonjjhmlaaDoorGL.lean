/- Several texts, one behind the other. -/
import Derived.Lib.SmallJoins
import Derived.Deep.Slices
import Derived.ChangeOld
import Derived.ShutString
import Derived.DataShut
import Derived.Test.YthonbeonjjhmlaaDoorCuM
import Derived.Test.YthonbeonjjhmlaaDoorCutR
import Derived.Test.YthonbeonjjhmlaaDoorQuG
import Derived.Test.YthonbeonjjhmlaaDoorSmB
import Derived.Test.YthonbeonjjhmlaaDoorSpA
import Derived.Test.YthonbeonjjhmlaaDoorSpE
import Derived.Test.YthonbeonjjhmlaaDoorSpJ
import Derived.Test.YthonbeonjjhmlaaDoorSpK
import Derived.Test.YthonbeonjjhmlaaDoorSpL
/- How a sign looks: the program's way and the reference's are the same (P0702), as mathematics. -/
namespace Go.Proofs.YthonbeonjjhmlaaDoor
open Go.RowKit Go.Shelf

/-- A span over a sign; one of a kind. -/
def covB (n : Int) (x : Sp) : Bool := decide (x.fr ≤ n ∧ n < x.tt)
def kinB (n k : Int) (x : Sp) : Bool := covB n x && decide (x.kd = k)
/-- The colour that the last one gives. -/
def colC : Option Sp → Int
  | none => 0
  | some x => IntKind.i64.wrap (x.vl + 1)
def lookF (D : List Sp) (n : Int) : At := ⟨D.any (kinB n 1), D.any (kinB n 2), D.any (kinB n 3), D.any (kinB n 4), colC ((D.filter (kinB n 5)).getLast?)⟩
theorem snocI {α : Type} {P : List α → Prop} (h0 : P []) (h1 : ∀ l x, P l → P (l ++ [x])) (l : List α) : P l := by
  have h : ∀ r : List α, P r.reverse := fun r => by
    induction r with
    | nil => exact h0
    | cons x r ih => rw [List.reverse_cons]; exact h1 _ _ ih
  have := h l.reverse
  rwa [List.reverse_reverse] at this
theorem kin_cov {n k : Int} {x : Sp} (h : ¬ (x.fr ≤ n ∧ n < x.tt)) : kinB n k x = false := by simp [kinB, covB, h]
theorem kin_eq {n k : Int} {x : Sp} (h : x.fr ≤ n ∧ n < x.tt) : kinB n k x = decide (x.kd = k) := by simp [kinB, covB, h]
theorem last_snoc_if {α : Type} (p : α → Bool) (l : List α) (x : α) : ((l ++ [x]).filter p).getLast? = if p x = true then some x else (l.filter p).getLast? := by
  rw [List.filter_append]
  by_cases h : p x = true
  · simp [h]
  · simp [h]
theorem look_form (D : List Sp) (n : Int) : lookA D n = lookF D n := by
  induction D using snocI with
  | h0 => rfl
  | h1 l x ih =>
    rw [lookA_snoc, ih]
    unfold lookF
    simp only [List.any_append, List.any_cons, List.any_nil, Bool.or_false, last_snoc_if]
    by_cases h : x.fr ≤ n ∧ n < x.tt
    · rw [if_pos h]
      simp only [kin_eq h]
      unfold layA
      by_cases k1 : x.kd = 1
      · simp [k1]
      · by_cases k2 : x.kd = 2
        · simp [k2]
        · by_cases k3 : x.kd = 3
          · simp [k3]
          · by_cases k4 : x.kd = 4
            · simp [k4]
            · by_cases k5 : x.kd = 5
              · simp [k5, colC]
              · simp [k1, k2, k3, k4, k5]
    · rw [if_neg h]
      simp only [kin_cov h]
      simp
/-- The reference's way: the innermost colour so far. -/
def rstep (n : Int) (st : At × Option Sp) (x : Sp) : At × Option Sp :=
  if x.fr ≤ n ∧ n < x.tt then
    if x.kd = 1 then ({ st.1 with b := true }, st.2) else if x.kd = 2 then ({ st.1 with i := true }, st.2) else if x.kd = 3 then ({ st.1 with u := true }, st.2) else if x.kd = 4 then ({ st.1 with s := true }, st.2)
    else match st.2 with
      | none => ({ st.1 with c := IntKind.i64.wrap (x.vl + 1) }, some x)
      | some y => if inB x y = true then ({ st.1 with c := IntKind.i64.wrap (x.vl + 1) }, some x) else st
  else st
def rfoldA (D : List Sp) (n : Int) : At × Option Sp := D.foldl (rstep n) (at0, none)
theorem rfold_snoc (D : List Sp) (x : Sp) (n : Int) : rfoldA (D ++ [x]) n = rstep n (rfoldA D n) x := by simp [rfoldA]
/-- Where one more span is put in its place, the last one of a kind. -/
theorem mgLast {p : Sp → Bool} (x : Sp) : ∀ (L : List Sp), Srt ltS L → ((mg ltS L [x]).filter p).getLast? = if p x = true then (match (L.filter p).getLast? with | none => some x | some y => if ltS x y = true then some y else some x) else (L.filter p).getLast?
  | [], _ => by
    rw [mg_left]
    by_cases h : p x = true
    · simp [h]
    · simp [h]
  | a :: L, hs => by
    have hs2 : Srt ltS L := (List.pairwise_cons.1 hs).2
    have ha := (List.pairwise_cons.1 hs).1
    cases hlt : ltS x a with
    | true =>
      rw [mg_lt _ _ hlt, mg_nil]
      by_cases h : p x = true
      · rw [if_pos h, List.filter_cons, if_pos h, List.getLast?_cons]
        cases hl : ((a :: L).filter p).getLast? with
        | none => rfl
        | some y =>
          have hy : y ∈ a :: L := (List.mem_filter.1 (List.mem_of_getLast? hl)).1
          have hxy : ltS x y = true := by
            rcases List.mem_cons.1 hy with rfl | hy
            · exact hlt
            · exact swoS.lt_le hlt (ha y hy)
          simp [hxy]
      · rw [if_neg h, List.filter_cons, if_neg h]
    | false =>
      rw [mg_ge _ _ hlt]
      have ih := mgLast (p := p) x L hs2
      by_cases h : p x = true
      · rw [if_pos h] at ih ⊢
        rw [List.filter_cons, List.filter_cons]
        by_cases hp : p a = true
        · rw [if_pos hp, if_pos hp, List.getLast?_cons, List.getLast?_cons, ih]
          cases hl : (L.filter p).getLast? with
          | none => simp [hlt]
          | some y => by_cases hxy : ltS x y = true <;> simp [hxy]
        · rw [if_neg hp, if_neg hp, ih]
      · rw [if_neg h] at ih ⊢
        rw [List.filter_cons, List.filter_cons]
        by_cases hp : p a = true
        · rw [if_pos hp, if_pos hp, List.getLast?_cons, List.getLast?_cons, ih]
        · rw [if_neg hp, if_neg hp, ih]
theorem any_isort (p : Sp → Bool) (D : List Sp) : (isort ltS D).any p = D.any p := by
  rw [Bool.eq_iff_iff, List.any_eq_true, List.any_eq_true]
  exact ⟨fun ⟨x, h1, h2⟩ => ⟨x, (isort_mem' ltS x D).1 h1, h2⟩, fun ⟨x, h1, h2⟩ => ⟨x, (isort_mem' ltS x D).2 h1, h2⟩⟩
/-- Two spans over one sign that do not cross: the one that is put behind is within the other. -/
theorem in_lt {n : Int} {x y : Sp} (hx : x.fr ≤ n ∧ n < x.tt) (hy : y.fr ≤ n ∧ n < y.tt) (hc : ¬ crS x y) : inB x y = !(ltS x y) := by
  have h1 := ltS_iff x y
  unfold crS at hc
  cases hl : ltS x y with
  | true =>
    have h2 := h1.1 hl
    unfold inB
    exact decide_eq_false (by omega)
  | false =>
    have h2 : ¬ (x.fr < y.fr ∨ (x.fr = y.fr ∧ y.tt < x.tt)) := fun h => by rw [h1.2 h] at hl; cases hl
    unfold inB
    exact decide_eq_true (by omega)
theorem look_ref (n : Int) (D : List Sp) : (∀ x ∈ D, 1 ≤ x.kd ∧ x.kd ≤ 5) → (∀ x ∈ D, ∀ y ∈ D, ¬ crS x y) → rfoldA D n = (lookF (isort ltS D) n, ((isort ltS D).filter (kinB n 5)).getLast?) := by
  induction D using snocI with
  | h0 => intro _ _; rfl
  | h1 l x ih =>
    intro hk hc
    have ih := ih (fun y hy => hk y (List.mem_append_left _ hy)) (fun y hy z hz => hc y (List.mem_append_left _ hy) z (List.mem_append_left _ hz))
    have hkx := hk x (by simp)
    rw [rfold_snoc, ih, isort_snoc, mgLast x _ (isort_sorted swoS l)]
    have hany : ∀ k, (mg ltS (isort ltS l) [x]).any (kinB n k) = (kinB n k x || (isort ltS l).any (kinB n k)) := fun k => by
      rw [← isort_snoc, any_isort, any_isort, List.any_append]
      simp [Bool.or_comm]
    unfold lookF
    rw [hany, hany, hany, hany, mgLast x _ (isort_sorted swoS l)]
    unfold rstep
    by_cases h : x.fr ≤ n ∧ n < x.tt
    · rw [if_pos h]
      simp only [kin_eq h]
      by_cases k1 : x.kd = 1
      · simp [k1]
      · by_cases k2 : x.kd = 2
        · simp [k2]
        · by_cases k3 : x.kd = 3
          · simp [k3]
          · by_cases k4 : x.kd = 4
            · simp [k4]
            · have k5 : x.kd = 5 := by omega
              cases hl : ((isort ltS l).filter (kinB n 5)).getLast? with
              | none => simp [k5, colC]
              | some y =>
                have hy := List.mem_filter.1 (List.mem_of_getLast? hl)
                have hy2 : y.fr ≤ n ∧ n < y.tt := by
                  have h9 := hy.2
                  unfold kinB covB at h9
                  simp at h9
                  exact h9.1
                have e := in_lt h hy2 (hc x (by simp) y (List.mem_append_left _ ((isort_mem' ltS y l).1 hy.1)))
                cases hlt : ltS x y with
                | true => rw [hlt] at e; simp [k5, e, hlt, colC]
                | false => rw [hlt] at e; simp [k5, e, hlt, colC]
    · rw [if_neg h]
      simp only [kin_cov h]
      simp
end Go.Proofs.YthonbeonjjhmlaaDoor

/- Runs are the looks of the signs, one behind the other, put together (P0703), as mathematics. -/
namespace Go.Proofs.YthonbeonjjhmlaaDoor
open Go.RowKit Go.Shelf

/-- The looks of so many signs, from one on. -/
def seg (D : List Sp) (i : Int) (k : Nat) : List At := (List.range k).map fun (j : Nat) => lookA D (i + (j : Int))
theorem seg_len (D : List Sp) (i : Int) (k : Nat) : (seg D i k).length = k := by simp [seg]
theorem seg_add (D : List Sp) (i : Int) (k m : Nat) : seg D i (k + m) = seg D i k ++ seg D (i + k) m := by
  unfold seg
  rw [List.range_add, List.map_append, List.map_map]
  congr 1
  refine List.map_congr_left fun j _ => ?_
  simp only [Function.comp]
  congr 1
  omega
/-- Looks put together, one by one. -/
def rleL : List Rn → Int → List At → List Rn
  | acc, _, [] => acc
  | acc, i, a :: l => rleL (runStep acc i (i + 1) a) (i + 1) l
theorem rle_app : ∀ (l m : List At) (acc : List Rn) (i : Int), rleL acc i (l ++ m) = rleL (rleL acc i l) (i + l.length) m
  | [], m, acc, i => by simp [rleL]
  | a :: l, m, acc, i => by
    rw [List.cons_append]
    show rleL (runStep acc i (i + 1) a) (i + 1) (l ++ m) = _
    rw [rle_app l m]
    show _ = rleL (rleL (runStep acc i (i + 1) a) (i + 1) l) _ m
    congr 1
    simp
    omega
theorem step_step (acc : List Rn) (i e f : Int) (a : At) : runStep (runStep acc i e a) e f a = runStep acc i f a := by
  unfold runStep
  cases h : acc.getLast? with
  | none => simp
  | some r =>
    by_cases hr : r.a = a
    · simp [hr]
    · simp [hr]
theorem rle_same (a : At) : ∀ (k : Nat) (acc : List Rn) (i : Int), rleL acc i (List.replicate (k + 1) a) = runStep acc i (i + (k + 1 : Nat)) a
  | 0, acc, i => by
    show rleL (runStep acc i (i + 1) a) (i + 1) [] = _
    rw [rleL]
    rfl
  | k + 1, acc, i => by
    show rleL (runStep acc i (i + 1) a) (i + 1) (List.replicate (k + 1) a) = _
    rw [rle_same a k, step_step]
    congr 1
    omega
theorem look_same (D : List Sp) (m n : Int) (h : ∀ x ∈ D, (x.fr ≤ m ∧ m < x.tt) ↔ (x.fr ≤ n ∧ n < x.tt)) : lookA D m = lookA D n := by
  rw [look_form, look_form]
  have hk : ∀ x ∈ D, ∀ k, kinB m k x = kinB n k x := fun x hx k => by
    unfold kinB covB
    rw [decide_eq_decide.2 (h x hx)]
  have ha : ∀ k, D.any (kinB m k) = D.any (kinB n k) := fun k => by
    rw [Bool.eq_iff_iff, List.any_eq_true, List.any_eq_true]
    exact ⟨fun ⟨x, h1, h2⟩ => ⟨x, h1, by rw [← hk x h1 k]; exact h2⟩, fun ⟨x, h1, h2⟩ => ⟨x, h1, by rw [hk x h1 k]; exact h2⟩⟩
  unfold lookF
  rw [ha, ha, ha, ha, List.filter_congr (fun x hx => hk x hx 5)]
theorem seg_same (D : List Sp) (i : Int) (k : Nat) (h : ∀ x ∈ D, (x.fr ≤ i ∨ i + k ≤ x.fr) ∧ (x.tt ≤ i ∨ i + k ≤ x.tt)) : seg D i k = List.replicate k (lookA D i) := by
  refine List.eq_replicate_iff.2 ⟨seg_len D i k, fun a ha => ?_⟩
  unfold seg at ha
  obtain ⟨j, hj, rfl⟩ := List.mem_map.1 ha
  have hj := List.mem_range.1 hj
  exact look_same D _ _ fun x hx => by have := h x hx; omega
/-- Bounds that rise from one up to n. -/
def UpL (n : Int) : Int → List Int → Prop
  | f, [] => f = n
  | f, t :: l => f < t ∧ UpL n t l
theorem upL_le {n : Int} : ∀ {l : List Int} {f : Int}, UpL n f l → f ≤ n ∧ ∀ t ∈ l, f < t
  | [], f, h => ⟨by have h : f = n := h; omega, fun t ht => by simp at ht⟩
  | t :: l, f, h => by
    have h2 := upL_le h.2
    have h1 := h.1
    exact ⟨by omega, fun z hz => by
      rcases List.mem_cons.1 hz with rfl | hz
      · exact h1
      · have := h2.2 z hz; omega⟩
theorem go_rle (D : List Sp) (n : Int) : ∀ (l : List Int) (f : Int) (acc : List Rn), UpL n f l → (∀ x ∈ D, (x.fr ≤ f ∨ x.fr ∈ l) ∧ (x.tt ≤ f ∨ x.tt ∈ l)) → runGo D acc f l = rleL acc f (seg D f (n - f).toNat)
  | [], f, acc, h, _ => by
    have h : f = n := h
    subst h
    rw [Int.sub_self]
    rfl
  | t :: l, f, acc, h, hx => by
    have h1 := h.1
    have h2 := upL_le h.2
    obtain ⟨k, hk⟩ : ∃ k : Nat, t = f + (k + 1 : Nat) := ⟨(t - f - 1).toNat, by omega⟩
    have e : (n - f).toNat = (k + 1) + (n - t).toNat := by omega
    have es : seg D f (k + 1) = List.replicate (k + 1) (lookA D f) := seg_same D f (k + 1) fun x hx2 => by
      obtain ⟨a1, a2⟩ := hx x hx2
      constructor
      · rcases a1 with a1 | a1
        · exact .inl a1
        · rcases List.mem_cons.1 a1 with a1 | a1
          · right; omega
          · right; have := h2.2 _ a1; omega
      · rcases a2 with a2 | a2
        · exact .inl a2
        · rcases List.mem_cons.1 a2 with a2 | a2
          · right; omega
          · right; have := h2.2 _ a2; omega
    rw [e, seg_add, rle_app, es, rle_same, ← hk, List.length_replicate]
    show runGo D (runStep acc f t (lookA D f)) t l = _
    rw [go_rle D n l t _ h.2 (fun x hx2 => by
      obtain ⟨a1, a2⟩ := hx x hx2
      constructor
      · rcases a1 with a1 | a1
        · left; omega
        · rcases List.mem_cons.1 a1 with a1 | a1
          · left; omega
          · exact .inr a1
      · rcases a2 with a2 | a2
        · left; omega
        · rcases List.mem_cons.1 a2 with a2 | a2
          · left; omega
          · exact .inr a2), hk]
/-- Rising numbers without those that stand twice. -/
theorem compact_up (d : Array Int) (hs : ∀ i j : Nat, i ≤ j → j < d.size → d[i]! ≤ d[j]!) : ∀ (m : Nat), m + 1 ≤ d.size →
    (Lib.compactUpTo d (m + 1)).Pairwise (· < ·) ∧ (∀ z ∈ Lib.compactUpTo d (m + 1), z ≤ d[m]!) ∧ (∀ j, j ≤ m → d[j]! ∈ Lib.compactUpTo d (m + 1)) ∧ (∀ z ∈ Lib.compactUpTo d (m + 1), ∃ j, j ≤ m ∧ z = d[j]!) ∧ (Lib.compactUpTo d (m + 1)).head? = some d[0]!
  | 0, _ => by
    have e : Lib.compactUpTo d (0 + 1) = [d[0]!] := by
      rw [Lib.compactUpTo_succ, Lib.keeps_lt_one d 0 (by omega)]
      rfl
    rw [e]
    refine ⟨List.pairwise_singleton _ _, fun z hz => ?_, fun j hj => ?_, fun z hz => ?_, rfl⟩
    · simp at hz; omega
    · have : j = 0 := by omega
      subst this
      simp
    · simp at hz; exact ⟨0, by omega, hz⟩
  | m + 1, hm => by
    obtain ⟨i1, i2, i3, i4, i5⟩ := compact_up d hs m (by omega)
    rw [Lib.compactUpTo_succ]
    by_cases hk : d[m + 1]! = d[m + 1 - 1]!
    · rw [Lib.keeps_neg (by omega) hk]
      have hk : d[m + 1]! = d[m]! := hk
      rw [if_neg (by simp), List.append_nil]
      refine ⟨i1, fun z hz => by rw [hk]; exact i2 z hz, fun j hj => ?_, fun z hz => ?_, i5⟩
      · by_cases e : j = m + 1
        · rw [e, hk]; exact i3 m (by omega)
        · exact i3 j (by omega)
      · obtain ⟨j, hj, e⟩ := i4 z hz
        exact ⟨j, by omega, e⟩
    · rw [Lib.keeps_pos hk]
      have hk : d[m + 1]! ≠ d[m]! := hk
      have hlt : d[m]! < d[m + 1]! := by have := hs m (m + 1) (by omega) (by omega); omega
      rw [if_pos rfl]
      refine ⟨List.pairwise_append.2 ⟨i1, List.pairwise_singleton _ _, fun a ha b hb => ?_⟩, fun z hz => ?_, fun j hj => ?_, fun z hz => ?_, ?_⟩
      · simp at hb
        have := i2 a ha
        omega
      · rcases List.mem_append.1 hz with hz | hz
        · have := i2 z hz; omega
        · simp at hz; omega
      · by_cases e : j = m + 1
        · rw [e]; simp
        · exact List.mem_append_left _ (i3 j (by omega))
      · rcases List.mem_append.1 hz with hz | hz
        · obtain ⟨j, hj, e⟩ := i4 z hz
          exact ⟨j, by omega, e⟩
        · simp at hz; exact ⟨m + 1, by omega, hz⟩
      · rw [List.head?_append, i5]
        rfl
theorem up_of (n : Int) : ∀ (l : List Int) (f : Int), (f :: l).Pairwise (· < ·) → (∀ z ∈ f :: l, z ≤ n) → n ∈ f :: l → UpL n f l
  | [], f, _, _, h => by
    have : n = f := by simpa using h
    exact this.symm
  | t :: l, f, hp, hle, h => by
    have hp1 := List.pairwise_cons.1 hp
    refine ⟨hp1.1 t (by simp), up_of n l t hp1.2 (fun z hz => hle z (List.mem_cons_of_mem _ hz)) ?_⟩
    rcases List.mem_cons.1 h with e | h
    · have h1 := hp1.1 t (by simp)
      have h2 := hle t (by simp)
      omega
    · exact h
/-- The bounds of right spans. -/
theorem bnd_up (n : Nat) (D : List Sp) (h : ∀ x ∈ D, 0 ≤ x.fr ∧ x.fr < x.tt ∧ x.tt ≤ n) : UpL n 0 (bndM n D) ∧ ∀ x ∈ D, (x.fr ≤ 0 ∨ x.fr ∈ bndM n D) ∧ (x.tt ≤ 0 ∨ x.tt ∈ bndM n D) := by
  have hmem : ∀ z : Int, z ∈ bndS n D ↔ z = 0 ∨ z = n ∨ ∃ x ∈ D, z = x.fr ∨ z = x.tt := fun z => by
    unfold bndS
    rw [List.mem_mergeSort]
    unfold bndL
    simp
  have hsort : (bndS n D).Pairwise fun x y => decide (x ≤ y) = true := by
    unfold bndS
    exact List.pairwise_mergeSort (fun a b c h1 h2 => by simp at *; omega) (fun a b => by simp; omega) _
  have hlen : 2 ≤ (bndS n D).length := by rw [bndS_len]; omega
  have hle : ∀ z ∈ bndS n D, 0 ≤ z ∧ z ≤ n := fun z hz => by
    rcases (hmem z).1 hz with e | e | ⟨x, hx, e⟩
    · omega
    · omega
    · have := h x hx; omega
  generalize hB : bndS n D = B at *
  have hget : ∀ j, j < B.length → B.toArray[j]! ∈ B := fun j hj => by
    have : B.toArray[j]! = B[j] := by simp [hj]
    rw [this]
    exact List.getElem_mem hj
  have hs : ∀ i j : Nat, i ≤ j → j < B.toArray.size → B.toArray[i]! ≤ B.toArray[j]! := fun i j hij hj => by
    have hj2 : j < B.length := by simpa using hj
    by_cases e : i = j
    · subst e; omega
    · have := List.pairwise_iff_getElem.1 hsort i j (by omega) hj2 (by omega)
      simp at this
      simpa [hj2, show i < B.length by omega] using this
  obtain ⟨m, hm⟩ : ∃ m, B.length = m + 1 := ⟨B.length - 1, by omega⟩
  obtain ⟨i1, i2, i3, i4, i5⟩ := compact_up B.toArray hs m (by simp; omega)
  have hC : bndC n D = Lib.compactUpTo B.toArray (m + 1) := by
    unfold bndC Lib.compact
    rw [hB, hm]
  have hCm : ∀ z, z ∈ bndC n D ↔ z ∈ B := fun z => by
    rw [hC]
    constructor
    · intro hz
      obtain ⟨j, hj, e⟩ := i4 z hz
      rw [e]
      exact hget j (by omega)
    · intro hz
      obtain ⟨j, hj, e⟩ := List.getElem_of_mem hz
      have := i3 j (by omega)
      simpa [hj, e] using this
  have h0 : (0 : Int) ∈ bndC n D := (hCm 0).2 ((hmem 0).2 (.inl rfl))
  have hn : (n : Int) ∈ bndC n D := (hCm n).2 ((hmem n).2 (.inr (.inl rfl)))
  rw [← hC] at i1
  have hlec : ∀ z ∈ bndC n D, 0 ≤ z ∧ z ≤ n := fun z hz => hle z ((hCm z).1 hz)
  have hall : ∀ x ∈ D, x.fr ∈ bndC n D ∧ x.tt ∈ bndC n D := fun x hx => ⟨(hCm _).2 ((hmem _).2 (.inr (.inr ⟨x, hx, .inl rfl⟩))), (hCm _).2 ((hmem _).2 (.inr (.inr ⟨x, hx, .inr rfl⟩)))⟩
  unfold bndM
  cases hc : bndC n D with
  | nil => rw [hc] at h0; simp at h0
  | cons f l =>
    rw [hc] at i1 h0 hn hlec hall
    have hf : f = 0 := by
      rcases List.mem_cons.1 h0 with e | e
      · exact e.symm
      · have h1 := (List.pairwise_cons.1 i1).1 0 e
        have h2 := hlec f (by simp)
        omega
    subst hf
    refine ⟨up_of n l 0 i1 (fun z hz => (hlec z hz).2) hn, fun x hx => ?_⟩
    obtain ⟨a1, a2⟩ := hall x hx
    constructor
    · rcases List.mem_cons.1 a1 with e | e
      · left; omega
      · exact .inr e
    · rcases List.mem_cons.1 a2 with e | e
      · left; omega
      · exact .inr e
/-- Runs are the looks of all signs, put together. -/
theorem runs_rle (n : Nat) (D : List Sp) (h : ∀ x ∈ D, 0 ≤ x.fr ∧ x.fr < x.tt ∧ x.tt ≤ n) : runsM n D = rleL [] 0 (seg D 0 n) := by
  obtain ⟨h1, h2⟩ := bnd_up n D h
  unfold runsM
  rw [go_rle D n _ 0 [] h1 h2, show ((n : Int) - 0).toNat = n by omega]
/-- What runs say, sign by sign. -/
def expR (L : List Rn) : List At := L.flatMap fun r => List.replicate (r.tt - r.fr).toNat r.a
theorem exp_step (acc : List Rn) (i : Int) (a : At) (h : ∀ r, acc.getLast? = some r → r.tt = i ∧ r.fr < i) : expR (runStep acc i (i + 1) a) = expR acc ++ [a] ∧ ∀ r, (runStep acc i (i + 1) a).getLast? = some r → r.tt = i + 1 ∧ r.fr < i + 1 := by
  unfold runStep
  cases hl : acc.getLast? with
  | none =>
    have : acc = [] := by simpa using hl
    subst this
    refine ⟨?_, fun r hr => ?_⟩
    · simp [expR, show (i + 1 - i).toNat = 1 by omega]
    · simp at hr; subst hr; simp; omega
  | some r =>
    obtain ⟨h1, h2⟩ := h r hl
    obtain ⟨A, rfl⟩ : ∃ A, acc = A ++ [r] := by
      refine ⟨acc.dropLast, ?_⟩
      have hne : acc ≠ [] := fun e => by rw [e] at hl; simp at hl
      rw [List.getLast?_eq_some_getLast hne] at hl
      have hl := Option.some.inj hl
      rw [← hl, List.dropLast_concat_getLast hne]
    by_cases hr : r.a = a
    · simp only [hr, if_true]
      refine ⟨?_, fun q hq => ?_⟩
      · obtain ⟨k, hk⟩ : ∃ k : Nat, i = r.fr + k := ⟨(i - r.fr).toNat, by omega⟩
        have e1 : (i + 1 - r.fr).toNat = k + 1 := by omega
        have e2 : (r.tt - r.fr).toNat = k := by omega
        simp [expR, e1, e2, hr, List.replicate_succ']
      · simp at hq; subst hq; simp; omega
    · simp only [if_neg hr]
      refine ⟨?_, fun q hq => ?_⟩
      · simp [expR, show (i + 1 - i).toNat = 1 by omega]
      · simp at hq; subst hq; simp; omega
theorem exp_rle : ∀ (l : List At) (acc : List Rn) (i : Int), (∀ r, acc.getLast? = some r → r.tt = i ∧ r.fr < i) → expR (rleL acc i l) = expR acc ++ l
  | [], acc, i, _ => by simp [rleL]
  | a :: l, acc, i, h => by
    obtain ⟨h1, h2⟩ := exp_step acc i a h
    show expR (rleL (runStep acc i (i + 1) a) (i + 1) l) = _
    rw [exp_rle l _ _ h2, h1, List.append_assoc]
    rfl
theorem rle_inj {l m : List At} (h : rleL [] 0 l = rleL [] 0 m) : l = m := by
  have h1 := exp_rle l [] 0 (fun r hr => by simp at hr)
  have h2 := exp_rle m [] 0 (fun r hr => by simp at hr)
  rw [h, h2] at h1
  simpa [expR] using h1.symm
end Go.Proofs.YthonbeonjjhmlaaDoor

/- The reference's looks (P0702). -/
namespace Go.Proofs.YthonbeonjjhmlaaDoor
open Go.RowKit Go.Shelf
attribute [local go_sem] Oper.semAt_some

/-- The place of the innermost colour so far. -/
def InR (D : List Sp) (i : Nat) (q : Option Sp) (v : Value) : Prop := (q = none ∧ v = .int .i64 (-1)) ∨ ∃ (k : Nat) (y : Sp), k < i ∧ D[k]? = some y ∧ q = some y ∧ v = .int .i64 (k : Nat)
theorem InR.more {D : List Sp} {i : Nat} {q : Option Sp} {v : Value} (h : InR D i q v) : InR D (i + 1) q v := by
  rcases h with h | ⟨k, y, h1, h2⟩
  · exact .inl h
  · exact .inr ⟨k, y, by omega, h2⟩
theorem AtC.but {W V : World} {P g : Nat} {a : At} (h : AtC W P a) (k : But (fun k => k = g) W V) (hne : P ≠ g) : AtC V P a := (k.same P h.lt hne).trans h
theorem tx_but {W V : World} {P g : Nat} {a b : Value} (h : W.heap[P]? = some (.cells #[a, b] 24 (0, 0))) (k : But (fun k => k = g) W V) (hne : P ≠ g) : V.heap[P]? = some (.cells #[a, b] 24 (0, 0)) := (k.same P (Array.getElem?_eq_some_iff.1 h).1 hne).trans h
theorem rst_no {n : Int} {st : At × Option Sp} {x : Sp} (h : ¬ (x.fr ≤ n ∧ n < x.tt)) : rstep n st x = st := by unfold rstep; rw [if_neg h]
theorem rst_1 {n : Int} {st : At × Option Sp} {x : Sp} (h : x.fr ≤ n ∧ n < x.tt) (k : x.kd = 1) : rstep n st x = ({ st.1 with b := true }, st.2) := by unfold rstep; rw [if_pos h, if_pos k]
theorem rst_2 {n : Int} {st : At × Option Sp} {x : Sp} (h : x.fr ≤ n ∧ n < x.tt) (k : x.kd = 2) : rstep n st x = ({ st.1 with i := true }, st.2) := by unfold rstep; rw [if_pos h, if_neg (by omega), if_pos k]
theorem rst_3 {n : Int} {st : At × Option Sp} {x : Sp} (h : x.fr ≤ n ∧ n < x.tt) (k : x.kd = 3) : rstep n st x = ({ st.1 with u := true }, st.2) := by unfold rstep; rw [if_pos h, if_neg (by omega), if_neg (by omega), if_pos k]
theorem rst_4 {n : Int} {st : At × Option Sp} {x : Sp} (h : x.fr ≤ n ∧ n < x.tt) (k : x.kd = 4) : rstep n st x = ({ st.1 with s := true }, st.2) := by unfold rstep; rw [if_pos h, if_neg (by omega), if_neg (by omega), if_neg (by omega), if_pos k]
theorem rst_n {n : Int} {a : At} {x : Sp} (h : x.fr ≤ n ∧ n < x.tt) (k1 : x.kd ≠ 1) (k2 : x.kd ≠ 2) (k3 : x.kd ≠ 3) (k4 : x.kd ≠ 4) : rstep n (a, none) x = ({ a with c := IntKind.i64.wrap (x.vl + 1) }, some x) := by unfold rstep; rw [if_pos h, if_neg k1, if_neg k2, if_neg k3, if_neg k4]
theorem rst_s {n : Int} {a : At} {x y : Sp} (h : x.fr ≤ n ∧ n < x.tt) (k1 : x.kd ≠ 1) (k2 : x.kd ≠ 2) (k3 : x.kd ≠ 3) (k4 : x.kd ≠ 4) : rstep n (a, some y) x = if inB x y = true then ({ a with c := IntKind.i64.wrap (x.vl + 1) }, some x) else (a, some y) := by unfold rstep; rw [if_pos h, if_neg k1, if_neg k2, if_neg k3, if_neg k4]
theorem at_set0 {W : World} {B : Nat} {a : At} (h : AtC W B a) : AtC (W.setCell ⟨B, 0, none⟩ (.bool true)) B { a with b := true } := by
  have h9 := set_atS h 0 (.bool true)
  first | exact h9 | (simpa [AtC] using h9)
theorem at_set1 {W : World} {B : Nat} {a : At} (h : AtC W B a) : AtC (W.setCell ⟨B, 1, none⟩ (.bool true)) B { a with i := true } := by
  have h9 := set_atS h 1 (.bool true)
  first | exact h9 | (simpa [AtC] using h9)
theorem at_set2 {W : World} {B : Nat} {a : At} (h : AtC W B a) : AtC (W.setCell ⟨B, 2, none⟩ (.bool true)) B { a with u := true } := by
  have h9 := set_atS h 2 (.bool true)
  first | exact h9 | (simpa [AtC] using h9)
theorem at_set3 {W : World} {B : Nat} {a : At} (h : AtC W B a) : AtC (W.setCell ⟨B, 3, none⟩ (.bool true)) B { a with s := true } := by
  have h9 := set_atS h 3 (.bool true)
  first | exact h9 | (simpa [AtC] using h9)
theorem at_set4 {W : World} {B : Nat} {a : At} (h : AtC W B a) (v : Int) : AtC (W.setCell ⟨B, 4, none⟩ (.int .i64 v)) B { a with c := v } := by
  have h9 := set_atS h 4 (.int .i64 v)
  first | exact h9 | (simpa [AtC] using h9)
theorem at_all {W : World} {B : Nat} {a : At} (h : AtC W B a) {b0 b1 b2 b3 : Bool} {c4 : Int} : AtC (((((W.setCell ⟨B, 0, none⟩ (.bool b0)).setCell ⟨B, 1, none⟩ (.bool b1)).setCell ⟨B, 2, none⟩ (.bool b2)).setCell ⟨B, 3, none⟩ (.bool b3)).setCell ⟨B, 4, none⟩ (.int .i64 c4)) B ⟨b0, b1, b2, b3, c4⟩ := by
  have h9 := set_atS (set_atS (set_atS (set_atS (set_atS h 0 (.bool b0)) 1 (.bool b1)) 2 (.bool b2)) 3 (.bool b3)) 4 (.int .i64 c4)
  first | exact h9 | (simpa [AtC] using h9)
set_option maxRecDepth 100000 in
set_option maxHeartbeats 4000000 in
theorem rlooks_any (s : ByteArray) (D : List Sp) (oa : Option Addr) (ca : Nat) (n : Int) (hl : D.length ≤ 5000) (w : World) (hR : SpO w oa D) :
    Calls Tryd.prog 25 #[.agg #[.string s, .slice oa D.length ca], .int .i64 n] w fun e w' => e = .returned (rfoldA D n).1.val ∧ Below w.heap.size w w' := by
  obtain ⟨N, hN⟩ : ∃ N, D.length = N := ⟨_, rfl⟩
  have HN := hideS (And.intro hN hR)
  rw [hN] at hl ⊢
  obtain ⟨RA, hRA⟩ : ∃ RA, (rfoldA D n).1 = RA := ⟨_, rfl⟩
  rw [hRA]
  have HRA := hideS hRA
  clear hN hR hRA
  go_enter Tryd.func25, Tryd.ntmps25
  go_wp2_with fail
  obtain ⟨A, hA⟩ : ∃ A, w.heap.size + 1 + 1 = A := ⟨_, rfl⟩
  obtain ⟨W0, hW0⟩ : ∃ W0, ((w.alloc (.cells #[.string s, .slice oa N ca] 24)).alloc (.cells #[.bool false, .bool false, .bool false, .bool false, .int .i64 0] 27)).alloc (.cells #[.bool false, .bool false, .bool false, .bool false, .int .i64 0] 27) = W0 := ⟨_, rfl⟩
  have t0 : W0.heap[w.heap.size]? = some (.cells #[.string s, .slice oa N ca] 24 (0, 0)) := by
    rw [← hW0]
    exact ((bel1S _ _).block _ (by simp; omega)).trans (((bel1S _ _).block _ (by simp)).trans (World.alloc_heap_new w _))
  have t1 : AtC W0 (w.heap.size + 1) at0 := by
    rw [← hW0]
    have h9 := atc_new (w.alloc (.cells #[.string s, .slice oa N ca] 24))
    rw [World.size_alloc] at h9
    exact h9.keep (bel1S _ _)
  have t2 : AtC W0 A at0 := by
    rw [← hW0, ← hA]
    have h9 := atc_new ((w.alloc (.cells #[.string s, .slice oa N ca] 24)).alloc (.cells #[.bool false, .bool false, .bool false, .bool false, .int .i64 0] 27))
    rw [World.size_alloc, World.size_alloc] at h9
    exact h9
  have b0 : Below w.heap.size w W0 := by rw [← hW0]; exact bupS (bel1S _ _) (bupS (bel1S _ _) (bel1S _ _))
  have HW := hideS (And.intro t0 (And.intro t1 (And.intro t2 b0)))
  clear t0 t1 t2 b0
  rw [hW0, hA]
  clear hW0
  go_loopw [6, 7] (fun inv iv wq => ∃ i : Nat, iv = .int .i64 (i : Nat) ∧ i ≤ N ∧ InR D i (rfoldA (D.take i) n).2 inv ∧ AtC wq A (rfoldA (D.take i) n).1 ∧ But (fun k => k = A) W0 wq) (fun _ iv _ => N - (intOf iv).toNat)
  case atStart => exact ⟨0, rfl, Nat.zero_le _, .inl ⟨rfl, rfl⟩, HW.out.2.2.1, But.refl _ _⟩
  case round =>
    obtain ⟨i, rfl, hiN, hin, hat, hb⟩ := hrel
    obtain ⟨wq, rfl⟩ : ∃ wq, wq = wr := ⟨_, rfl⟩
    have hAw : w.heap.size < A := by omega
    have bw : Below w.heap.size w wq := HW.out.2.2.2.trans (hb.below HW.out.2.2.2.size (fun k e => by omega))
    have tq := tx_but HW.out.1 hb (by omega)
    obtain ⟨k0, k1⟩ := tx_text tq
    by_cases hlt : i < N
    · obtain ⟨x, hx⟩ : ∃ x, D[i]? = some x := ⟨_, List.getElem?_eq_getElem (by rw [HN.out.1]; exact hlt)⟩
      obtain ⟨a, rfl, hab, c0, c1, c2, c3⟩ := HN.out.2.keep bw i x hx
      have d1 : (i : Int) < (N : Int) := by omega
      have wi : IntKind.i64.wrap ((i : Int) + 1) = ((i + 1 : Nat) : Int) := by rw [show ((i + 1 : Nat) : Int) = (i : Int) + 1 by omega]; exact IntWalk.i64_in _ ⟨by omega, by omega⟩
      have hst : rfoldA (D.take (i + 1)) n = rstep n (rfoldA (D.take i) n) x := by rw [List.take_add_one, hx]; exact rfold_snoc _ _ _
      obtain ⟨st, hst0⟩ : ∃ st, rfoldA (D.take i) n = st := ⟨_, rfl⟩
      rw [hst0] at hst hin hat
      obtain ⟨sa, sq⟩ := st
      simp only at hin hat
      obtain ⟨V, hV⟩ : ∃ V, wq.alloc (.cells #[.int .i64 x.fr, .int .i64 x.tt, .int .i64 x.kd, .int .i64 x.vl] 55) = V := ⟨_, rfl⟩
      have bV : Below wq.heap.size wq V := by rw [← hV]; exact bel1S _ _
      have nV : V.heap[wq.heap.size]? = some (.cells #[.int .i64 x.fr, .int .i64 x.tt, .int .i64 x.kd, .int .i64 x.vl] 55) := by rw [← hV]; exact World.alloc_heap_new wq _
      have s0 : V.cell? ⟨wq.heap.size, 0, none⟩ = some (.int .i64 x.fr) := by simp [World.cell?, nV]
      have s1 : V.cell? ⟨wq.heap.size, 1, none⟩ = some (.int .i64 x.tt) := by simp [World.cell?, nV]
      have s2 : V.cell? ⟨wq.heap.size, 2, none⟩ = some (.int .i64 x.kd) := by simp [World.cell?, nV]
      have s3 : V.cell? ⟨wq.heap.size, 3, none⟩ = some (.int .i64 x.vl) := by simp [World.cell?, nV]
      have hxl : wq.heap.size < V.heap.size := (Array.getElem?_eq_some_iff.1 nV).1
      have hAt := hat.keep bV
      have HA := hideS (And.intro hAt (And.intro hst (And.intro (hb.below_trans bV) (And.intro hin (And.intro hx ((HN.out.2.keep bw).keep bV))))))
      have tV := (bV.block w.heap.size (Array.getElem?_eq_some_iff.1 tq).1).trans tq
      obtain ⟨v0, v1⟩ := tx_text tV
      have hAl := hAt.lt
      have htl : w.heap.size < V.heap.size := (Array.getElem?_eq_some_iff.1 tV).1
      clear hst hst0 hb hx bV nV tq tV hat bw
      go_upto_region 7 with fail
      try rw [hV]
      clear hV c0 c1 c2 c3 k0 k1
      have done9 : Hid (∀ (v : Value) (W : World), InR D (i + 1) (rstep n (sa, sq) x).2 v → AtC W A (rstep n (sa, sq) x).1 → But (fun k => k = A) W0 W → ∃ i' : Nat, (Value.int .i64 ((i + 1 : Nat) : Int)) = .int .i64 (i' : Nat) ∧ i' ≤ N ∧ InR D i' (rfoldA (D.take i') n).2 v ∧ AtC W A (rfoldA (D.take i') n).1 ∧ But (fun k => k = A) W0 W) := hideS (fun v W h1 h2 h3 => ⟨i + 1, rfl, by omega, by rw [HA.out.2.1]; exact h1, by rw [HA.out.2.1]; exact h2, h3⟩)
      by_cases hcv : x.fr ≤ n ∧ n < x.tt
      · have h1 : ¬ n < x.fr := by omega
        have h2 : ¬ x.tt ≤ n := by omega
        obtain ⟨g0, g1, g2, g3, g4⟩ := hAt.free
        obtain ⟨a0, a1, a2, a3, a4⟩ := hAt.five
        clear hAt
        by_cases e1 : x.kd = 1
        · have q1 : (x.kd == 1) = true := by simp [e1]
          go_wp2_with fail
          go_roundw
          case rel => exact done9.out _ _ (by rw [rst_1 hcv e1]; exact HA.out.2.2.2.1.more) (by rw [rst_1 hcv e1]; exact at_set0 HA.out.1) (HA.out.2.2.1.setCell (p := ⟨A, 0, none⟩) rfl _)
          case measure => simp [intOf]; omega
        have q1 : (x.kd == 1) = false := by simpa using e1
        by_cases e2 : x.kd = 2
        · have q2 : (x.kd == 2) = true := by simp [e2]
          go_wp2_with fail
          go_roundw
          case rel => exact done9.out _ _ (by rw [rst_2 hcv e2]; exact HA.out.2.2.2.1.more) (by rw [rst_2 hcv e2]; exact at_set1 HA.out.1) (HA.out.2.2.1.setCell (p := ⟨A, 1, none⟩) rfl _)
          case measure => simp [intOf]; omega
        have q2 : (x.kd == 2) = false := by simpa using e2
        by_cases e3 : x.kd = 3
        · have q3 : (x.kd == 3) = true := by simp [e3]
          go_wp2_with fail
          go_roundw
          case rel => exact done9.out _ _ (by rw [rst_3 hcv e3]; exact HA.out.2.2.2.1.more) (by rw [rst_3 hcv e3]; exact at_set2 HA.out.1) (HA.out.2.2.1.setCell (p := ⟨A, 2, none⟩) rfl _)
          case measure => simp [intOf]; omega
        have q3 : (x.kd == 3) = false := by simpa using e3
        by_cases e4 : x.kd = 4
        · have q4 : (x.kd == 4) = true := by simp [e4]
          go_wp2_with fail
          go_roundw
          case rel => exact done9.out _ _ (by rw [rst_4 hcv e4]; exact HA.out.2.2.2.1.more) (by rw [rst_4 hcv e4]; exact at_set3 HA.out.1) (HA.out.2.2.1.setCell (p := ⟨A, 3, none⟩) rfl _)
          case measure => simp [intOf]; omega
        have q4 : (x.kd == 4) = false := by simpa using e4
        obtain ⟨vc, hvc⟩ : ∃ vc, IntKind.i64.wrap (x.vl + 1) = vc := ⟨_, rfl⟩
        have u0 : ∀ q : GrownQ V, q.V.cell? ⟨wq.heap.size, 0, none⟩ = some (.int .i64 x.fr) := fun q => (q.h.cell (p := ⟨wq.heap.size, 0, none⟩) hxl).trans s0
        have u1 : ∀ q : GrownQ V, q.V.cell? ⟨wq.heap.size, 1, none⟩ = some (.int .i64 x.tt) := fun q => (q.h.cell (p := ⟨wq.heap.size, 1, none⟩) hxl).trans s1
        have u2 : ∀ q : GrownQ V, q.V.cell? ⟨wq.heap.size, 2, none⟩ = some (.int .i64 x.kd) := fun q => (q.h.cell (p := ⟨wq.heap.size, 2, none⟩) hxl).trans s2
        have u3 : ∀ q : GrownQ V, q.V.cell? ⟨wq.heap.size, 3, none⟩ = some (.int .i64 x.vl) := fun q => (q.h.cell (p := ⟨wq.heap.size, 3, none⟩) hxl).trans s3
        have z1 : ∀ q : GrownQ V, q.V.cell? ⟨w.heap.size, 1, none⟩ = some (.slice (some a) N ca) := fun q => (q.h.cell (p := ⟨w.heap.size, 1, none⟩) htl).trans v1
        have HIn := hideS HA.out.2.2.2.1
        rcases hin with ⟨hq, rfl⟩ | ⟨k, y, hk, hky, hq, rfl⟩
        · have e9 := rst_n (a := sa) hcv e1 e2 e3 e4
          rw [hvc] at e9
          have HE := hideS e9
          have neg1 : ((-1 : Int) < 0) = True := by simp
          clear e9
          go_upto_region 9 with fail
          refine region_grown V V (by kernel_rfl) (by kernel_rfl) (Below.refl _ _) ?_
          repeat (go_big_quiet_step (fail))
          refine wpQuiet_nil ?_
          rintro W3 ⟨⟨V3, hb3⟩, hv3⟩
          have hv3 : W3 = V3 := hv3
          subst hv3
          have H5 := hideS (And.intro (HA.out.1.keep hb3) (HA.out.2.2.1.below_trans hb3))
          have r3 : W3.cell? ⟨wq.heap.size, 3, none⟩ = some (.int .i64 x.vl) := (hb3.cell (p := ⟨wq.heap.size, 3, none⟩) hxl).trans s3
          obtain ⟨g0, g1, g2, g3, g4⟩ := H5.out.1.free
          obtain ⟨a0, a1, a2, a3, a4⟩ := H5.out.1.five
          clear hv3 hb3 z1 u0 u1 u2 u3
          go_wp2_with fail
          go_roundw
          case rel =>
            subst hq
            exact done9.out _ _ (by rw [HE.out]; exact .inr ⟨i, x, by omega, HA.out.2.2.2.2.1, rfl, rfl⟩) (by rw [HE.out]; exact at_set4 H5.out.1 vc) (H5.out.2.setCell (p := ⟨A, 4, none⟩) rfl _)
          case measure => simp [intOf]; omega
        · have e9 := rst_s (a := sa) (y := y) hcv e1 e2 e3 e4
          rw [hvc] at e9
          have HF := hideS (fun W => rwithin_any x y W)
          unfold Sp.val at HF
          obtain ⟨gi, hgi⟩ : ∃ g, inB x y = g := ⟨_, rfl⟩
          rw [hgi] at HF e9
          have HE := hideS e9
          obtain ⟨ad, had, hak, y0, y1, y2, y3⟩ := HA.out.2.2.2.2.2 k y hky
          obtain rfl : a = ad := by simpa using had
          have hak : (a.add (k * 4)).block < V.heap.size := by rw [addrS_block]; exact hak
          have n1 : ¬ ((k : Int) < 0) := by omega
          have n2 : (k : Int) < (N : Int) := by omega
          have n3 : (0 : Int) ≤ (k : Int) := by omega
          have p0 : ∀ q : GrownQ V, q.V.cell? (a.add (k * 4)) = some (.int .i64 y.fr) := fun q => (q.h.cell hak).trans y0
          have p1 : ∀ q : GrownQ V, q.V.cell? ⟨(a.add (k * 4)).block, (a.add (k * 4)).off + 1, none⟩ = some (.int .i64 y.tt) := fun q => (q.h.cell (p := ⟨(a.add (k * 4)).block, _, none⟩) hak).trans y1
          have p2 : ∀ q : GrownQ V, q.V.cell? ⟨(a.add (k * 4)).block, (a.add (k * 4)).off + 2, none⟩ = some (.int .i64 y.kd) := fun q => (q.h.cell (p := ⟨(a.add (k * 4)).block, _, none⟩) hak).trans y2
          have p3 : ∀ q : GrownQ V, q.V.cell? ⟨(a.add (k * 4)).block, (a.add (k * 4)).off + 3, none⟩ = some (.int .i64 y.vl) := fun q => (q.h.cell (p := ⟨(a.add (k * 4)).block, _, none⟩) hak).trans y3
          clear e9 hgi y0 y1 y2 y3 had
          go_upto_region 9 with fail
          refine region_grown V V (by kernel_rfl) (by kernel_rfl) (Below.refl _ _) ?_
          repeat (go_big_quiet_step (first
            | (go_at_call 42; rename_i q; (with_reducible refine (HF.out _).mono ?_); rintro e V1 ⟨rfl, h1⟩; exact ⟨rfl, ⟨V1, q.h.trans (h1.mono q.h.size)⟩, rfl⟩)))
          refine wpQuiet_nil ?_
          rintro W3 ⟨⟨V3, hb3⟩, hv3⟩
          have hv3 : W3 = V3 := hv3
          subst hv3
          have H5 := hideS (And.intro (HA.out.1.keep hb3) (HA.out.2.2.1.below_trans hb3))
          have r3 : W3.cell? ⟨wq.heap.size, 3, none⟩ = some (.int .i64 x.vl) := (hb3.cell (p := ⟨wq.heap.size, 3, none⟩) hxl).trans s3
          obtain ⟨g0, g1, g2, g3, g4⟩ := H5.out.1.free
          obtain ⟨a0, a1, a2, a3, a4⟩ := H5.out.1.five
          clear hv3 hb3 z1 u0 u1 u2 u3 p0 p1 p2 p3 HF
          cases gi with
          | true =>
            go_wp2_with fail
            go_roundw
            case rel =>
              subst hq
              exact done9.out _ _ (by rw [HE.out, if_pos rfl]; exact .inr ⟨i, x, by omega, HA.out.2.2.2.2.1, rfl, rfl⟩) (by rw [HE.out, if_pos rfl]; exact at_set4 H5.out.1 vc) (H5.out.2.setCell (p := ⟨A, 4, none⟩) rfl _)
            case measure => simp [intOf]; omega
          | false =>
            go_wp2_with fail
            go_roundw
            case rel =>
              subst hq
              exact done9.out _ _ (by rw [HE.out, if_neg (by simp)]; exact .inr ⟨k, y, by omega, hky, rfl, rfl⟩) (by rw [HE.out, if_neg (by simp)]; exact H5.out.1) H5.out.2
            case measure => simp [intOf]; omega
      · have e9 := rst_no (st := (sa, sq)) hcv
        have HE := hideS e9
        clear e9
        by_cases h1 : n < x.fr
        · go_wp2_with fail
          go_roundw
          case rel => exact done9.out _ _ (by rw [HE.out]; exact HA.out.2.2.2.1.more) (by rw [HE.out]; exact HA.out.1) HA.out.2.2.1
          case measure => simp [intOf]; omega
        · have h2 : x.tt ≤ n := by omega
          go_wp2_with fail
          go_roundw
          case rel => exact done9.out _ _ (by rw [HE.out]; exact HA.out.2.2.2.1.more) (by rw [HE.out]; exact HA.out.1) HA.out.2.2.1
          case measure => simp [intOf]; omega
    · have d1 : ¬ (i : Int) < (N : Int) := by omega
      rw [List.take_of_length_le (by rw [HN.out.1]; omega), HRA.out] at hat
      have t7 := HW.out.2.1.but hb (by omega)
      obtain ⟨g0, g1, g2, g3, g4⟩ := t7.free
      obtain ⟨b0, b1, b2, b3, b4⟩ := t7.five
      obtain ⟨a0, a1, a2, a3, a4⟩ := hat.five
      obtain ⟨RA0, RA1, RA2, RA3, RA4⟩ := RA
      simp only at a0 a1 a2 a3 a4
      obtain ⟨WX, hWX⟩ : ∃ WX, ((((wq.setCell ⟨w.heap.size + 1, 0, none⟩ (.bool RA0)).setCell ⟨w.heap.size + 1, 1, none⟩ (.bool RA1)).setCell ⟨w.heap.size + 1, 2, none⟩ (.bool RA2)).setCell ⟨w.heap.size + 1, 3, none⟩ (.bool RA3)).setCell ⟨w.heap.size + 1, 4, none⟩ (.int .i64 RA4) = WX := ⟨_, rfl⟩
      have t9 : AtC WX (w.heap.size + 1) ⟨RA0, RA1, RA2, RA3, RA4⟩ := by
        rw [← hWX]
        exact at_all t7
      have bX : Below w.heap.size w WX := by
        rw [← hWX]
        exact ((((bw.setCell (p := ⟨w.heap.size + 1, 0, none⟩) (Nat.le_succ _) _).setCell (p := ⟨w.heap.size + 1, 1, none⟩) (Nat.le_succ _) _).setCell (p := ⟨w.heap.size + 1, 2, none⟩) (Nat.le_succ _) _).setCell (p := ⟨w.heap.size + 1, 3, none⟩) (Nat.le_succ _) _).setCell (p := ⟨w.heap.size + 1, 4, none⟩) (Nat.le_succ _) _
      have HX := hideS bX
      clear hin hat hb bw tq t7 bX HRA
      go_wp2_with fail
      try rw [hWX]
      obtain ⟨r0, r1, r2, r3, r4⟩ := t9.five
      exact bodyPost_ret (v := .agg #[.bool RA0, .bool RA1, .bool RA2, .bool RA3, .int .i64 RA4]) (by simp [results, Tryd.results25, go_sem, r0, r1, r2, r3, r4]) rfl ⟨rfl, HX.out⟩
end Go.Proofs.YthonbeonjjhmlaaDoor

/- Runs compared (P0705): slices.Equal over runs. -/
namespace Go.Proofs.YthonbeonjjhmlaaDoor
open Go.RowKit Go.Shelf
attribute [local go_sem] Oper.semAt_some

def Rn.val (r : Rn) : Value := .agg #[.int .i64 r.fr, .int .i64 r.tt, .bool r.a.b, .bool r.a.i, .bool r.a.u, .bool r.a.s, .int .i64 r.a.c]
set_option maxRecDepth 100000 in
theorem at_equal (d : Nat) (x y : At) (w : World) : (Op.equalIn (d + 2) 27 x.val y.val).run Tryd.prog w = .ok (decide (x = y)) w := by
  obtain ⟨a, b, c, e, f⟩ := x
  obtain ⟨a', b', c', e', f'⟩ := y
  unfold At.val
  rw [run_equalIn_agg _ _ _ _ _ at_under at_held]
  have hf := at_fields
  match h : (Tryd.prog.fieldsOf 27).toList, hf with
  | [f0, f1, f2, f3, f4], hf =>
    clear h
    simp only [List.map_cons, List.map_nil, List.cons.injEq, Prod.mk.injEq, and_true] at hf
    obtain ⟨⟨n0, t0, o0⟩, ⟨n1, t1, o1⟩, ⟨n2, t2, o2⟩, ⟨n3, t3, o3⟩, ⟨n4, t4, o4⟩⟩ := hf
    have u3 : Tryd.prog.underlying 3 = some (.int .i64) := Tryd.underlying3
    have u4 : Tryd.prog.underlying 4 = some .bool := Tryd.underlying4
    simp [Op.eqFields, n0, n1, n2, n3, n4, t0, t1, t2, t3, t4, o0, o1, o2, o3, o4, go_sem, u3, u4]
    by_cases h0 : a = a' <;> by_cases h1 : b = b' <;> by_cases h2 : c = c' <;> by_cases h3 : e = e' <;> by_cases h4 : f = f' <;> simp [h0, h1, h2, h3, h4]
  | [], hf => simp at hf
  | [_], hf => simp at hf
  | [_, _], hf => simp at hf
  | [_, _, _], hf => simp at hf
  | [_, _, _, _], hf => simp at hf
  | _ :: _ :: _ :: _ :: _ :: _ :: _, hf => simp at hf
theorem at_neq (x y : At) (w : World) : (binOp .neq 27 x.val y.val).run Tryd.prog w = .ok (.bool (!decide (x = y))) w := by
  have h := at_equal 9998 x y w
  unfold At.val at h ⊢
  rw [run_neq_struct, h]
  rfl
theorem rn_under : Tryd.prog.underlying 64 = some (.struct (Tryd.prog.fieldsOf 64)) := by kernel_rfl
theorem rn_held : Tryd.prog.stoodInHeld 64 = false := by kernel_rfl
theorem rn_fields : (Tryd.prog.fieldsOf 64).toList.map (fun f => (f.name, f.type, f.offset)) = [("From", 3, 0), ("To", 3, 1), ("Attr", 27, 2)] := by kernel_rfl
theorem at_size : Tryd.prog.cellsOf 27 = 5 := by kernel_rfl
set_option maxRecDepth 100000 in
theorem rn_neq (x y : Rn) (w : World) : (binOp .neq 64 x.val y.val).run Tryd.prog w = .ok (.bool (!decide (x = y))) w := by
  obtain ⟨a, b, c⟩ := x
  obtain ⟨a', b', c'⟩ := y
  unfold Rn.val
  simp only
  rw [run_neq_struct, run_equalIn_agg _ _ _ _ _ rn_under rn_held]
  have hf := rn_fields
  match h : (Tryd.prog.fieldsOf 64).toList, hf with
  | [f0, f1, f2], hf =>
    clear h
    simp only [List.map_cons, List.map_nil, List.cons.injEq, Prod.mk.injEq, and_true] at hf
    obtain ⟨⟨n0, t0, o0⟩, ⟨n1, t1, o1⟩, ⟨n2, t2, o2⟩⟩ := hf
    have u3 : Tryd.prog.underlying 3 = some (.int .i64) := Tryd.underlying3
    simp [Op.eqFields, n0, n1, n2, t0, t1, t2, o0, o1, o2, go_sem, u3]
    by_cases h0 : a = a'
    · by_cases h1 : b = b'
      · subst h0 h1
        obtain ⟨c0, c1, c2, c3, c4⟩ := c
        obtain ⟨e0, e1, e2, e3, e4⟩ := c'
        simp
        by_cases h0 : c0 = e0 <;> by_cases h1 : c1 = e1 <;> by_cases h2 : c2 = e2 <;> by_cases h3 : c3 = e3 <;> by_cases h4 : c4 = e4 <;> simp [h0, h1, h2, h3, h4]
      · simp [h0, h1]
    · simp [h0]
  | [], hf => simp at hf
  | [_], hf => simp at hf
  | [_, _], hf => simp at hf
  | _ :: _ :: _ :: _ :: _, hf => simp at hf
/-- A row of runs that can be read; a row of looks. -/
def RnO (W : World) (o : Option Addr) (L : List Rn) : Prop := ∀ (i : Nat) (r : Rn), L[i]? = some r → ∃ a, o = some a ∧ a.block < W.heap.size ∧ W.cell? (a.add (i * 7)) = some (.int .i64 r.fr) ∧ W.cell? ⟨(a.add (i * 7)).block, (a.add (i * 7)).off + 1, none⟩ = some (.int .i64 r.tt) ∧ W.cell? ⟨(a.add (i * 7)).block, (a.add (i * 7)).off + 2, none⟩ = some (.bool r.a.b) ∧ W.cell? ⟨(a.add (i * 7)).block, (a.add (i * 7)).off + 3, none⟩ = some (.bool r.a.i) ∧ W.cell? ⟨(a.add (i * 7)).block, (a.add (i * 7)).off + 4, none⟩ = some (.bool r.a.u) ∧ W.cell? ⟨(a.add (i * 7)).block, (a.add (i * 7)).off + 5, none⟩ = some (.bool r.a.s) ∧ W.cell? ⟨(a.add (i * 7)).block, (a.add (i * 7)).off + 6, none⟩ = some (.int .i64 r.a.c)
def AtO (W : World) (o : Option Addr) (L : List At) : Prop := ∀ (i : Nat) (r : At), L[i]? = some r → ∃ a, o = some a ∧ a.block < W.heap.size ∧ W.cell? (a.add (i * 5)) = some (.bool r.b) ∧ W.cell? ⟨(a.add (i * 5)).block, (a.add (i * 5)).off + 1, none⟩ = some (.bool r.i) ∧ W.cell? ⟨(a.add (i * 5)).block, (a.add (i * 5)).off + 2, none⟩ = some (.bool r.u) ∧ W.cell? ⟨(a.add (i * 5)).block, (a.add (i * 5)).off + 3, none⟩ = some (.bool r.s) ∧ W.cell? ⟨(a.add (i * 5)).block, (a.add (i * 5)).off + 4, none⟩ = some (.int .i64 r.c)
theorem RnO.keep {W V : World} {o : Option Addr} {L : List Rn} (h : RnO W o L) (b : Below W.heap.size W V) : RnO V o L := fun i r hr => by
  obtain ⟨a, e, hb, c0, c1, c2, c3, c4, c5, c6⟩ := h i r hr
  have hk : (a.add (i * 7)).block < W.heap.size := by rw [addrS_block]; exact hb
  exact ⟨a, e, Nat.lt_of_lt_of_le hb b.size, (b.cell hk).trans c0, (b.cell (p := ⟨(a.add (i * 7)).block, _, none⟩) hk).trans c1, (b.cell (p := ⟨(a.add (i * 7)).block, _, none⟩) hk).trans c2, (b.cell (p := ⟨(a.add (i * 7)).block, _, none⟩) hk).trans c3, (b.cell (p := ⟨(a.add (i * 7)).block, _, none⟩) hk).trans c4, (b.cell (p := ⟨(a.add (i * 7)).block, _, none⟩) hk).trans c5, (b.cell (p := ⟨(a.add (i * 7)).block, _, none⟩) hk).trans c6⟩
theorem AtO.keep {W V : World} {o : Option Addr} {L : List At} (h : AtO W o L) (b : Below W.heap.size W V) : AtO V o L := fun i r hr => by
  obtain ⟨a, e, hb, c0, c1, c2, c3, c4⟩ := h i r hr
  have hk : (a.add (i * 5)).block < W.heap.size := by rw [addrS_block]; exact hb
  exact ⟨a, e, Nat.lt_of_lt_of_le hb b.size, (b.cell hk).trans c0, (b.cell (p := ⟨(a.add (i * 5)).block, _, none⟩) hk).trans c1, (b.cell (p := ⟨(a.add (i * 5)).block, _, none⟩) hk).trans c2, (b.cell (p := ⟨(a.add (i * 5)).block, _, none⟩) hk).trans c3, (b.cell (p := ⟨(a.add (i * 5)).block, _, none⟩) hk).trans c4⟩
theorem add_zeroK (g k : Nat) : (⟨g, 0, none⟩ : Addr).add k = ⟨g, k, none⟩ := by
  unfold Addr.add
  split
  · rename_i h0
    rw [h0]
  · simp
theorem own_cap {W : World} {base n : Nat} {e : TypeId} {size : Nat} {v : Value} {xs : List Value} (h : W.ownsRow base e size v n xs) : ∃ o c, v = .slice o n c ∧ (n ≤ c ∧ c ≤ maxLen) ∧ ∀ j u, xs[j]? = some u → ∃ g, o = some ⟨g, 0, none⟩ ∧ g < W.heap.size ∧ W.cell? ⟨g, j, none⟩ = some u := by
  have h9 := h
  rcases h.2 with ⟨e0, e1⟩ | ⟨g, cap, cur, e0, hb, hg, hcn, hcm, hs, h4⟩
  · subst e1
    refine ⟨none, 0, e0, ⟨Nat.le_refl _, by unfold maxLen; omega⟩, fun j u hj => ?_⟩
    have hl := h.1
    rw [Nat.zero_mul] at hl
    rw [List.length_eq_zero_iff.1 hl] at hj
    simp at hj
  · subst e0
    exact ⟨some ⟨g, 0, none⟩, cap, rfl, ⟨hcn, hcm⟩, fun j u hj => ⟨g, rfl, (own_cells h9 j u hj).2.2.1, (own_cells h9 j u hj).1⟩⟩
theorem rn_of_own {W : World} {base n : Nat} {v : Value} {L : List Rn} (h : W.ownsRow base 64 7 v n (flat7 L)) : ∃ o c, v = .slice o n c ∧ (n ≤ c ∧ c ≤ maxLen) ∧ RnO W o L := by
  obtain ⟨o, c, e, hc, hx⟩ := own_cap h
  refine ⟨o, c, e, hc, fun i r hr => ?_⟩
  have ha := flat7_at L i r hr
  obtain ⟨g, rfl, hg, c0⟩ := hx (i * 7 + 0) _ (ha 0 _ rfl)
  obtain ⟨g1, e1, _, c1⟩ := hx (i * 7 + 1) _ (ha 1 _ rfl)
  obtain ⟨g2, e2, _, c2⟩ := hx (i * 7 + 2) _ (ha 2 _ rfl)
  obtain ⟨g3, e3, _, c3⟩ := hx (i * 7 + 3) _ (ha 3 _ rfl)
  obtain ⟨g4, e4, _, c4⟩ := hx (i * 7 + 4) _ (ha 4 _ rfl)
  obtain ⟨g5, e5, _, c5⟩ := hx (i * 7 + 5) _ (ha 5 _ rfl)
  obtain ⟨g6, e6, _, c6⟩ := hx (i * 7 + 6) _ (ha 6 _ rfl)
  obtain rfl : g = g1 := by simpa using e1
  obtain rfl : g = g2 := by simpa using e2
  obtain rfl : g = g3 := by simpa using e3
  obtain rfl : g = g4 := by simpa using e4
  obtain rfl : g = g5 := by simpa using e5
  obtain rfl : g = g6 := by simpa using e6
  refine ⟨_, rfl, hg, ?_⟩
  rw [add_zeroK]
  exact ⟨c0, c1, c2, c3, c4, c5, c6⟩
def At.cells (r : At) : List Value := [.bool r.b, .bool r.i, .bool r.u, .bool r.s, .int .i64 r.c]
def flat5 (L : List At) : List Value := L.flatMap At.cells
theorem flat5_len (L : List At) : (flat5 L).length = L.length * 5 := by
  induction L with
  | nil => rfl
  | cons x L ih =>
    have : flat5 (x :: L) = x.cells ++ flat5 L := rfl
    rw [this, List.length_append, ih, List.length_cons]
    simp [At.cells]
    omega
theorem flat5_snoc (L : List At) (x : At) : flat5 (L ++ [x]) = flat5 L ++ x.cells := by simp [flat5]
theorem flat5_at : ∀ (Q : List At) (i : Nat) (p : At), Q[i]? = some p → ∀ j v, p.cells[j]? = some v → (flat5 Q)[i * 5 + j]? = some v
  | [], i, p, h => by simp at h
  | x :: Q, 0, p, h => fun j v hj => by
    simp at h
    subst h
    have hl : j < x.cells.length := (List.getElem?_eq_some_iff.1 hj).1
    show (x.cells ++ flat5 Q)[0 * 5 + j]? = some v
    rw [Nat.zero_mul, Nat.zero_add, List.getElem?_append_left hl]
    exact hj
  | x :: Q, i + 1, p, h => fun j v hj => by
    have ih := flat5_at Q i p (by simpa using h) j v hj
    show (x.cells ++ flat5 Q)[(i + 1) * 5 + j]? = some v
    have hl : x.cells.length = 5 := rfl
    rw [List.getElem?_append_right (by omega), hl, show (i + 1) * 5 + j - 5 = i * 5 + j by omega]
    exact ih
theorem at_of_own {W : World} {base n : Nat} {v : Value} {L : List At} (h : W.ownsRow base 27 5 v n (flat5 L)) : ∃ o c, v = .slice o n c ∧ (n ≤ c ∧ c ≤ maxLen) ∧ AtO W o L := by
  obtain ⟨o, c, e, hc, hx⟩ := own_cap h
  refine ⟨o, c, e, hc, fun i r hr => ?_⟩
  have ha := flat5_at L i r hr
  obtain ⟨g, rfl, hg, c0⟩ := hx (i * 5 + 0) _ (ha 0 _ rfl)
  obtain ⟨g1, e1, _, c1⟩ := hx (i * 5 + 1) _ (ha 1 _ rfl)
  obtain ⟨g2, e2, _, c2⟩ := hx (i * 5 + 2) _ (ha 2 _ rfl)
  obtain ⟨g3, e3, _, c3⟩ := hx (i * 5 + 3) _ (ha 3 _ rfl)
  obtain ⟨g4, e4, _, c4⟩ := hx (i * 5 + 4) _ (ha 4 _ rfl)
  obtain rfl : g = g1 := by simpa using e1
  obtain rfl : g = g2 := by simpa using e2
  obtain rfl : g = g3 := by simpa using e3
  obtain rfl : g = g4 := by simpa using e4
  refine ⟨_, rfl, hg, ?_⟩
  rw [add_zeroK]
  exact ⟨c0, c1, c2, c3, c4⟩
set_option maxRecDepth 100000 in
set_option maxHeartbeats 2000000 in
theorem requal_any (L K : List Rn) (o1 o2 : Option Addr) (c1 c2 : Nat) (hl : L.length ≤ 1048576) (w : World) (h1 : RnO w o1 L) (h2 : RnO w o2 K) :
    Calls Tryd.prog 33 #[.slice o1 L.length c1, .slice o2 K.length c2] w fun e w' => e = .returned (.bool (decide (L = K))) ∧ Below w.heap.size w w' := by
  obtain ⟨b, hb⟩ : ∃ b, decide (L = K) = b := ⟨_, rfl⟩
  rw [hb]
  by_cases hlk : L.length = K.length
  · obtain ⟨N, hN⟩ : ∃ N, L.length = N := ⟨_, rfl⟩
    have hN2 : K.length = N := by omega
    have HN := hideS (And.intro hN (And.intro hN2 (And.intro h1 (And.intro h2 hb))))
    rw [hN, hN2]
    rw [hN] at hl
    clear hN hN2 h1 h2 hb hlk
    have hgd := run_guard
    go_enter Tryd.func33, Tryd.ntmps33
    go_wp2_with fail
    go_loopw [13] (fun iv wq => ∃ i : Nat, iv = .int .i64 (i : Nat) ∧ i ≤ N ∧ (∀ j, j < i → L[j]? = K[j]?) ∧ Below w.heap.size w wq) (fun iv _ => N - (intOf iv).toNat)
    case atStart => exact ⟨0, rfl, Nat.zero_le _, fun j hj => absurd hj (by omega), Below.refl _ _⟩
    case round =>
      obtain ⟨i, rfl, hiN, hsame, hb⟩ := hrel
      obtain ⟨wq, rfl⟩ : ∃ wq, wq = wr := ⟨_, rfl⟩
      by_cases hlt : i < N
      · obtain ⟨x, hx⟩ : ∃ x, L[i]? = some x := ⟨_, List.getElem?_eq_getElem (by rw [HN.out.1]; exact hlt)⟩
        obtain ⟨y, hy⟩ : ∃ y, K[i]? = some y := ⟨_, List.getElem?_eq_getElem (by rw [HN.out.2.1]; exact hlt)⟩
        obtain ⟨a, rfl, _, k0, k1, k2, k3, k4, k5, k6⟩ := HN.out.2.2.1.keep hb i x hx
        obtain ⟨d, rfl, _, e0, e1, e2, e3, e4, e5, e6⟩ := HN.out.2.2.2.1.keep hb i y hy
        have d1 : (i : Int) < (N : Int) := by omega
        have wi : IntKind.i64.wrap ((i : Int) + 1) = ((i + 1 : Nat) : Int) := by rw [show ((i + 1 : Nat) : Int) = (i : Int) + 1 by omega]; exact IntWalk.i64_in _ ⟨by omega, by omega⟩
        have HB := hideS (And.intro hb (And.intro hsame (And.intro hx hy)))
        have hne := fun W => rn_neq x y W
        unfold Rn.val at hne
        clear hb hx hy hsame
        by_cases hxy : x = y
        · rw [decide_eq_true hxy] at hne
          go_wp2_with fail
          go_quiet (fail)
          go_wp2_with fail
          go_roundw
          case rel => exact ⟨i + 1, by first | rfl | simp, by omega, fun j hj => by
            by_cases e : j = i
            · rw [e, HB.out.2.2.1, HB.out.2.2.2, hxy]
            · exact HB.out.2.1 j (by omega), HB.out.1.trans ((below_dnS (Below.refl _ _) nq).mono HB.out.1.size)⟩
          case measure => simp [intOf]; omega
        · rw [decide_eq_false hxy] at hne
          go_wp2_with fail
          go_quiet (fail)
          go_wp2_with fail
          go_ret
          refine ⟨?_, HB.out.1.trans ((below_dnS (Below.refl _ _) nq).mono HB.out.1.size)⟩
          have : b = false := by
            rw [← HN.out.2.2.2.2]
            refine decide_eq_false fun e => hxy ?_
            have h1 := HB.out.2.2.1
            rw [e, HB.out.2.2.2] at h1
            exact (Option.some.inj h1).symm
          rw [this]
          rfl
      · have d1 : ¬ (i : Int) < (N : Int) := by omega
        have HB := hideS (And.intro hb hsame)
        clear hb hsame
        go_wp2_with fail
        go_ret
        refine ⟨?_, HB.out.1⟩
        have : b = true := by
          rw [← HN.out.2.2.2.2]
          refine decide_eq_true (List.ext_getElem? fun j => ?_)
          by_cases hj : j < i
          · exact HB.out.2 j hj
          · rw [List.getElem?_eq_none (by have := HN.out.1; omega), List.getElem?_eq_none (by have := HN.out.2.1; omega)]
        rw [this]
        rfl
  · have hb2 : b = false := by
      rw [← hb]
      exact decide_eq_false fun e => hlk (by rw [e])
    subst hb2
    have hlk1 : ¬ ((L.length : Int) = (K.length : Int)) := by omega
    have hlk2 : ((L.length : Int) == (K.length : Int)) = false := by simpa using hlk1
    have hlk3 : ((L.length : Int) != (K.length : Int)) = true := by simpa using hlk1
    clear h1 h2 hb
    generalize L.length = NL at *
    generalize K.length = NK at *
    go_enter Tryd.func33, Tryd.ntmps33
    go_wp2_with fail
    go_ret
    exact ⟨rfl, Below.refl _ _⟩
end Go.Proofs.YthonbeonjjhmlaaDoor

/- Looks of all signs by the reference; Same of both (P0705). -/
namespace Go.Proofs.YthonbeonjjhmlaaDoor
open Go.RowKit Go.Shelf
attribute [local go_sem] Oper.semAt_some

/-- The looks of so many signs by the reference. -/
def alls (D : List Sp) (n : Nat) : List At := (List.range n).map fun (k : Nat) => (rfoldA D (k : Int)).1
theorem alls_snoc (D : List Sp) (n : Nat) : alls D (n + 1) = alls D n ++ [(rfoldA D (n : Int)).1] := by simp [alls, List.range_succ]
theorem alls_len (D : List Sp) (n : Nat) : (alls D n).length = n := by simp [alls]
theorem chk_all {s : ByteArray} {D : List Sp} (h : chkT s D = 0) : (∀ x ∈ D, (0 ≤ x.fr ∧ x.fr < x.tt ∧ x.tt ≤ (signs s).length) ∧ 1 ≤ x.kd ∧ x.kd ≤ 5) ∧ ∀ x ∈ D, ∀ y ∈ D, ¬ crS x y := by
  have h0 := h
  obtain ⟨h1, h2⟩ := chkT_ok h
  unfold chkT at h
  rw [if_neg (by omega), if_neg (by omega)] at h
  by_cases k : allB D (signs s).length = true ∧ crB D = false
  · have hf : ∀ x ∈ D, (0 ≤ x.fr ∧ x.fr < x.tt ∧ x.tt ≤ (signs s).length) ∧ 1 ≤ x.kd ∧ x.kd ≤ 5 := fun x hx => by
      have k1 := List.all_eq_true.1 k.1 x hx
      unfold fitB at k1
      have k2 := of_decide_eq_true k1
      omega
    refine ⟨hf, fun x hx y hy hc => ?_⟩
    have := (crB_iff D (fun z hz => (hf z hz).1.2.1)).2 ⟨y, hy, x, hx, hc⟩
    rw [k.2] at this
    cases this
  · rw [if_neg k] at h; omega
theorem alls_seg {s : ByteArray} {D : List Sp} (h : chkT s D = 0) (n : Nat) : alls D n = seg (isort ltS D) 0 n := by
  obtain ⟨h1, h2⟩ := chk_all h
  unfold alls seg
  refine List.map_congr_left fun k _ => ?_
  rw [look_ref k D (fun x hx => (h1 x hx).2) h2, look_form, Int.zero_add]
theorem runs_seg {s : ByteArray} {D : List Sp} (h : chkT s D = 0) : runsM (signs s).length (isort ltS D) = rleL [] 0 (alls D (signs s).length) := by
  rw [alls_seg h, runs_rle _ _ (fun x hx => ((chk_all h).1 x ((isort_mem' ltS x D).1 hx)).1)]
/-- Are two texts alike? -/
def samB (s : ByteArray) (D : List Sp) (u : ByteArray) (E : List Sp) : Bool := decide (chkT s D = 0 ∧ chkT u E = 0 ∧ s = u ∧ alls D (signs s).length = alls E (signs u).length)
theorem sam_runs {s u : ByteArray} {D E : List Sp} (h1 : chkT s D = 0) (h2 : chkT u E = 0) : (runsM (signs s).length (isort ltS D) = runsM (signs u).length (isort ltS E)) ↔ alls D (signs s).length = alls E (signs u).length := by
  rw [runs_seg h1, runs_seg h2]
  exact ⟨fun h => rle_inj h, fun h => by rw [h]⟩
theorem infoAt : (Tryd.prog.info? 27).map (fun i => (i.zero, i.size, i.bytes)) = some (some (.agg #[.bool false, .bool false, .bool false, .bool false, .int .i64 0]), 5, 16) := by kernel_rfl
theorem cell_fiveS (w : World) (a b c d e : Value) (t : TypeId) : ∀ j u, [a, b, c, d, e][j]? = some u → (w.alloc (.cells #[a, b, c, d, e] t)).cell? ((⟨w.heap.size, 0, none⟩ : Addr).add j) = some u := by
  intro j u hj
  have e0 : (w.alloc (.cells #[a, b, c, d, e] t)).heap[w.heap.size]? = _ := World.alloc_heap_new w _
  match j, hj with
  | 0, hj | 1, hj | 2, hj | 3, hj | 4, hj =>
    simp at hj
    subst hj
    unfold World.cell?
    rw [addrS_block, e0]
    rfl
  | n + 5, hj => simp at hj
set_option maxRecDepth 100000 in
set_option maxHeartbeats 2000000 in
theorem rall_any (s : ByteArray) (D : List Sp) (oa : Option Addr) (ca : Nat) (hs : s.size ≤ 1048576) (hl : D.length ≤ 5000) (w : World) (hR : SpO w oa D) :
    Calls Tryd.prog 14 #[.agg #[.string s, .slice oa D.length ca]] w fun e w' => ∃ v, e = .returned v ∧ w'.ownsRow w.heap.size 27 5 v (signs s).length (flat5 (alls D (signs s).length)) ∧ Below w.heap.size w w' := by
  obtain ⟨i0, hi, hz0, hz1, hz2⟩ := info_parts infoAt
  have HCt := hideS (fun (W : World) => rcountR s hs W)
  have HLk := hideS (fun (W : World) (h : Below w.heap.size w W) (k : Nat) => rlooks_any s D oa ca k hl W (hR.keep h))
  obtain ⟨n, hn⟩ : ∃ n, (signs s).length = n := ⟨_, rfl⟩
  have hn4 := signs_le s
  obtain ⟨ND, hND⟩ : ∃ ND, D.length = ND := ⟨_, rfl⟩
  rw [hn] at HCt hn4 ⊢
  rw [hND] at HLk ⊢
  obtain ⟨PO, hPO⟩ : ∃ PO : Ending → World → Prop, PO = fun e w' => ∃ v, e = .returned v ∧ w'.ownsRow w.heap.size 27 5 v n (flat5 (alls D n)) ∧ Below w.heap.size w w' := ⟨_, rfl⟩
  rw [← hPO]
  have HPO := hideS hPO
  clear hn hND hPO hR
  go_enter Tryd.func14, Tryd.ntmps14
  go_wp2_with fail
  obtain ⟨W0, hW0⟩ : ∃ W0, w.alloc (.cells #[.string s, .slice oa ND ca] 24) = W0 := ⟨_, rfl⟩
  have t0 : Tx W0 w.heap.size (.string s) (.slice oa ND ca) := by rw [← hW0]; exact Tx.new w _ _
  have b0 : Below w.heap.size w W0 := by rw [← hW0]; exact bel1S _ _
  try rw [hW0]
  have H0 := hideS (And.intro t0 b0)
  clear hW0 t0 b0
  refine (HCt.out W0).mono ?_
  rintro e w1 ⟨rfl, b1⟩
  have H1 := hideS (And.intro (H0.out.1.keep b1) (bupS H0.out.2 b1))
  have hP1 : w.heap.size < w1.heap.size := H1.out.1.lt
  clear b1 H0 HCt
  go_wp2_with fail
  go_loopw [4, 5] (fun v iv wq => ∃ i : Nat, iv = .int .i64 (i : Nat) ∧ i ≤ n ∧ wq.ownsRow w1.heap.size 27 5 v i (flat5 (alls D i)) ∧ Below w1.heap.size w1 wq) (fun _ iv _ => n - (intOf iv).toNat)
  case atStart => exact ⟨0, rfl, Nat.zero_le _, World.ownsRow_nil _ _ _ _, Below.refl _ _⟩
  case round =>
    obtain ⟨i, rfl, hiN, hO, hb⟩ := hrel
    obtain ⟨wq, rfl⟩ : ∃ wq, wq = wr := ⟨_, rfl⟩
    by_cases hlt : i < n
    · have d1 : (i : Int) < (n : Int) := by omega
      have wi : IntKind.i64.wrap ((i : Int) + 1) = ((i + 1 : Nat) : Int) := by rw [show ((i + 1 : Nat) : Int) = (i : Int) + 1 by omega]; exact IntWalk.i64_in _ ⟨by omega, by omega⟩
      have tq := (H1.out.1.keep hb)
      obtain ⟨k0, k1, _, _⟩ := tq.cells
      have HL := hideS (HLk.out wq (bupS H1.out.2 hb) i)
      have hnx := alls_snoc D i
      obtain ⟨ra, hra⟩ : ∃ ra, (rfoldA D (i : Int)).1 = ra := ⟨_, rfl⟩
      rw [hra] at HL hnx
      obtain ⟨a0, a1, a2, a3, a4⟩ := ra
      unfold At.val at HL
      simp only at HL
      have HA := hideS (And.intro hO (And.intro hnx hb))
      clear hO hnx hb hra tq
      go_wp2_with fail
      refine HL.out.mono ?_
      rintro e V ⟨rfl, bV⟩
      have HGx := hideS (own_keepS HA.out.1 bV)
      have HBV := hideS (bupS HA.out.2.2 bV)
      have sx : w1.heap.size ≤ V.heap.size := Nat.le_trans HA.out.2.2.size bV.size
      clear bV HL k0 k1
      go_wp2_with (at_builtin; refine wpList_append_own _ rfl _ _ 40 rfl w1.heap.size 27 i0 (.agg #[.bool false, .bool false, .bool false, .bool false, .int .i64 0]) 5 16 Tryd.underlying40 hi hz0 hz1 hz2 rfl (by decide) _ _ _ rfl (HGx.out.alloc _) ⟨V.heap.size, 0, none⟩ 1 1 [.bool a0, .bool a1, .bool a2, .bool a3, .int .i64 a4] rfl rfl (cell_fiveS _ _ _ _ _ _ _) (fun u hu => by simp at hu; rcases hu with rfl | rfl | rfl | rfl | rfl <;> rfl) (by unfold maxLen; omega) (by omega) (by simp; omega) ?_; intro v' w3 hown' hgrow _; have hB3 : Below w1.heap.size w1 w3 := Below.grown (HBV.out.alloc sx (.cells #[.bool a0, .bool a1, .bool a2, .bool a3, .int .i64 a4] 27)) hgrow (by simp; omega) (fun j hj => (HGx.out.lt j hj).1); have H3 := hideS (And.intro hown' hB3); clear hown' hgrow hB3)
      go_roundw
      case rel => exact ⟨i + 1, by first | rfl | simp, by omega, by rw [HA.out.2.1, flat5_snoc]; exact H3.out.1, H3.out.2⟩
      case measure => simp [intOf]; omega
    · have d1 : ¬ (i : Int) < (n : Int) := by omega
      rw [show i = n by omega] at hO
      have HA := hideS (And.intro hO hb)
      clear hO hb
      go_wp2_with fail
      rw [HPO.out]
      exact ⟨_, rfl, own_fromS HA.out.1 H1.out.2.size, bupS H1.out.2 HA.out.2⟩
end Go.Proofs.YthonbeonjjhmlaaDoor

/- Same at every two texts, the program's and the reference's (P0705). -/
namespace Go.Proofs.YthonbeonjjhmlaaDoor
open Go.RowKit Go.Shelf
attribute [local go_sem] Oper.semAt_some

theorem ba_ne {s u : ByteArray} (h : ¬ s = u) : ¬ s.toList = u.toList := fun k => h (ByteArray.ext (Array.toList_inj.1 (by rw [← Lib.toList_data, ← Lib.toList_data]; exact k)))
/-- The answer of Runs in one form. -/
theorem run_form {w w' : World} {s : ByteArray} {D : List Sp} {e : Ending} (h : RunAns w s D e w') : Below w.heap.size w w' ∧ ∃ v, e = .returned (.tuple #[v, .int .i64 (chkT s D)]) ∧ (chkT s D = 0 → ∃ o c, v = .slice o (runsM (signs s).length (isort ltS D)).length c ∧ RnO w' o (runsM (signs s).length (isort ltS D))) := by
  refine ⟨h.1, ?_⟩
  rcases h.2 with ⟨h1, h2⟩ | ⟨h1, v, h2, h3⟩
  · exact ⟨_, h2, fun h => absurd h h1⟩
  · rw [h1]
    obtain ⟨o, c, e1, _, e2⟩ := rn_of_own h3
    exact ⟨v, h2, fun _ => ⟨o, c, e1, e2⟩⟩
theorem step_len (acc : List Rn) (f t : Int) (a : At) : (runStep acc f t a).length ≤ acc.length + 1 := by
  unfold runStep
  cases h : acc.getLast? with
  | none => simp
  | some r =>
    simp only
    split
    · simp
    · simp
theorem rle_len : ∀ (l : List At) (acc : List Rn) (i : Int), (rleL acc i l).length ≤ acc.length + l.length
  | [], acc, i => by simp [rleL]
  | a :: l, acc, i => by
    have h1 := rle_len l (runStep acc i (i + 1) a) (i + 1)
    have h2 := step_len acc i (i + 1) a
    show (rleL (runStep acc i (i + 1) a) (i + 1) l).length ≤ _
    rw [List.length_cons]
    omega
theorem sam_no {s u : ByteArray} {D E : List Sp} (h : ¬ (chkT s D = 0 ∧ chkT u E = 0 ∧ s = u)) : samB s D u E = false := decide_eq_false fun k => h ⟨k.1, k.2.1, k.2.2.1⟩
set_option maxRecDepth 100000 in
set_option maxHeartbeats 2000000 in
theorem same7_any (s u : ByteArray) (D E : List Sp) (oa ob : Option Addr) (ca cb : Nat) (hs : s.size ≤ 140737488355328) (hu : u.size ≤ 140737488355328) (hca : D.length ≤ ca ∧ ca ≤ maxLen) (hcb : E.length ≤ cb ∧ cb ≤ maxLen)
    (hna : oa = none → D = [] ∧ ca = 0) (hnb : ob = none → E = [] ∧ cb = 0) (w : World) (hRa : SpO w oa D) (hRb : SpO w ob E) :
    Calls Tryd.prog 17 #[.agg #[.string s, .slice oa D.length ca], .agg #[.string u, .slice ob E.length cb]] w fun e w' => e = .returned (.bool (samB s D u E)) ∧ Below w.heap.size w w' := by
  have HR1 := hideS (fun (W : World) (h : Below w.heap.size w W) => runs_any s D oa ca hs hca hna W (hRa.keep h))
  have HR2 := hideS (fun (W : World) (h : Below w.heap.size w W) => runs_any u E ob cb hu hcb hnb W (hRb.keep h))
  obtain ⟨c1, hc1⟩ : ∃ c, chkT s D = c := ⟨_, rfl⟩
  obtain ⟨c2, hc2⟩ : ∃ c, chkT u E = c := ⟨_, rfl⟩
  obtain ⟨ND, hND⟩ : ∃ ND, D.length = ND := ⟨_, rfl⟩
  obtain ⟨NE, hNE⟩ : ∃ NE, E.length = NE := ⟨_, rfl⟩
  obtain ⟨bb, hbb⟩ : ∃ b, samB s D u E = b := ⟨_, rfl⟩
  have HX := hideS (And.intro (And.intro hc1 hc2) (And.intro hND (And.intro hNE hbb)))
  rw [hbb, hND, hNE]
  rw [hND] at HR1
  rw [hNE] at HR2
  clear hRa hRb hna hnb hca hcb hc1 hc2 hND hNE hbb
  go_enter Tryd.func17, Tryd.ntmps17
  go_wp2_with fail
  obtain ⟨W0, hW0⟩ : ∃ W0, (w.alloc (.cells #[.string s, .slice oa ND ca] 24)).alloc (.cells #[.string u, .slice ob NE cb] 24) = W0 := ⟨_, rfl⟩
  have t0 : Tx W0 w.heap.size (.string s) (.slice oa ND ca) := by rw [← hW0]; exact (Tx.new w _ _).keep (bel1S _ _)
  have t1 : Tx W0 (w.heap.size + 1) (.string u) (.slice ob NE cb) := by
    rw [← hW0]
    have h9 := Tx.new (w.alloc (.cells #[.string s, .slice oa ND ca] 24)) (.string u) (.slice ob NE cb)
    rw [World.size_alloc] at h9
    exact h9
  have b0 : Below w.heap.size w W0 := by rw [← hW0]; exact bupS (bel1S _ _) (bel1S _ _)
  try rw [hW0]
  have H0 := hideS (And.intro t0 (And.intro t1 b0))
  clear hW0 t0 t1 b0
  refine (HR1.out W0 H0.out.2.2).mono ?_
  intro e w1 hans
  obtain ⟨b1, v1, rfl, hv1⟩ := run_form hans
  rw [HX.out.1.1] at hv1 ⊢
  have H1 := hideS (show Tx w1 w.heap.size (.string s) (.slice oa ND ca) ∧ Tx w1 (w.heap.size + 1) (.string u) (.slice ob NE cb) ∧ Below w.heap.size w w1 from ⟨H0.out.1.keep b1, H0.out.2.1.keep b1, bupS H0.out.2.2 b1⟩)
  have HV1 := hideS hv1
  clear b1 H0 HR1 hans hv1
  obtain ⟨k0, k1, _, _⟩ := H1.out.2.1.cells
  go_wp2_with fail
  refine (HR2.out w1 H1.out.2.2).mono ?_
  intro e w2 hans
  obtain ⟨b2, v2, rfl, hv2⟩ := run_form hans
  rw [HX.out.1.2] at hv2 ⊢
  have H2 := hideS (show Tx w2 w.heap.size (.string s) (.slice oa ND ca) ∧ Tx w2 (w.heap.size + 1) (.string u) (.slice ob NE cb) ∧ Below w.heap.size w w2 from ⟨H1.out.1.keep b2, H1.out.2.1.keep b2, bupS H1.out.2.2 b2⟩)
  have HV2 := hideS hv2
  have HB2 := hideS b2
  clear b2 H1 HR2 hans hv2 k0 k1
  by_cases e1 : c1 = 0
  · have e1b : (c1 == 0) = true := by simpa using e1
    by_cases e2 : c2 = 0
    · have e2b : (c2 == 0) = true := by simpa using e2
      obtain ⟨o1, p1, rfl, r1⟩ := HV1.out e1
      obtain ⟨o2, p2, rfl, r2⟩ := HV2.out e2
      have r1 := r1.keep HB2.out
      obtain ⟨k0, k1, _, _⟩ := H2.out.1.cells
      obtain ⟨k2, k3, _, _⟩ := H2.out.2.1.cells
      by_cases hsu : s = u
      · have hh1 : chkT s D = 0 := HX.out.1.1.trans e1
        have hh2 : chkT u E = 0 := HX.out.1.2.trans e2
        have hlen : (runsM (signs s).length (isort ltS D)).length ≤ 1048576 := by
          rw [runs_seg hh1]
          have h1 := rle_len (alls D (signs s).length) [] 0
          rw [alls_len] at h1
          have h2 := signs_le s
          have h3 := (chkT_ok hh1).1
          simp at h1
          omega
        have HEq := hideS (requal_any _ _ o1 o2 p1 p2 hlen w2 r1 r2)
        have hfin : decide (runsM (signs s).length (isort ltS D) = runsM (signs u).length (isort ltS E)) = bb := by
          rw [← HX.out.2.2.2]
          unfold samB
          rw [decide_eq_decide]
          exact ⟨fun h => ⟨hh1, hh2, hsu, (sam_runs hh1 hh2).1 h⟩, fun h => (sam_runs hh1 hh2).2 h.2.2.2⟩
        rw [hfin] at HEq
        clear r1 r2 hfin hlen hh1 hh2 HV1 HV2
        generalize (runsM (signs s).length (isort ltS D)).length = L1 at *
        generalize (runsM (signs u).length (isort ltS E)).length = L2 at *
        subst hsu
        go_wp2_with fail
        refine HEq.out.mono ?_
        rintro e w3 ⟨rfl, b3⟩
        have H3 := hideS (bupS H2.out.2.2 b3)
        clear b3 HEq
        go_wp2_with fail
        go_ret
        exact ⟨rfl, H3.out⟩
      · have hbf : bb = false := by rw [← HX.out.2.2.2]; exact sam_no (fun h => hsu h.2.2)
        subst hbf
        have hq : ¬ s.toList = u.toList := ba_ne hsu
        clear r1 r2 HV1 HV2
        go_wp2_with fail
        go_ret
        exact ⟨rfl, H2.out.2.2⟩
    · have e2b : (c2 == 0) = false := by simpa using e2
      have hbf : bb = false := by rw [← HX.out.2.2.2]; exact sam_no (fun h => e2 (HX.out.1.2.symm.trans h.2.1))
      subst hbf
      go_wp2_with fail
      go_ret
      exact ⟨rfl, H2.out.2.2⟩
  · have e1b : (c1 == 0) = false := by simpa using e1
    have hbf : bb = false := by rw [← HX.out.2.2.2]; exact sam_no (fun h => e1 (HX.out.1.1.symm.trans h.1))
    subst hbf
    go_wp2_with fail
    go_ret
    exact ⟨rfl, H2.out.2.2⟩
set_option maxRecDepth 100000 in
set_option maxHeartbeats 2000000 in
theorem rsame7_any (s u : ByteArray) (D E : List Sp) (oa ob : Option Addr) (ca cb : Nat) (w : World) (hRa : SpO w oa D) (hRb : SpO w ob E) :
    Calls Tryd.prog 18 #[.agg #[.string s, .slice oa D.length ca], .agg #[.string u, .slice ob E.length cb]] w fun e w' => e = .returned (.bool (samB s D u E)) ∧ Below w.heap.size w w' := by
  have HC1 := hideS (fun (W : World) (h : Below w.heap.size w W) => rcheck_any s D oa ca W (hRa.keep h))
  have HC2 := hideS (fun (W : World) (h : Below w.heap.size w W) => rcheck_any u E ob cb W (hRb.keep h))
  have HA1 := hideS (fun (h1 : s.size ≤ 1048576) (h2 : D.length ≤ 5000) (W : World) (h : Below w.heap.size w W) => rall_any s D oa ca h1 h2 W (hRa.keep h))
  have HA2 := hideS (fun (h1 : u.size ≤ 1048576) (h2 : E.length ≤ 5000) (W : World) (h : Below w.heap.size w W) => rall_any u E ob cb h1 h2 W (hRb.keep h))
  obtain ⟨c1, hc1⟩ : ∃ c, chkT s D = c := ⟨_, rfl⟩
  obtain ⟨c2, hc2⟩ : ∃ c, chkT u E = c := ⟨_, rfl⟩
  obtain ⟨ND, hND⟩ : ∃ ND, D.length = ND := ⟨_, rfl⟩
  obtain ⟨NE, hNE⟩ : ∃ NE, E.length = NE := ⟨_, rfl⟩
  obtain ⟨bb, hbb⟩ : ∃ b, samB s D u E = b := ⟨_, rfl⟩
  have HX := hideS (And.intro (And.intro hc1 hc2) (And.intro hND (And.intro hNE hbb)))
  rw [hbb, hND, hNE]
  rw [hc1, hND] at HC1
  rw [hc2, hNE] at HC2
  rw [hND] at HA1
  rw [hNE] at HA2
  clear hRa hRb hc1 hc2 hND hNE hbb
  go_enter Tryd.func18, Tryd.ntmps18
  go_wp2_with fail
  obtain ⟨W0, hW0⟩ : ∃ W0, (w.alloc (.cells #[.string s, .slice oa ND ca] 24)).alloc (.cells #[.string u, .slice ob NE cb] 24) = W0 := ⟨_, rfl⟩
  have t0 : Tx W0 w.heap.size (.string s) (.slice oa ND ca) := by rw [← hW0]; exact (Tx.new w _ _).keep (bel1S _ _)
  have t1 : Tx W0 (w.heap.size + 1) (.string u) (.slice ob NE cb) := by
    rw [← hW0]
    have h9 := Tx.new (w.alloc (.cells #[.string s, .slice oa ND ca] 24)) (.string u) (.slice ob NE cb)
    rw [World.size_alloc] at h9
    exact h9
  have b0 : Below w.heap.size w W0 := by rw [← hW0]; exact bupS (bel1S _ _) (bel1S _ _)
  try rw [hW0]
  have H0 := hideS (And.intro t0 (And.intro t1 b0))
  clear hW0 t0 t1 b0
  refine (HC1.out W0 H0.out.2.2).mono ?_
  rintro e w1 ⟨rfl, b1⟩
  have H1 := hideS (show Tx w1 w.heap.size (.string s) (.slice oa ND ca) ∧ Tx w1 (w.heap.size + 1) (.string u) (.slice ob NE cb) ∧ Below w.heap.size w w1 from ⟨H0.out.1.keep b1, H0.out.2.1.keep b1, bupS H0.out.2.2 b1⟩)
  clear b1 H0 HC1
  by_cases e1 : c1 = 0
  · have e1b : (c1 != 0) = false := by simpa using e1
    obtain ⟨k2, k3, _, _⟩ := H1.out.2.1.cells
    go_wp2_with fail
    refine (HC2.out w1 H1.out.2.2).mono ?_
    rintro e w2 ⟨rfl, b2⟩
    have H2 := hideS (show Tx w2 w.heap.size (.string s) (.slice oa ND ca) ∧ Tx w2 (w.heap.size + 1) (.string u) (.slice ob NE cb) ∧ Below w.heap.size w w2 from ⟨H1.out.1.keep b2, H1.out.2.1.keep b2, bupS H1.out.2.2 b2⟩)
    clear b2 H1 HC2 k2 k3
    by_cases e2 : c2 = 0
    · have e2b : (c2 != 0) = false := by simpa using e2
      obtain ⟨k0, k1, _, _⟩ := H2.out.1.cells
      obtain ⟨k2, k3, _, _⟩ := H2.out.2.1.cells
      by_cases hsu : s = u
      · have hh1 : chkT s D = 0 := HX.out.1.1.trans e1
        have hh2 : chkT u E = 0 := HX.out.1.2.trans e2
        have hk1 := chkT_ok hh1
        have hk2 := chkT_ok hh2
        have hl1 := HX.out.2.1
        have hl2 := HX.out.2.2.1
        have hA1 := HA1.out (by omega) (by omega)
        have hA2 := HA2.out (by omega) (by omega)
        have hfin : decide (alls D (signs s).length = alls E (signs u).length) = bb := by
          rw [← HX.out.2.2.2]
          unfold samB
          rw [decide_eq_decide]
          exact ⟨fun h => ⟨hh1, hh2, hsu, h⟩, fun h => h.2.2.2⟩
        subst hsu
        have hn4 := signs_le s
        obtain ⟨n, hn⟩ : ∃ n, (signs s).length = n := ⟨_, rfl⟩
        rw [hn] at hA1 hA2 hfin hn4
        have HF := hideS hfin
        have HA1 := hideS hA1
        have HA2 := hideS hA2
        clear hA1 hA2 hfin hh1 hh2 hn
        go_wp2_with fail
        refine (HA1.out w2 H2.out.2.2).mono ?_
        rintro e w3 ⟨v3, rfl, own3, b3⟩
        have H3 := hideS (show Tx w3 (w.heap.size + 1) (.string s) (.slice ob NE cb) ∧ Below w.heap.size w w3 from ⟨H2.out.2.1.keep b3, bupS H2.out.2.2 b3⟩)
        obtain ⟨o3, p3, rfl, hp3, hr3⟩ := at_of_own own3
        have HR3 := hideS hr3
        clear b3 own3 hr3 k0 k1 k2 k3 H2 HA1
        obtain ⟨k2, k3, _, _⟩ := H3.out.1.cells
        go_wp2_with fail
        refine (HA2.out w3 H3.out.2).mono ?_
        rintro e w4 ⟨v4, rfl, own4, b4⟩
        obtain ⟨o4, p4, rfl, hp4, hr4⟩ := at_of_own own4
        have H4 := hideS (And.intro (bupS H3.out.2 b4) (And.intro (HR3.out.keep b4) hr4))
        clear b4 own4 hr4 k2 k3 H3 HA2 HR3
        have hgd := at_guard
        have hcm : p3 ≤ 9223372036854775807 := hp3.2
        go_wp2_with fail
        go_loopw [7] (fun iv wq => ∃ i : Nat, iv = .int .i64 (i : Nat) ∧ i ≤ n ∧ (∀ j, j < i → (alls D n)[j]? = (alls E n)[j]?) ∧ Below w4.heap.size w4 wq) (fun iv _ => n - (intOf iv).toNat)
        case atStart => exact ⟨0, rfl, Nat.zero_le _, fun j hj => absurd hj (by omega), Below.refl _ _⟩
        case round =>
          obtain ⟨i, rfl, hiN, hsame, hb⟩ := hrel
          obtain ⟨wq, rfl⟩ : ∃ wq, wq = wr := ⟨_, rfl⟩
          by_cases hlt : i < n
          · obtain ⟨x, hx⟩ : ∃ x, (alls D n)[i]? = some x := ⟨_, List.getElem?_eq_getElem (by rw [alls_len]; exact hlt)⟩
            obtain ⟨y, hy⟩ : ∃ y, (alls E n)[i]? = some y := ⟨_, List.getElem?_eq_getElem (by rw [alls_len]; exact hlt)⟩
            obtain ⟨a, rfl, _, k0, k1, k2, k3, k4⟩ := H4.out.2.1.keep hb i x hx
            obtain ⟨d, rfl, _, f0, f1, f2, f3, f4⟩ := H4.out.2.2.keep hb i y hy
            have d1 : (i : Int) < (n : Int) := by omega
            have wi : IntKind.i64.wrap ((i : Int) + 1) = ((i + 1 : Nat) : Int) := by rw [show ((i + 1 : Nat) : Int) = (i : Int) + 1 by omega]; exact IntWalk.i64_in _ ⟨by omega, by omega⟩
            have HB := hideS (And.intro hb (And.intro hsame (And.intro hx hy)))
            have hne := fun W => at_neq x y W
            unfold At.val at hne
            clear hb hx hy hsame
            by_cases hxy : x = y
            · rw [decide_eq_true hxy] at hne
              go_wp2_with fail
              go_quiet (fail)
              go_wp2_with fail
              go_roundw
              case rel => exact ⟨i + 1, by first | rfl | simp, by omega, fun j hj => by
                by_cases e : j = i
                · rw [e, HB.out.2.2.1, HB.out.2.2.2, hxy]
                · exact HB.out.2.1 j (by omega), HB.out.1.trans ((below_dnS (Below.refl _ _) nq).mono HB.out.1.size)⟩
              case measure => simp [intOf]; omega
            · rw [decide_eq_false hxy] at hne
              go_wp2_with fail
              go_quiet (fail)
              go_wp2_with fail
              go_ret
              refine ⟨?_, bupS H4.out.1 (HB.out.1.trans ((below_dnS (Below.refl _ _) nq).mono HB.out.1.size))⟩
              have : bb = false := by
                rw [← HF.out]
                refine decide_eq_false fun e => hxy ?_
                have h1 := HB.out.2.2.1
                rw [e, HB.out.2.2.2] at h1
                exact (Option.some.inj h1).symm
              rw [this]
              rfl
          · have d1 : ¬ (i : Int) < (n : Int) := by omega
            have HB := hideS (And.intro hb hsame)
            clear hb hsame
            go_wp2_with fail
            go_ret
            refine ⟨?_, bupS H4.out.1 HB.out.1⟩
            have : bb = true := by
              rw [← HF.out]
              refine decide_eq_true (List.ext_getElem? fun j => ?_)
              by_cases hj : j < i
              · exact HB.out.2 j hj
              · rw [List.getElem?_eq_none (by rw [alls_len]; omega), List.getElem?_eq_none (by rw [alls_len]; omega)]
            rw [this]
            rfl
      · have hbf : bb = false := by rw [← HX.out.2.2.2]; exact sam_no (fun h => hsu h.2.2)
        subst hbf
        have hq : ¬ s.toList = u.toList := ba_ne hsu
        have hq2 : (s.toList == u.toList) = false := by simpa using hq
        go_wp2_with fail
        go_ret
        exact ⟨rfl, H2.out.2.2⟩
    · have e2b : (c2 != 0) = true := by simpa using e2
      have hbf : bb = false := by rw [← HX.out.2.2.2]; exact sam_no (fun h => e2 (HX.out.1.2.symm.trans h.2.1))
      subst hbf
      go_wp2_with fail
      go_ret
      exact ⟨rfl, H2.out.2.2⟩
  · have e1b : (c1 != 0) = true := by simpa using e1
    have hbf : bb = false := by rw [← HX.out.2.2.2]; exact sam_no (fun h => e1 (HX.out.1.1.symm.trans h.1))
    subst hbf
    go_wp2_with fail
    go_ret
    exact ⟨rfl, H1.out.2.2⟩
end Go.Proofs.YthonbeonjjhmlaaDoor

/- StyleSames holds of every two texts (P0705): the walk. -/
namespace Go.Proofs.YthonbeonjjhmlaaDoor
open Go.RowKit Go.Shelf
attribute [local go_sem] Oper.semAt_some

theorem sam_self (s : ByteArray) (D : List Sp) : samB s D s D = decide (chkT s D = 0) := by
  unfold samB
  rw [decide_eq_decide]
  exact ⟨fun h => h.1, fun h => ⟨h, h, rfl, rfl⟩⟩
set_option maxRecDepth 100000 in
set_option maxHeartbeats 2000000 in
theorem ssames_walk (s u : ByteArray) (D E : List Sp) (oa ob : Option Addr) (ca cb : Nat) (hs : s.size ≤ 140737488355328) (hu : u.size ≤ 140737488355328) (hca : D.length ≤ ca ∧ ca ≤ maxLen) (hcb : E.length ≤ cb ∧ cb ≤ maxLen)
    (hna : oa = none → D = [] ∧ ca = 0) (hnb : ob = none → E = [] ∧ cb = 0) (w : World) (hw : 2 ≤ w.heap.size) (hT : Lib.Utf8Tabs 0 1 w) (hRa : SpO w oa D) (hRb : SpO w ob E) :
    Calls Tryd.prog 4 #[.agg #[.string s, .slice oa D.length ca], .agg #[.string u, .slice ob E.length cb]] w fun e w' => e = .returned (.bool true) ∧ Below w.heap.size w w' := by
  have HS1 := hideS (fun (W : World) (h : Below w.heap.size w W) => same7_any s u D E oa ob ca cb hs hu hca hcb hna hnb W (hRa.keep h) (hRb.keep h))
  have HS2 := hideS (fun (W : World) (h : Below w.heap.size w W) => rsame7_any s u D E oa ob ca cb W (hRa.keep h) (hRb.keep h))
  have HS3 := hideS (fun (W : World) (h : Below w.heap.size w W) => same7_any s s D D oa oa ca ca hs hs hca hca hna hna W (hRa.keep h) (hRa.keep h))
  have HC := hideS (fun (W : World) (h : Below w.heap.size w W) => rcheck_any s D oa ca W (hRa.keep h))
  have HH := hideS (fun (W : World) (h : Below w.heap.size w W) => head7 W (Nat.le_trans hw h.size) (tabs_below hw hT h))
  rw [sam_self] at HS3
  obtain ⟨b1, hb1⟩ : ∃ b, samB s D u E = b := ⟨_, rfl⟩
  obtain ⟨c1, hc1⟩ : ∃ c, chkT s D = c := ⟨_, rfl⟩
  obtain ⟨b2, hb2⟩ : ∃ b, decide (c1 = 0) = b := ⟨_, rfl⟩
  obtain ⟨ND, hND⟩ : ∃ ND, D.length = ND := ⟨_, rfl⟩
  obtain ⟨NE, hNE⟩ : ∃ NE, E.length = NE := ⟨_, rfl⟩
  rw [hb1, hND, hNE] at HS1 HS2
  rw [hc1, hb2, hND] at HS3
  rw [hc1, hND] at HC
  rw [hND, hNE]
  have hbc : (c1 == 0) = b2 := by rw [← hb2]; rfl
  have hbe : (b1 == b1) = true := by simp
  have hbf : (b2 == b2) = true := by simp
  clear hRa hRb hna hnb hca hcb hb1 hc1 hb2 hND hNE hT
  go_enter Tryd.func4, Tryd.ntmps4
  go_upto_region 1 with fail
  obtain ⟨W0, hW0⟩ : ∃ W0, (w.alloc (.cells #[.string s, .slice oa ND ca] 24)).alloc (.cells #[.string u, .slice ob NE cb] 24) = W0 := ⟨_, rfl⟩
  have t0 : Tx W0 w.heap.size (.string s) (.slice oa ND ca) := by rw [← hW0]; exact (Tx.new w _ _).keep (bel1S _ _)
  have t1 : Tx W0 (w.heap.size + 1) (.string u) (.slice ob NE cb) := by
    rw [← hW0]
    have h9 := Tx.new (w.alloc (.cells #[.string s, .slice oa ND ca] 24)) (.string u) (.slice ob NE cb)
    rw [World.size_alloc] at h9
    exact h9
  have b0 : Below w.heap.size w W0 := by rw [← hW0]; exact bupS (bel1S _ _) (bel1S _ _)
  try rw [hW0]
  clear hW0
  have u0 : ∀ q : GrownQ W0, q.V.cell? ⟨w.heap.size, 0, none⟩ = some (.string s) := fun q => (q.h.cell (p := ⟨w.heap.size, 0, none⟩) t0.lt).trans t0.cells.1
  have u1 : ∀ q : GrownQ W0, q.V.cell? ⟨w.heap.size, 1, none⟩ = some (.slice oa ND ca) := fun q => (q.h.cell (p := ⟨w.heap.size, 1, none⟩) t0.lt).trans t0.cells.2.1
  have u2 : ∀ q : GrownQ W0, q.V.cell? ⟨w.heap.size + 1, 0, none⟩ = some (.string u) := fun q => (q.h.cell (p := ⟨w.heap.size + 1, 0, none⟩) t1.lt).trans t1.cells.1
  have u3 : ∀ q : GrownQ W0, q.V.cell? ⟨w.heap.size + 1, 1, none⟩ = some (.slice ob NE cb) := fun q => (q.h.cell (p := ⟨w.heap.size + 1, 1, none⟩) t1.lt).trans t1.cells.2.1
  have H0 := hideS b0
  clear t0 t1 b0
  cases b1 <;> cases b2 <;>
  · refine region_grown W0 W0 (by kernel_rfl) (by kernel_rfl) (Below.refl _ _) ?_
    repeat (go_big_quiet_step (first
      | (go_at_call 17; rename_i q; first
        | ((with_reducible refine (HS1.out _ (bupS H0.out q.h)).mono ?_); rintro e V1 ⟨rfl, h1⟩; exact ⟨rfl, ⟨V1, q.h.trans (h1.mono q.h.size)⟩, rfl⟩)
        | ((with_reducible refine (HS3.out _ (bupS H0.out q.h)).mono ?_); rintro e V1 ⟨rfl, h1⟩; exact ⟨rfl, ⟨V1, q.h.trans (h1.mono q.h.size)⟩, rfl⟩))
      | (go_at_call 18; rename_i q; (with_reducible refine (HS2.out _ (bupS H0.out q.h)).mono ?_); rintro e V1 ⟨rfl, h1⟩; exact ⟨rfl, ⟨V1, q.h.trans (h1.mono q.h.size)⟩, rfl⟩)
      | (go_at_call 19; rename_i q; (with_reducible refine (HC.out _ (bupS H0.out q.h)).mono ?_); rintro e V1 ⟨rfl, h1⟩; exact ⟨rfl, ⟨V1, q.h.trans (h1.mono q.h.size)⟩, rfl⟩)
      | (go_at_call 13; rename_i q; (with_reducible refine (HH.out _ (bupS H0.out q.h)).mono ?_); rintro e V1 ⟨rfl, h1⟩; exact ⟨rfl, ⟨V1, q.h.trans (h1.mono q.h.size)⟩, rfl⟩)))
    refine wpQuiet_nil ?_
    rintro W3 ⟨⟨V3, hb3⟩, hv3⟩
    have hv3 : W3 = V3 := hv3
    subst hv3
    have H5 := hideS (bupS H0.out hb3)
    clear hv3 hb3 u0 u1 u2 u3
    go_wp2_with fail
    go_ret
    exact ⟨rfl, H5.out⟩
end Go.Proofs.YthonbeonjjhmlaaDoor

/- A text with spans that is handed in, opened (chapter 7). -/
namespace Go.Proofs.YthonbeonjjhmlaaDoor
open Go.ChangeShapes Go.WideShapes Go.ChangeAt Go.RowKit Go.Joins

instance : Inhabited Sp := ⟨⟨0, 0, 0, 0⟩⟩
theorem cellsTx : Tryd.prog.cellsOf 24 = 2 := by kernel_rfl
theorem cellsSp : Tryd.prog.cellsOf 55 = 4 := by kernel_rfl
theorem bytesSp : Tryd.prog.bytesOf 55 = 32 := by kernel_rfl
theorem addrS_zero (a : Addr) : a.add 0 = a := by unfold Addr.add; rw [if_pos rfl]
theorem addrS_succ (a : Addr) (j : Nat) : a.add (j + 1) = ⟨a.block, a.off + (j + 1), none⟩ := by unfold Addr.add; rw [if_neg (by omega)]
set_option maxRecDepth 100000 in
theorem open_sp {H : Type} {enc : TypeId × Value → H} {W : World} {base : Nat} {spare : Nat → Bool} {held : Bool} {fuel : Nat} {v : Value} {x : DataW H × List MemPlace}
    (h : DataW.trod enc Tryd.prog W base spare held fuel 22 [v] = some x) :
    ∃ (D : List Sp) (o : Option Addr) (cap : Nat), v = .slice o D.length cap ∧ (D.length ≤ cap ∧ cap ≤ maxLen) ∧ (o = none → D = [] ∧ cap = 0) ∧ SpO W o D ∧
      ((x.1 = .nil ∧ D = []) ∨ ∃ el sp, x.1 = .slice el sp ∧ el.length = D.length) := by
  rcases Deep.open_slice Tryd.underlying22 h with ⟨hcs, hx⟩ | ⟨a, len, cap, m, n, E, Pl, hcs, hb, hl, hm, hmm, hx, hel⟩
  · simp at hcs
    subst hcs
    exact ⟨[], none, 0, rfl, ⟨by simp, by decide⟩, fun _ => ⟨rfl, rfl⟩, SpO.nil W none, .inl ⟨by rw [hx], rfl⟩⟩
  · simp at hcs
    subst hcs
    have hlm : len ≤ m := by rw [hmm]; split <;> omega
    have key : ∀ i, i < len → ∃ q : Sp, a.block < W.heap.size ∧
        W.cell? (a.add (i * 4)) = some (.int .i64 q.fr) ∧ W.cell? ⟨(a.add (i * 4)).block, (a.add (i * 4)).off + 1, none⟩ = some (.int .i64 q.tt) ∧ W.cell? ⟨(a.add (i * 4)).block, (a.add (i * 4)).off + 2, none⟩ = some (.int .i64 q.kd) ∧ W.cell? ⟨(a.add (i * 4)).block, (a.add (i * 4)).off + 3, none⟩ = some (.int .i64 q.vl) := by
      intro i hi
      obtain ⟨cs', h1, h2⟩ := hel i (by omega)
      rw [cellsSp] at h1
      have hbl := World.cells?_block h1 (by decide)
      rw [addrS_block] at hbl
      obtain ⟨_, hlen, hcell⟩ := World.cells?_some h1
      match cs', hlen with
      | [v0, v1, v2, v3], _ =>
        obtain ⟨y0, y1, y2, y3, k, _, _, t0, t1, t2, t3⟩ := trod_struct4 Tryd.underlying55 h2
        obtain ⟨k0, a0, _, w0⟩ := DataW.trod_int Tryd.underlying3 t0
        obtain ⟨k1, a1, _, w1⟩ := DataW.trod_int Tryd.underlying3 t1
        obtain ⟨k2, a2, _, w2⟩ := DataW.trod_int Tryd.underlying3 t2
        obtain ⟨k3, a3, _, w3⟩ := DataW.trod_int Tryd.underlying3 t3
        have c3 : Tryd.prog.cellsOf 3 = 1 := by kernel_rfl
        simp [c3] at a0 a1 a2 a3
        subst a0 a1 a2 a3
        have e0 := hcell 0 (by omega)
        have e1 := hcell 1 (by omega)
        have e2 := hcell 2 (by omega)
        have e3 := hcell 3 (by omega)
        rw [addrS_zero] at e0
        rw [addrS_succ] at e1 e2 e3
        exact ⟨⟨k0, k1, k2, k3⟩, hbl, e0, e1, e2, e3⟩
    obtain ⟨q, hq⟩ := Deep.choose_lt key
    refine ⟨(List.range len).map q, some a, cap, by simp, ⟨by simpa using hl, hm⟩, (fun e => nomatch e), fun i r hr => ?_, .inr ⟨_, _, by rw [hx], by simp⟩⟩
    have hi : i < len := by
      have := (List.getElem?_eq_some_iff.1 hr).1
      simpa using this
    have er : r = q i := by
      rw [List.getElem?_map, List.getElem?_range hi] at hr
      simpa using hr.symm
    rw [er]
    exact ⟨a, rfl, hq i hi⟩
set_option maxRecDepth 100000 in
theorem open_text {H : Type} {enc : TypeId × Value → H} {W : World} {r : Reach} {b0 base : Nat} {spare : Nat → Bool} {held : Bool} {v : Value} {d : DataW H} {p : List MemPlace}
    (hv : Value.okWide Tryd.prog W r b0 24 v) (h : DataW.Trod enc Tryd.prog W base spare held 24 v d p)
    (hsz : (DataW.weights Tryd.prog 24 d).all (· ≤ reachBytes) = true) :
    ∃ (s : ByteArray) (D : List Sp) (o : Option Addr) (cap : Nat), v = .agg #[.string s, .slice o D.length cap] ∧ (D.length ≤ cap ∧ cap ≤ maxLen) ∧ (o = none → D = [] ∧ cap = 0) ∧ SpO W o D ∧ s.size ≤ 140737488355328 ∧ D.length ≤ 4398046510976 := by
  obtain ⟨c0, c1, y0, y1, m, rfl, rfl, rfl, hy0, hy1⟩ := open_agg2 Tryd.underlying24 (by kernel_rfl) cellsTx hv h
  obtain ⟨s, e0, rfl, _⟩ := DataW.trod_string Tryd.underlying9 hy0
  simp at e0
  subst e0
  obtain ⟨D, o, cap, rfl, hc, hn, hR, hd⟩ := open_sp hy1
  have hu : Tryd.prog.underlying 24 = _ := Tryd.underlying24
  unfold DataW.weights at hsz
  rw [hu] at hsz
  simp only [List.map_cons, List.map_nil, DataW.weightsEach, List.all_append, Bool.and_eq_true, List.append_nil, reachBytes] at hsz
  obtain ⟨hs0, hs1⟩ := hsz
  refine ⟨s, D, o, cap, rfl, hc, hn, hR, ?_, ?_⟩
  · simp only [DataW.weights, List.all_cons, Bool.and_eq_true] at hs0
    have h1 := of_decide_eq_true (by first | exact hs0 | exact hs0.1 : decide _ = true)
    rw [Lib.size_eq]
    omega
  · rcases hd with ⟨_, rfl⟩ | ⟨el, sp, e, hl⟩
    · simp
    · rw [e] at hs1
      unfold DataW.weights at hs1
      have hv2 : Tryd.prog.underlying 22 = _ := Tryd.underlying22
      rw [hv2] at hs1
      simp only [List.all_cons, Bool.and_eq_true, bytesSp] at hs1
      have h1 := of_decide_eq_true hs1.1
      omega
end Go.Proofs.YthonbeonjjhmlaaDoor
