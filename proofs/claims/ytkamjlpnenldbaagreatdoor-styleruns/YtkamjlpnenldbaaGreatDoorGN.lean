/- Several texts, one behind the other. -/
import Derived.Shelf.SlSortCmp.WholeK
import Derived.Shelf.SlSortCmp.NoneTotal
import Derived.Deep.CutBlock
import Derived.Laws.OwnMore
import Derived.Lib.SmallJoins
import Derived.Deep.Slices
import Derived.ChangeOld
import Derived.ShutString
import Derived.DataShut
import Derived.Test.YtkamjlpnenldbaaGreatDoorGH
import Derived.Test.YtkamjlpnenldbaaGreatDoorGL
import Derived.Test.YtkamjlpnenldbaaGreatDoorProg
import Derived.Test.YtkamjlpnenldbaaGreatDoorSoB
import Derived.Test.YtkamjlpnenldbaaGreatDoorSpA
import Derived.Test.YtkamjlpnenldbaaGreatDoorSpB
import Derived.Test.YtkamjlpnenldbaaGreatDoorSpE
import Derived.Test.YtkamjlpnenldbaaGreatDoorSpJ
/- The spans of a normal form (P0704), as mathematics: runs, and signs. -/
namespace Go.Proofs.YtkamjlpnenldbaaGreatDoor
open Go.RowKit Go.Shelf

/-- What a look has of a kind: nothing, 0; a colour, one more than its value. -/
def hasK (a : At) (k : Int) : Int := if k = 1 then (if a.b then 1 else 0) else if k = 2 then (if a.i then 1 else 0) else if k = 3 then (if a.u then 1 else 0) else if k = 4 then (if a.s then 1 else 0) else a.c
def valK (a : At) (k : Int) : Int := if k = 5 then a.c - 1 else 0
theorem has_val {a b : At} {k : Int} (hk : 1 ≤ k ∧ k ≤ 5) (ha : 0 < hasK a k) (hb : 0 < hasK b k) (h : valK a k = valK b k) : hasK a k = hasK b k := by
  unfold hasK valK at *
  by_cases h5 : k = 5
  · subst h5
    simp at *
    omega
  · rw [if_neg h5] at h
    by_cases h1 : k = 1
    · subst h1
      simp only [if_true] at *
      cases hA : a.b <;> cases hB : b.b <;> simp_all
    by_cases h2 : k = 2
    · subst h2
      simp only [if_true] at *
      cases hA : a.i <;> cases hB : b.i <;> simp_all
    by_cases h3 : k = 3
    · subst h3
      simp only [if_true] at *
      cases hA : a.u <;> cases hB : b.u <;> simp_all
    by_cases h4 : k = 4
    · subst h4
      simp only [if_true] at *
      cases hA : a.s <;> cases hB : b.s <;> simp_all
    omega
/-- Does a span begin or end there? -/
def cutB (C : List Sp) (p : Int) : Bool := C.any fun x => decide (x.fr = p) || decide (x.tt = p)
theorem cutB_iff (C : List Sp) (p : Int) : cutB C p = true ↔ ∃ x ∈ C, x.fr = p ∨ x.tt = p := by simp [cutB]
theorem cutB_app (C D : List Sp) (p : Int) : cutB (C ++ D) p = (cutB C p || cutB D p) := by simp [cutB]
/-- A stretch of a kind, by one more run. -/
def strStep (k : Int) (C : List Sp) (acc : List Sp) (r : Rn) : List Sp :=
  if 0 < hasK r.a k then
    match acc.getLast? with
    | some x => if x.tt = r.fr ∧ x.vl = valK r.a k ∧ cutB C r.fr = false then acc.dropLast ++ [⟨x.fr, r.tt, x.kd, x.vl⟩] else acc ++ [⟨r.fr, r.tt, k, valK r.a k⟩]
    | none => acc ++ [⟨r.fr, r.tt, k, valK r.a k⟩]
  else acc
def strM (k : Int) (C : List Sp) (L : List Rn) : List Sp := L.foldl (strStep k C) []
theorem strM_snoc (k : Int) (C : List Sp) (L : List Rn) (r : Rn) : strM k C (L ++ [r]) = strStep k C (strM k C L) r := by simp [strM]
theorem step_no {k : Int} {C acc : List Sp} {r : Rn} (h : ¬ 0 < hasK r.a k) : strStep k C acc r = acc := by unfold strStep; rw [if_neg h]
theorem step_join {k : Int} {C acc : List Sp} {r : Rn} {x : Sp} (h : 0 < hasK r.a k) (hx : acc.getLast? = some x) (hj : x.tt = r.fr ∧ x.vl = valK r.a k ∧ cutB C r.fr = false) : strStep k C acc r = acc.dropLast ++ [⟨x.fr, r.tt, x.kd, x.vl⟩] := by
  unfold strStep
  rw [if_pos h, hx]
  simp only
  rw [if_pos hj]
theorem step_new {k : Int} {C acc : List Sp} {r : Rn} (h : 0 < hasK r.a k) (hj : ∀ x, acc.getLast? = some x → ¬ (x.tt = r.fr ∧ x.vl = valK r.a k ∧ cutB C r.fr = false)) : strStep k C acc r = acc ++ [⟨r.fr, r.tt, k, valK r.a k⟩] := by
  unfold strStep
  rw [if_pos h]
  cases e : acc.getLast? with
  | none => rfl
  | some x => simp only; rw [if_neg (hj x e)]
/-- Either it joins the last one, or it is a new one. -/
theorem step_cases (k : Int) (C acc : List Sp) (r : Rn) (h : 0 < hasK r.a k) : (∃ x, acc.getLast? = some x ∧ (x.tt = r.fr ∧ x.vl = valK r.a k ∧ cutB C r.fr = false) ∧ strStep k C acc r = acc.dropLast ++ [⟨x.fr, r.tt, x.kd, x.vl⟩]) ∨ ((∀ x, acc.getLast? = some x → ¬ (x.tt = r.fr ∧ x.vl = valK r.a k ∧ cutB C r.fr = false)) ∧ strStep k C acc r = acc ++ [⟨r.fr, r.tt, k, valK r.a k⟩]) := by
  by_cases hh : ∃ x, acc.getLast? = some x ∧ (x.tt = r.fr ∧ x.vl = valK r.a k ∧ cutB C r.fr = false)
  · obtain ⟨x, hx, hj⟩ := hh
    exact Or.inl ⟨x, hx, hj, step_join h hx hj⟩
  · have hj : ∀ x, acc.getLast? = some x → ¬ (x.tt = r.fr ∧ x.vl = valK r.a k ∧ cutB C r.fr = false) := fun x hx h9 => hh ⟨x, hx, h9⟩
    exact Or.inr ⟨hj, step_new h hj⟩
theorem last_snoc {α : Type} (l : List α) (x : α) : (l ++ [x]).getLast? = some x := by simp
theorem drop_snoc {α : Type} (l : List α) (x : α) : (l ++ [x]).dropLast = l := by simp
theorem last_some {α : Type} {l : List α} {x : α} (h : l.getLast? = some x) : l = l.dropLast ++ [x] := by
  have h9 := List.getLast?_eq_some_iff.1 h
  obtain ⟨m, rfl⟩ := h9
  simp
/-- Two runs side by side that look alike, and no cut between them, are one. -/
theorem strJoin (k : Int) (C acc : List Sp) (f e g : Int) (a : At) (hc : cutB C e = false) : strStep k C (strStep k C acc ⟨f, e, a⟩) ⟨e, g, a⟩ = strStep k C acc ⟨f, g, a⟩ := by
  by_cases h : 0 < hasK a k
  · rcases step_cases k C acc ⟨f, e, a⟩ h with ⟨x, hx, hj, h9⟩ | ⟨hj, h9⟩
    · rw [h9, step_join (r := ⟨e, g, a⟩) (x := ⟨x.fr, e, x.kd, x.vl⟩) h (last_snoc _ _) ⟨rfl, hj.2.1, hc⟩, drop_snoc, step_join (r := ⟨f, g, a⟩) h hx hj]
    · rw [h9, step_join (r := ⟨e, g, a⟩) (x := ⟨f, e, k, valK a k⟩) h (last_snoc _ _) ⟨rfl, rfl, hc⟩, drop_snoc, step_new (r := ⟨f, g, a⟩) h hj]
  · rw [step_no h, step_no h, step_no h]
/-- Signs as runs of one. -/
def unitR : Int → List At → List Rn
  | _, [] => []
  | i, a :: l => ⟨i, i + 1, a⟩ :: unitR (i + 1) l
theorem unit_len : ∀ (l : List At) (i : Int), (unitR i l).length = l.length
  | [], _ => rfl
  | a :: l, i => by rw [unitR, List.length_cons, unit_len l, List.length_cons]
theorem unit_app : ∀ (l m : List At) (i : Int), unitR i (l ++ m) = unitR i l ++ unitR (i + l.length) m
  | [], m, i => by simp [unitR]
  | a :: l, m, i => by
    rw [List.cons_append, unitR, unitR, unit_app l m, List.cons_append]
    congr 3
    simp
    omega
theorem unit_same (k : Int) (C : List Sp) (a : At) : ∀ (m : Nat) (acc : List Sp) (f : Int), (∀ p : Int, f < p → p < f + (m + 1 : Nat) → cutB C p = false) → (unitR f (List.replicate (m + 1) a)).foldl (strStep k C) acc = strStep k C acc ⟨f, f + (m + 1 : Nat), a⟩
  | 0, acc, f, _ => by simp [unitR]
  | m + 1, acc, f, h => by
    rw [List.replicate_succ', unit_app, List.foldl_append, unit_same k C a m acc f (fun p h1 h2 => h p h1 (by omega))]
    simp only [unitR, List.foldl_cons, List.foldl_nil, List.length_replicate]
    rw [strJoin k C acc f (f + (m + 1 : Nat)) (f + (m + 1 : Nat) + 1) a (h _ (by omega) (by omega))]
    congr 2
    omega
/-- Runs that part a stretch. -/
def ChR : Int → List Rn → Int → Prop
  | f, [], n => f = n
  | f, r :: L, n => r.fr = f ∧ r.fr < r.tt ∧ ChR r.tt L n
theorem ch_le : ∀ {L : List Rn} {f n : Int}, ChR f L n → f ≤ n ∧ ∀ r ∈ L, f ≤ r.fr ∧ r.fr < r.tt ∧ r.tt ≤ n
  | [], f, n, h => ⟨by rw [ChR] at h; omega, fun r hr => by simp at hr⟩
  | r :: L, f, n, h => by
    rw [ChR] at h
    obtain ⟨h1, h2, h3⟩ := h
    obtain ⟨h4, h5⟩ := ch_le h3
    refine ⟨by omega, fun q hq => ?_⟩
    rcases List.mem_cons.1 hq with rfl | hq
    · omega
    · have := h5 q hq
      omega
theorem ch_app : ∀ {L M : List Rn} {f n : Int}, ChR f (L ++ M) n → ∃ e, ChR f L e ∧ ChR e M n
  | [], M, f, n, h => ⟨f, rfl, h⟩
  | r :: L, M, f, n, h => by
    rw [List.cons_append, ChR] at h
    obtain ⟨e, h1, h2⟩ := ch_app h.2.2
    exact ⟨e, ⟨h.1, h.2.1, h1⟩, h2⟩
theorem exp_cons (r : Rn) (L : List Rn) : expR (r :: L) = List.replicate (r.tt - r.fr).toNat r.a ++ expR L := by simp [expR]
theorem exp_len : ∀ {L : List Rn} {f n : Int}, ChR f L n → ((expR L).length : Int) = n - f
  | [], f, n, h => by rw [ChR] at h; simp [expR]; omega
  | r :: L, f, n, h => by
    rw [ChR] at h
    have h9 := exp_len h.2.2
    rw [exp_cons, List.length_append, List.length_replicate]
    omega
/-- The stretches of runs are those of their signs, if no cut lies inside of a run. -/
theorem str_units (k : Int) (C : List Sp) : ∀ (L : List Rn) (acc : List Sp) (f n : Int), ChR f L n → (∀ r ∈ L, ∀ p : Int, r.fr < p → p < r.tt → cutB C p = false) → L.foldl (strStep k C) acc = (unitR f (expR L)).foldl (strStep k C) acc
  | [], acc, f, n, _, _ => by simp [expR, unitR]
  | r :: L, acc, f, n, h, hc => by
    rw [ChR] at h
    obtain ⟨h1, h2, h3⟩ := h
    obtain ⟨m, hm⟩ : ∃ m : Nat, (r.tt - r.fr).toNat = m + 1 := ⟨(r.tt - r.fr).toNat - 1, by omega⟩
    rw [exp_cons, unit_app, List.foldl_append, List.foldl_cons, hm, unit_same k C r.a m acc f (fun p h4 h5 => hc r (by simp) p (by omega) (by omega))]
    rw [show (⟨f, f + (m + 1 : Nat), r.a⟩ : Rn) = r by rw [← h1]; cases r; simp only [Rn.mk.injEq, and_true, true_and]; simp only at *; omega]
    rw [str_units k C L _ r.tt n h3 (fun q hq => hc q (List.mem_cons_of_mem _ hq))]
    congr 2
    rw [List.length_replicate]
    omega
/-- Where the stretches of runs begin and end. -/
theorem step_mem {k : Int} {C acc : List Sp} {r : Rn} {y : Sp} (h : y ∈ strStep k C acc r) : (y ∈ acc ∨ (∃ x ∈ acc, y.fr = x.fr ∧ y.kd = x.kd) ∧ y.tt = r.tt ∨ y.fr = r.fr ∧ y.tt = r.tt ∧ y.kd = k) := by
  by_cases hh : 0 < hasK r.a k
  · rcases step_cases k C acc r hh with ⟨x, hx, hj, h9⟩ | ⟨hj, h9⟩
    · rw [h9] at h
      rcases List.mem_append.1 h with h | h
      · exact Or.inl (List.dropLast_subset _ h)
      · rw [List.mem_singleton] at h
        subst h
        exact Or.inr (Or.inl ⟨⟨x, List.mem_of_getLast? hx, rfl, rfl⟩, rfl⟩)
    · rw [h9] at h
      rcases List.mem_append.1 h with h | h
      · exact Or.inl h
      · rw [List.mem_singleton] at h
        subst h
        exact Or.inr (Or.inr ⟨rfl, rfl, rfl⟩)
  · rw [step_no hh] at h
    exact Or.inl h
def bndR (L : List Rn) (p : Int) : Prop := ∃ r ∈ L, p = r.fr ∨ p = r.tt
theorem str_bnd (k : Int) (C : List Sp) (B : Int → Prop) : ∀ (L : List Rn) (acc : List Sp), (∀ r ∈ L, B r.fr ∧ B r.tt) → (∀ x ∈ acc, B x.fr ∧ B x.tt) → ∀ x ∈ L.foldl (strStep k C) acc, B x.fr ∧ B x.tt
  | [], acc, _, ha, x, hx => ha x hx
  | r :: L, acc, hr, ha, x, hx => by
    refine str_bnd k C B L _ (fun q hq => hr q (List.mem_cons_of_mem _ hq)) (fun y hy => ?_) x hx
    have hb := hr r (by simp)
    rcases step_mem hy with h | ⟨⟨z, hz, e1, _⟩, e2⟩ | ⟨e1, e2, _⟩
    · exact ha y h
    · rw [e1, e2]
      exact ⟨(ha z hz).1, hb.2⟩
    · rw [e1, e2]
      exact hb
/-- All kinds, one behind the other. -/
def norm1 (L : List Rn) (C : List Sp) (k : Int) : List Sp := C ++ strM k C L
def normG (L : List Rn) : List Sp := [1, 2, 3, 4, 5].foldl (norm1 L) []
theorem ch_inside {L : List Rn} {f n : Int} (h : ChR f L n) {r : Rn} (hr : r ∈ L) {p : Int} (h1 : r.fr < p) (h2 : p < r.tt) : ¬ bndR L p := by
  obtain ⟨A, B, rfl⟩ := List.append_of_mem hr
  obtain ⟨e, hA, hB⟩ := ch_app h
  rw [ChR] at hB
  rintro ⟨q, hq, hp⟩
  have a1 := (ch_le hA).2
  have a2 := (ch_le hB.2.2).2
  rcases List.mem_append.1 hq with hq | hq
  · have := a1 q hq
    omega
  · rcases List.mem_cons.1 hq with rfl | hq
    · omega
    · have := a2 q hq
      omega
theorem normG_units {L : List Rn} {n : Int} (h : ChR 0 L n) : normG L = normG (unitR 0 (expR L)) := by
  unfold normG
  have key : ∀ (K : List Int) (C : List Sp), (∀ x ∈ C, bndR L x.fr ∧ bndR L x.tt) → K.foldl (norm1 L) C = K.foldl (norm1 (unitR 0 (expR L))) C := by
    intro K
    induction K with
    | nil => intro C _; rfl
    | cons k K ih =>
      intro C hC
      rw [List.foldl_cons, List.foldl_cons]
      have e : strM k C L = strM k C (unitR 0 (expR L)) := str_units k C L [] 0 n h (fun r hr p h1 h2 => by
        cases e : cutB C p with
        | false => rfl
        | true =>
          obtain ⟨x, hx, hp⟩ := (cutB_iff C p).1 e
          have := hC x hx
          rcases hp with rfl | rfl
          · exact (ch_inside h hr h1 h2 this.1).elim
          · exact (ch_inside h hr h1 h2 this.2).elim)
      rw [show norm1 (unitR 0 (expR L)) C k = norm1 L C k by unfold norm1; rw [e]]
      refine ih _ (fun x hx => ?_)
      rcases List.mem_append.1 hx with hx | hx
      · exact hC x hx
      · exact str_bnd k C (bndR L) L [] (fun r hr => ⟨⟨r, hr, Or.inl rfl⟩, r, hr, Or.inr rfl⟩) (fun x hx => by simp at hx) x hx
  exact key _ [] (fun x hx => by simp at hx)
/-- The stretches of a kind stand one behind the other. -/
structure StrOK (k : Int) (f : Int) (acc : List Sp) : Prop where
  kd : ∀ x ∈ acc, x.kd = k ∧ x.fr < x.tt ∧ x.tt ≤ f
  up : acc.Pairwise fun x y => x.tt ≤ y.fr
theorem step_ok {k f : Int} {C acc : List Sp} {r : Rn} (h : StrOK k f acc) (h1 : r.fr = f) (h2 : r.fr < r.tt) : StrOK k r.tt (strStep k C acc r) := by
  have base : StrOK k r.tt acc := ⟨fun x hx => by have := h.kd x hx; omega, h.up⟩
  by_cases hh : 0 < hasK r.a k
  · rcases step_cases k C acc r hh with ⟨x, hx, hj, h9⟩ | ⟨hj, h9⟩
    · rw [h9]
      have e := last_some hx
      have hm := h.kd x (List.mem_of_getLast? hx)
      have hu := h.up
      rw [e, List.pairwise_append] at hu
      refine ⟨fun y hy => ?_, ?_⟩
      · rcases List.mem_append.1 hy with hy | hy
        · exact base.kd y (List.dropLast_subset _ hy)
        · rw [List.mem_singleton] at hy
          subst hy
          simp only
          omega
      · rw [List.pairwise_append]
        refine ⟨hu.1, List.pairwise_singleton _ _, fun y hy z hz => ?_⟩
        rw [List.mem_singleton] at hz
        subst hz
        exact hu.2.2 y hy x (by simp)
    · rw [h9]
      refine ⟨fun y hy => ?_, ?_⟩
      · rcases List.mem_append.1 hy with hy | hy
        · exact base.kd y hy
        · rw [List.mem_singleton] at hy
          subst hy
          exact ⟨rfl, h2, Int.le_refl _⟩
      · rw [List.pairwise_append]
        refine ⟨h.up, List.pairwise_singleton _ _, fun y hy z hz => ?_⟩
        rw [List.mem_singleton] at hz
        subst hz
        have := h.kd y hy
        simp only
        omega
  · rw [step_no hh]
    exact base
theorem str_ok (k : Int) (C : List Sp) : ∀ (L : List Rn) (acc : List Sp) (f n : Int), ChR f L n → StrOK k f acc → StrOK k n (L.foldl (strStep k C) acc)
  | [], acc, f, n, h, h0 => by rw [ChR] at h; subst h; exact h0
  | r :: L, acc, f, n, h, h0 => by
    rw [ChR] at h
    exact str_ok k C L _ r.tt n h.2.2 (step_ok h0 h.1 h.2.1)
theorem strM_ok (k : Int) (C : List Sp) (L : List Rn) (n : Int) (h : ChR 0 L n) : StrOK k n (strM k C L) := str_ok k C L [] 0 n h ⟨fun x hx => by simp at hx, List.Pairwise.nil⟩
/-- In a kind, where it begins tells a stretch. -/
theorem ok_inj {k f : Int} {l : List Sp} (h : StrOK k f l) {x y : Sp} (hx : x ∈ l) (hy : y ∈ l) (e : x.fr = y.fr) : x = y := by
  obtain ⟨A, B, rfl⟩ := List.append_of_mem hx
  have hu := h.up
  rw [List.pairwise_append, List.pairwise_cons] at hu
  have kx := h.kd x hx
  have ky := h.kd y hy
  rcases List.mem_append.1 hy with hm | hm
  · have := hu.2.2 y hm x (by simp)
    omega
  · rcases List.mem_cons.1 hm with rfl | hm
    · rfl
    · have := hu.2.1.1 y hm
      omega
theorem normG_mem {L : List Rn} {n : Int} (h : ChR 0 L n) : (∀ x ∈ normG L, (1 ≤ x.kd ∧ x.kd ≤ 5) ∧ 0 ≤ x.fr ∧ x.fr < x.tt ∧ x.tt ≤ n) ∧ ∀ x ∈ normG L, ∀ y ∈ normG L, x.kd = y.kd → x.fr = y.fr → x = y := by
  have key : ∀ (K done : List Int) (C : List Sp), K.Nodup → (∀ k ∈ K, k ∉ done) → (∀ x ∈ C, x.kd ∈ done ∧ bndR L x.fr ∧ x.fr < x.tt ∧ x.tt ≤ n) → (∀ x ∈ C, ∀ y ∈ C, x.kd = y.kd → x.fr = y.fr → x = y) →
      (∀ x ∈ K.foldl (norm1 L) C, x.kd ∈ done ++ K ∧ bndR L x.fr ∧ x.fr < x.tt ∧ x.tt ≤ n) ∧ ∀ x ∈ K.foldl (norm1 L) C, ∀ y ∈ K.foldl (norm1 L) C, x.kd = y.kd → x.fr = y.fr → x = y := by
    intro K
    induction K with
    | nil => intro done C _ _ h1 h2; exact ⟨fun x hx => by simpa using h1 x hx, h2⟩
    | cons k K ih =>
      intro done C hK hd h1 h2
      have ok := strM_ok k C L n h
      have nk : k ∉ done := hd k (by simp)
      have hnd := List.nodup_cons.1 hK
      rw [List.foldl_cons]
      have := ih (done ++ [k]) (norm1 L C k) hnd.2 (fun j hj hm => by
          rcases List.mem_append.1 hm with hm | hm
          · exact hd j (List.mem_cons_of_mem _ hj) hm
          · rw [List.mem_singleton] at hm
            subst hm
            exact hnd.1 hj) (fun x hx => by
          rcases List.mem_append.1 hx with hx | hx
          · have := h1 x hx
            exact ⟨List.mem_append_left _ this.1, this.2⟩
          · have h9 := ok.kd x hx
            exact ⟨by rw [h9.1]; simp, (str_bnd k C (bndR L) L [] (fun r hr => ⟨⟨r, hr, Or.inl rfl⟩, r, hr, Or.inr rfl⟩) (fun x hx => by simp at hx) x hx).1, h9.2⟩) (fun x hx y hy ek ef => by
          rcases List.mem_append.1 hx with hx | hx <;> rcases List.mem_append.1 hy with hy | hy
          · exact h2 x hx y hy ek ef
          · have := h1 x hx
            have h9 := ok.kd y hy
            rw [ek, h9.1] at this
            exact (nk this.1).elim
          · have := h1 y hy
            have h9 := ok.kd x hx
            rw [← ek, h9.1] at this
            exact (nk this.1).elim
          · exact ok_inj ok hx hy ef)
      simpa using this
  have h9 := key [1, 2, 3, 4, 5] [] [] (by decide) (by simp) (by simp) (by simp)
  refine ⟨fun x hx => ?_, h9.2⟩
  obtain ⟨m, b, c⟩ := h9.1 x hx
  obtain ⟨r, hr, hb⟩ := b
  have := (ch_le h).2 r hr
  simp at m
  omega
end Go.Proofs.YtkamjlpnenldbaaGreatDoor

/- style.worth (chapter 7). -/
namespace Go.Proofs.YtkamjlpnenldbaaGreatDoor
open Go.RowKit Go.Shelf
attribute [local go_sem] Oper.semAt_some

/-- A run in a block of its own. -/
def RnC (W : World) (B : Nat) (r : Rn) : Prop := W.heap[B]? = some (.cells #[.int .i64 r.fr, .int .i64 r.tt, .bool r.a.b, .bool r.a.i, .bool r.a.u, .bool r.a.s, .int .i64 r.a.c] 45 (0, 0))
theorem RnC.lt {W : World} {B : Nat} {r : Rn} (h : RnC W B r) : B < W.heap.size := (Array.getElem?_eq_some_iff.1 h).1
theorem RnC.keep {W V : World} {B : Nat} {r : Rn} (h : RnC W B r) (b : Below W.heap.size W V) : RnC V B r := (b.block B h.lt).trans h
theorem RnC.new (w : World) (r : Rn) : RnC (w.alloc (.cells #[.int .i64 r.fr, .int .i64 r.tt, .bool r.a.b, .bool r.a.i, .bool r.a.u, .bool r.a.s, .int .i64 r.a.c] 45)) w.heap.size r := World.alloc_heap_new w _
theorem RnC.cells {W : World} {B : Nat} {r : Rn} (h : RnC W B r) : W.cell? ⟨B, 0, none⟩ = some (.int .i64 r.fr) ∧ W.cell? ⟨B, 1, none⟩ = some (.int .i64 r.tt) ∧ W.cell? ⟨B, 2, none⟩ = some (.bool r.a.b) ∧ W.cell? ⟨B, 3, none⟩ = some (.bool r.a.i) ∧ W.cell? ⟨B, 4, none⟩ = some (.bool r.a.u) ∧ W.cell? ⟨B, 5, none⟩ = some (.bool r.a.s) ∧ W.cell? ⟨B, 6, none⟩ = some (.int .i64 r.a.c) := by
  unfold RnC at h
  simp [World.cell?, h]
theorem w1_dec (b : Bool) : decide ((0 : Int) < if b = true then 1 else 0) = b := by cases b <;> decide
set_option maxRecDepth 100000 in
set_option maxHeartbeats 1000000 in
theorem worth_any (r : Rn) (k : Int) (hk : 1 ≤ k ∧ k ≤ 5) (hc : 0 ≤ r.a.c ∧ r.a.c ≤ 16777216) (w : World) :
    Calls Tryz.prog 62 #[r.val, .int .i64 k] w fun e w' => e = .returned (.tuple #[.bool (decide (0 < hasK r.a k)), .int .i64 (valK r.a k)]) ∧ Below w.heap.size w w' := by
  obtain ⟨f, t, b, i, u, s, c⟩ := r
  simp only at hc ⊢
  unfold Rn.val
  obtain ⟨X, hX⟩ : ∃ X, decide (0 < hasK ⟨b, i, u, s, c⟩ k) = X := ⟨_, rfl⟩
  obtain ⟨Y, hY⟩ : ∃ Y, valK ⟨b, i, u, s, c⟩ k = Y := ⟨_, rfl⟩
  rw [hX, hY]
  have HX := hideS hX
  have HY := hideS hY
  clear hX hY
  have h9 := RnC.new w ⟨f, t, b, i, u, s, c⟩
  have hB := hideS (bel1S w (.cells #[.int .i64 f, .int .i64 t, .bool b, .bool i, .bool u, .bool s, .int .i64 c] 45))
  obtain ⟨V, hV⟩ : ∃ V, w.alloc (.cells #[.int .i64 f, .int .i64 t, .bool b, .bool i, .bool u, .bool s, .int .i64 c] 45) = V := ⟨_, rfl⟩
  simp only [hV] at hB h9
  obtain ⟨c0, c1, c2, c3, c4, c5, c6⟩ := h9.cells
  simp only at c0 c1 c2 c3 c4 c5 c6
  clear h9
  by_cases h1 : k = 1
  · obtain rfl : X = b := by
      have h8 := HX.out
      unfold hasK at h8
      rw [h1] at h8
      simpa [w1_dec] using h8.symm
    obtain rfl : Y = 0 := by
      have h8 := HY.out
      unfold valK at h8
      rw [h1] at h8
      simpa using h8.symm
    subst h1
    clear HX HY
    go_enter Tryz.func62, Tryz.ntmps62
    go_wp2_with fail
    refine bodyPost_ret (v := .tuple #[.bool X, .int .i64 0]) (by simp [results, Tryz.results62, go_sem]) rfl ⟨rfl, ?_⟩
    exact hB.out
  have e1 : (k == 1) = false := by simpa using h1
  by_cases h2 : k = 2
  · obtain rfl : X = i := by
      have h8 := HX.out
      unfold hasK at h8
      rw [h2] at h8
      simpa [w1_dec] using h8.symm
    obtain rfl : Y = 0 := by
      have h8 := HY.out
      unfold valK at h8
      rw [h2] at h8
      simpa using h8.symm
    subst h2
    clear HX HY
    go_enter Tryz.func62, Tryz.ntmps62
    go_wp2_with fail
    refine bodyPost_ret (v := .tuple #[.bool X, .int .i64 0]) (by simp [results, Tryz.results62, go_sem]) rfl ⟨rfl, ?_⟩
    exact hB.out
  have e2 : (k == 2) = false := by simpa using h2
  by_cases h3 : k = 3
  · obtain rfl : X = u := by
      have h8 := HX.out
      unfold hasK at h8
      rw [h3] at h8
      simpa [w1_dec] using h8.symm
    obtain rfl : Y = 0 := by
      have h8 := HY.out
      unfold valK at h8
      rw [h3] at h8
      simpa using h8.symm
    subst h3
    clear HX HY
    go_enter Tryz.func62, Tryz.ntmps62
    go_wp2_with fail
    refine bodyPost_ret (v := .tuple #[.bool X, .int .i64 0]) (by simp [results, Tryz.results62, go_sem]) rfl ⟨rfl, ?_⟩
    exact hB.out
  have e3 : (k == 3) = false := by simpa using h3
  by_cases h4 : k = 4
  · obtain rfl : X = s := by
      have h8 := HX.out
      unfold hasK at h8
      rw [h4] at h8
      simpa [w1_dec] using h8.symm
    obtain rfl : Y = 0 := by
      have h8 := HY.out
      unfold valK at h8
      rw [h4] at h8
      simpa using h8.symm
    subst h4
    clear HX HY
    go_enter Tryz.func62, Tryz.ntmps62
    go_wp2_with fail
    refine bodyPost_ret (v := .tuple #[.bool X, .int .i64 0]) (by simp [results, Tryz.results62, go_sem]) rfl ⟨rfl, ?_⟩
    exact hB.out
  have e4 : (k == 4) = false := by simpa using h4
  obtain rfl : k = 5 := by omega
  obtain rfl : X = decide (0 < c) := by
    have h8 := HX.out
    unfold hasK at h8
    simpa using h8.symm
  obtain rfl : Y = c - 1 := by
    have h8 := HY.out
    unfold valK at h8
    simpa using h8.symm
  have wr : IntKind.i64.wrap (c - 1) = c - 1 := IntWalk.i64_in _ ⟨by omega, by omega⟩
  clear HX HY e1 e2 e3 e4
  go_enter Tryz.func62, Tryz.ntmps62
  go_upto_region 10 with fail
  try rw [hV]
  have c6d : V.drew.cell? ⟨w.heap.size, 6, none⟩ = some (.int .i64 c) := by simpa using c6
  go_region_held3 (fun w' => w'.cell? ⟨w.heap.size, 6, none⟩ = some (.int .i64 c)) (first | assumption | go_keep) (fail)
  all_goals
    go_wp2_with fail
    refine bodyPost_ret (v := .tuple #[.bool (decide (0 < c)), .int .i64 (c - 1)]) (by simp [results, Tryz.results62, go_sem]) rfl ⟨rfl, ?_⟩
    first | exact hB.out.drew | exact hB.out
end Go.Proofs.YtkamjlpnenldbaaGreatDoor

/- style.stretches (chapter 7). -/
namespace Go.Proofs.YtkamjlpnenldbaaGreatDoor
open Go.RowKit Go.Shelf
attribute [local go_sem] Oper.semAt_some

/-- Where spans begin and end, in a block of its own. -/
def CuB (W : World) (G m : Nat) (C : List Sp) : Prop := ∃ cur : Array Value, W.heap[G]? = some (.cells cur 4 (0, 0)) ∧ m ≤ cur.size ∧ ∀ p : Nat, p < m → cur[p]? = some (.bool (cutB C (p : Int)))
theorem CuB.lt {W : World} {G m : Nat} {C : List Sp} (h : CuB W G m C) : G < W.heap.size := by
  obtain ⟨_, h1, _⟩ := h
  exact (Array.getElem?_eq_some_iff.1 h1).1
theorem CuB.keep {W V : World} {G m : Nat} {C : List Sp} (h : CuB W G m C) (b : Below W.heap.size W V) : CuB V G m C := by
  have hl := h.lt
  obtain ⟨cur, h1, h2⟩ := h
  exact ⟨cur, (b.block G hl).trans h1, h2⟩
theorem CuB.at {W : World} {G m : Nat} {C : List Sp} (h : CuB W G m C) {p : Nat} (hp : p < m) : W.cell? ⟨G, p, none⟩ = some (.bool (cutB C (p : Int))) ∧ W.frozen? ⟨G, p, none⟩ = false := by
  obtain ⟨cur, h1, _, h3⟩ := h
  simp [World.cell?, World.frozen?, h1, h3 p hp]
theorem RnC.keep2 {W V : World} {B m : Nat} {r : Rn} (h : RnC W B r) (b : Below m W V) (hm : B < m) : RnC V B r := (b.block B hm).trans h
theorem sstep_len (k : Int) (C acc : List Sp) (r : Rn) : acc.length ≤ (strStep k C acc r).length ∧ (strStep k C acc r).length ≤ acc.length + 1 := by
  by_cases h : 0 < hasK r.a k
  · rcases step_cases k C acc r h with ⟨x, hx, _, h9⟩ | ⟨_, h9⟩
    · rw [h9]
      have h8 := congrArg List.length (last_some hx)
      rw [List.length_append] at h8 ⊢
      simp only [List.length_singleton] at h8 ⊢
      omega
    · rw [h9, List.length_append]
      simp only [List.length_singleton]
      omega
  · rw [step_no h]
    omega
set_option maxRecDepth 100000 in
set_option maxHeartbeats 4000000 in
theorem stretches_any (L : List Rn) (k n : Int) (C : List Sp) (oa : Option Addr) (ca G cc m : Nat) (hk : 1 ≤ k ∧ k ≤ 5) (hl : L.length ≤ 1048576) (hch : ChR 0 L n) (hco : ∀ r ∈ L, 0 ≤ r.a.c ∧ r.a.c ≤ 16777216) (hm : (m : Int) = n + 1) (w : World) (hR : RnO w oa L) (hC : CuB w G m C) :
    Calls Tryz.prog 46 #[.slice oa L.length ca, .int .i64 k, .slice (some ⟨G, 0, none⟩) m cc] w fun e w' => ∃ v, e = .returned v ∧ w'.ownsRow w.heap.size 26 4 v (strM k C L).length (flat4 (strM k C L)) ∧ Below w.heap.size w w' := by
  obtain ⟨i0, hi, hz0, hz1, hz2⟩ := info_parts infoSp
  have HWo := hideS (fun (W : World) (r : Rn) (h : r ∈ L) => worth_any r k hk (hco r h) W)
  have hin := (ch_le hch).2
  obtain ⟨R, hRv⟩ : ∃ R, strM k C L = R := ⟨_, rfl⟩
  rw [hRv]
  unfold strM at hRv
  obtain ⟨N, hN⟩ : ∃ N, L.length = N := ⟨_, rfl⟩
  rw [hN] at hl ⊢
  have HQ := hideS (And.intro hRv (And.intro hN (And.intro hR (And.intro hC hin))))
  obtain ⟨PO, hPO⟩ : ∃ PO : Ending → World → Prop, PO = fun e w' => ∃ v, e = .returned v ∧ w'.ownsRow w.heap.size 26 4 v R.length (flat4 R) ∧ Below w.heap.size w w' := ⟨_, rfl⟩
  rw [← hPO]
  have HPO := hideS hPO
  clear hR hRv hN hPO hC hin hch hco
  go_enter Tryz.func46, Tryz.ntmps46
  go_wp2_with fail
  go_loopw [7, 15] (fun v iv wq => ∃ (i : Nat) (acc : List Sp), iv = .int .i64 (i : Nat) ∧ i ≤ N ∧ acc.length ≤ i ∧ wq.ownsRow w.heap.size 26 4 v acc.length (flat4 acc) ∧ (L.drop i).foldl (strStep k C) acc = R ∧ Below w.heap.size w wq) (fun _ iv _ => N - (intOf iv).toNat)
  case atStart => exact ⟨0, [], rfl, Nat.zero_le _, Nat.le_refl _, World.ownsRow_nil _ _ _ _, HQ.out.1, Below.refl _ _⟩
  case round =>
    obtain ⟨i, acc, rfl, hiN, hal, hO, hgo, hb⟩ := hrel
    obtain ⟨wq, rfl⟩ : ∃ wq, wq = wr := ⟨_, rfl⟩
    by_cases hlt : i < N
    · obtain ⟨r, hx⟩ : ∃ r, L[i]? = some r := ⟨_, List.getElem?_eq_getElem (by rw [HQ.out.2.1]; exact hlt)⟩
      obtain ⟨a, rfl, _, k0, k1, k2, k3, k4, k5, k6⟩ := HQ.out.2.2.1.keep hb i r hx
      have hmem := List.mem_of_getElem? hx
      have hri := HQ.out.2.2.2.2 r hmem
      have hdr : L.drop i = r :: L.drop (i + 1) := by rw [← (List.getElem?_eq_some_iff.1 hx).2]; exact List.drop_eq_getElem_cons (by rw [HQ.out.2.1]; exact hlt)
      rw [hdr, List.foldl_cons] at hgo
      have d1 : (i : Int) < (N : Int) := by omega
      have wi : IntKind.i64.wrap ((i : Int) + 1) = ((i + 1 : Nat) : Int) := by rw [show ((i + 1 : Nat) : Int) = (i : Int) + 1 by omega]; exact IntWalk.i64_in _ ⟨by omega, by omega⟩
      have HL := hideS (fun W => HWo.out W r hmem)
      obtain ⟨p, hp⟩ : ∃ p : Nat, r.fr = (p : Int) := ⟨r.fr.toNat, by omega⟩
      have hpm : p < m := by omega
      obtain ⟨V, hV⟩ : ∃ V, wq.alloc (.cells #[.int .i64 r.fr, .int .i64 r.tt, .bool r.a.b, .bool r.a.i, .bool r.a.u, .bool r.a.s, .int .i64 r.a.c] 45) = V := ⟨_, rfl⟩
      have rV : RnC V wq.heap.size r := by rw [← hV]; exact RnC.new wq r
      have bV : Below wq.heap.size wq V := by rw [← hV]; exact bel1S _ _
      have HV := hideS (And.intro rV bV)
      obtain ⟨v0, v1, v2, v3, v4, v5, v6⟩ := rV.cells
      unfold Rn.val at HL
      have hst := sstep_len k C acc r
      have HA := hideS (And.intro hO (And.intro hgo (And.intro hb (And.intro hp (And.intro hri hst)))))
      clear hO hgo hb hx hdr rV bV hp hri hst
      by_cases hh : 0 < hasK r.a k
      · have dt : decide (0 < hasK r.a k) = true := decide_eq_true hh
        rcases List.eq_nil_or_concat acc with rfl | ⟨L', x, rfl⟩
        · obtain ⟨o, cp, rfl⟩ : ∃ o cp, u7 = .slice o 0 cp := by
            rcases HA.out.1.2 with ⟨e0, _⟩ | ⟨gr, cp, cur, e0, _⟩
            · exact ⟨_, _, e0⟩
            · exact ⟨_, _, e0⟩
          go_upto_region 5 with fail
          try rw [hV]
          clear hV
          go_upto_region 9 with (first | (go_at_call 62; (with_reducible refine (HL.out _).mono ?_); rintro e w2 ⟨rfl, b2⟩; have H2 := hideS (And.intro (HV.out.1.keep b2) (bupS HV.out.2 b2)); clear b2))
          obtain ⟨v0, v1, v2, v3, v4, v5, v6⟩ := H2.out.1.cells
          go_quiet (fail)
          obtain ⟨wx, hwx⟩ : ∃ wx, w2.drewN nq = wx := ⟨_, rfl⟩
          have W2 : Hid (Below w2.heap.size w2 wx) := hideS (by rw [← hwx]; exact below_dnS (Below.refl _ _) nq)
          rw [hwx]
          clear hwx
          clear v0 v1 v2 v3 v4 v5 v6
          obtain ⟨v0, v1, v2, v3, v4, v5, v6⟩ := (H2.out.1.keep W2.out).cells
          have hbx : Below w.heap.size w wx := HA.out.2.2.1.trans ((bupS H2.out.2 W2.out).mono HA.out.2.2.1.size)
          have HGx := hideS (own_keep HA.out.1 (bupS H2.out.2 W2.out))
          have sx := hbx.size
          have HBx := hideS hbx
          clear hbx
          go_wp2_with (at_builtin; refine wpList_append_own _ rfl _ _ 22 rfl w.heap.size 26 i0 (.agg #[.int .i64 0, .int .i64 0, .int .i64 0, .int .i64 0]) 4 32 Tryz.underlying22 hi hz0 hz1 hz2 rfl (by decide) _ _ _ rfl (HGx.out.alloc _) ⟨wx.heap.size, 0, none⟩ 1 1 [.int .i64 r.fr, .int .i64 r.tt, .int .i64 k, .int .i64 (valK r.a k)] rfl rfl (cell_fourS _ _ _ _ _ _) (fun u hu => by simp at hu; rcases hu with rfl | rfl | rfl | rfl <;> rfl) (by unfold maxLen; omega) (by omega) (by simp; omega) ?_; intro v' w3 hown' hgrow _)
          have hB3 := Below.grown (HBx.out.alloc sx (.cells #[.int .i64 r.fr, .int .i64 r.tt, .int .i64 k, .int .i64 (valK r.a k)] 26)) hgrow (by simp; omega) (fun j hj => (HGx.out.lt j hj).1)
          go_roundw
          case rel =>
            have e0 : strStep k C [] r = [⟨r.fr, r.tt, k, valK r.a k⟩] := step_new hh (fun x hx => by simp at hx)
            exact ⟨i + 1, [⟨r.fr, r.tt, k, valK r.a k⟩], by first | rfl | simp, by omega, by simp, hown', by rw [← e0]; exact HA.out.2.1, hB3⟩
          case measure => simp [intOf]; omega
        · rw [List.concat_eq_append] at HA hal
          have hlen : (L' ++ [x]).length = L'.length + 1 := by simp
          obtain ⟨q, hq⟩ : ∃ q, L'.length = q := ⟨_, rfl⟩
          obtain ⟨M, hM⟩ : ∃ M, q + 1 = M := ⟨_, rfl⟩
          rw [hlen, hq, hM] at HA hal
          obtain ⟨gr, cp, rfl, hcp⟩ : ∃ gr cp, u7 = .slice (some ⟨gr, 0, none⟩) M cp ∧ M ≤ cp ∧ cp ≤ maxLen := by
            rcases HA.out.1.2 with ⟨_, e0⟩ | ⟨gr, cp, cur, e0, h1, h2, h3, h4, _⟩
            · omega
            · exact ⟨gr, cp, e0, h3, h4⟩
          have HM := hideS (And.intro hq hM)
          have j1 : (M : Int) - 1 = (q : Int) := by omega
          have j2 : IntKind.i64.wrap (q : Int) = (q : Int) := IntWalk.i64_in _ ⟨by omega, by omega⟩
          have j3 : (0 : Int) ≤ (q : Int) := by omega
          have j4 : (q : Int) < (M : Int) := by omega
          have j5 : q < M := by omega
          have hl9 : Hid ((L' ++ [x]).length = M) := hideS (by rw [hlen, hq, hM])
          clear hq hM hlen
          go_upto_region 5 with fail
          try rw [hV]
          clear hV
          go_upto_region 9 with (first | (go_at_call 62; (with_reducible refine (HL.out _).mono ?_); rintro e w2 ⟨rfl, b2⟩; have H2 := hideS (And.intro (HV.out.1.keep b2) (bupS HV.out.2 b2)); clear b2))
          have hOV := own_keep HA.out.1 H2.out.2
          have hxq : (L' ++ [x])[q]? = some x := by rw [← HM.out.1]; simp
          obtain ⟨f0, f1, f2, f3⟩ := flat4_at (L' ++ [x]) q x hxq
          obtain ⟨x1, x1f, hgl, hgr⟩ := own_cellsS hOV (q * 4 + 1) _ f1
          have x3 := (own_cellsS hOV (q * 4 + 3) _ f3).1
          obtain ⟨v0, v1, v2, v3, v4, v5, v6⟩ := H2.out.1.cells
          have cq := ((HQ.out.2.2.2.1.keep (HA.out.2.2.1.trans (H2.out.2.mono HA.out.2.2.1.size))).at hpm).1
          rw [HA.out.2.2.2.1] at v0
          have HVV := hideS (And.intro hOV (And.intro hxq hgr))
          have i1 : (0 : Int) ≤ (p : Int) := by omega
          have i2 : (p : Int) < (m : Int) := by omega
          clear hOV hxq hgr f0 f1 f2 f3 x1f
          by_cases hj : x.tt = (p : Int) ∧ x.vl = valK r.a k ∧ cutB C (p : Int) = false
          · obtain ⟨q1, q2, q3⟩ := hj
            have HJ := hideS (And.intro q1 (And.intro q2 q3))
            go_quiet (fail)
            obtain ⟨wx, hwx⟩ : ∃ wx, w2.drewN nq = wx := ⟨_, rfl⟩
            have W2 : Hid (Below w2.heap.size w2 wx) := hideS (by rw [← hwx]; exact below_dnS (Below.refl _ _) nq)
            rw [hwx]
            clear hwx v0 v1 v2 v3 v4 v5 v6 x1 x3 cq q1 q2 q3
            obtain ⟨v0, v1, v2, v3, v4, v5, v6⟩ := (H2.out.1.keep W2.out).cells
            have hOx := own_keep HVV.out.1 W2.out
            obtain ⟨f0, f1, f2, f3⟩ := flat4_at (L' ++ [x]) q x HVV.out.2.1
            obtain ⟨y1, y2, y3, y4⟩ := own_cellsS hOx (q * 4 + 1) _ f1
            have hbx : Below w.heap.size w wx := HA.out.2.2.1.trans ((bupS H2.out.2 W2.out).mono HA.out.2.2.1.size)
            have HBx := hideS (And.intro hOx hbx)
            clear hOx hbx f0 f1 f2 f3
            go_wp2_with fail
            go_roundw
            case rel =>
              have e0 : strStep k C (L' ++ [x]) r = L' ++ [⟨x.fr, r.tt, x.kd, x.vl⟩] := by
                rw [step_join (x := x) (by omega) (last_snoc _ _) ⟨by rw [HJ.out.1, HA.out.2.2.2.1], HJ.out.2.1, by rw [HA.out.2.2.2.1]; exact HJ.out.2.2⟩, drop_snoc]
              have e1 : (flat4 (L' ++ [x])).set (q * 4 + 1) (.int .i64 r.tt) = flat4 (L' ++ [⟨x.fr, r.tt, x.kd, x.vl⟩]) := by
                rw [flat4_snoc, flat4_snoc, List.set_append_right _ _ (by rw [flat4_len, HM.out.1]; omega), flat4_len, HM.out.1, show q * 4 + 1 - q * 4 = 1 by omega]
                rfl
              have h9 := own_setS HBx.out.1 (q * 4 + 1) (.int .i64 r.tt)
              rw [e1] at h9
              refine ⟨i + 1, L' ++ [⟨x.fr, r.tt, x.kd, x.vl⟩], by first | rfl | simp, by omega, ?_, ?_, ?_, ?_⟩
              · rw [List.length_append, HM.out.1]
                simp
                have := HM.out.2
                omega
              · rw [show (L' ++ [(⟨x.fr, r.tt, x.kd, x.vl⟩ : Sp)]).length = M by rw [List.length_append, HM.out.1]; exact HM.out.2]
                exact h9
              · have h8 := HA.out.2.1
                rw [e0] at h8
                exact h8
              · exact HBx.out.2.setCell (p := ⟨gr, q * 4 + 1, none⟩) HVV.out.2.2 _
            case measure => simp [intOf]; omega
          · have HJ := hideS hj
            have hj3 : ¬ x.tt = (p : Int) ∨ x.tt = (p : Int) ∧ ¬ x.vl = valK r.a k ∨ x.tt = (p : Int) ∧ x.vl = valK r.a k ∧ cutB C (p : Int) = true := by
              by_cases q1 : x.tt = (p : Int)
              · by_cases q2 : x.vl = valK r.a k
                · refine Or.inr (Or.inr ⟨q1, q2, ?_⟩)
                  cases e9 : cutB C (p : Int) with
                  | true => rfl
                  | false => exact (hj ⟨q1, q2, e9⟩).elim
                · exact Or.inr (Or.inl ⟨q1, q2⟩)
              · exact Or.inl q1
            clear hj
            rcases hj3 with q1 | ⟨q1, q2⟩ | ⟨q1, q2, q3⟩
            · have q1' : (x.tt == (p : Int)) = false := by simpa using q1
              go_quiet (fail)
              obtain ⟨wx, hwx⟩ : ∃ wx, w2.drewN nq = wx := ⟨_, rfl⟩
              have W2 : Hid (Below w2.heap.size w2 wx) := hideS (by rw [← hwx]; exact below_dnS (Below.refl _ _) nq)
              rw [hwx]
              clear hwx
              clear v0 v1 v2 v3 v4 v5 v6 x1 x3 cq q1 q1'
              obtain ⟨v0, v1, v2, v3, v4, v5, v6⟩ := (H2.out.1.keep W2.out).cells
              rw [HA.out.2.2.2.1] at v0
              have hbx : Below w.heap.size w wx := HA.out.2.2.1.trans ((bupS H2.out.2 W2.out).mono HA.out.2.2.1.size)
              have HGx := hideS (own_keep HA.out.1 (bupS H2.out.2 W2.out))
              have sx := hbx.size
              have HBx := hideS hbx
              clear hbx
              go_wp2_with (at_builtin; refine wpList_append_own _ rfl _ _ 22 rfl w.heap.size 26 i0 (.agg #[.int .i64 0, .int .i64 0, .int .i64 0, .int .i64 0]) 4 32 Tryz.underlying22 hi hz0 hz1 hz2 rfl (by decide) _ _ _ rfl (HGx.out.alloc _) ⟨wx.heap.size, 0, none⟩ 1 1 [.int .i64 (p : Int), .int .i64 r.tt, .int .i64 k, .int .i64 (valK r.a k)] rfl rfl (cell_fourS _ _ _ _ _ _) (fun u hu => by simp at hu; rcases hu with rfl | rfl | rfl | rfl <;> rfl) (by unfold maxLen; omega) (by omega) (by simp; omega) ?_; intro v' w3 hown' hgrow _)
              have hB3 := Below.grown (HBx.out.alloc sx (.cells #[.int .i64 (p : Int), .int .i64 r.tt, .int .i64 k, .int .i64 (valK r.a k)] 26)) hgrow (by simp; omega) (fun j hj => (HGx.out.lt j hj).1)
              go_roundw
              case rel =>
                have e0 : strStep k C (L' ++ [x]) r = L' ++ [x] ++ [⟨r.fr, r.tt, k, valK r.a k⟩] := step_new (by omega) (fun y hy => by
                  rw [last_snoc] at hy
                  obtain rfl := Option.some.inj hy
                  rw [HA.out.2.2.2.1]
                  exact HJ.out)
                refine ⟨i + 1, L' ++ [x] ++ [⟨r.fr, r.tt, k, valK r.a k⟩], by first | rfl | simp, by omega, ?_, ?_, ?_, hB3⟩
                · rw [List.length_append, hl9.out]
                  simp
                  omega
                · rw [List.length_append, hl9.out, flat4_snoc, HA.out.2.2.2.1]
                  exact hown'
                · have h8 := HA.out.2.1
                  rw [e0] at h8
                  exact h8
              case measure => simp [intOf]; omega
            · have q2' : (x.vl == valK r.a k) = false := by simpa using q2
              go_quiet (fail)
              obtain ⟨wx, hwx⟩ : ∃ wx, w2.drewN nq = wx := ⟨_, rfl⟩
              have W2 : Hid (Below w2.heap.size w2 wx) := hideS (by rw [← hwx]; exact below_dnS (Below.refl _ _) nq)
              rw [hwx]
              clear hwx
              clear v0 v1 v2 v3 v4 v5 v6 x1 x3 cq q1 q2 q2'
              obtain ⟨v0, v1, v2, v3, v4, v5, v6⟩ := (H2.out.1.keep W2.out).cells
              rw [HA.out.2.2.2.1] at v0
              have hbx : Below w.heap.size w wx := HA.out.2.2.1.trans ((bupS H2.out.2 W2.out).mono HA.out.2.2.1.size)
              have HGx := hideS (own_keep HA.out.1 (bupS H2.out.2 W2.out))
              have sx := hbx.size
              have HBx := hideS hbx
              clear hbx
              go_wp2_with (at_builtin; refine wpList_append_own _ rfl _ _ 22 rfl w.heap.size 26 i0 (.agg #[.int .i64 0, .int .i64 0, .int .i64 0, .int .i64 0]) 4 32 Tryz.underlying22 hi hz0 hz1 hz2 rfl (by decide) _ _ _ rfl (HGx.out.alloc _) ⟨wx.heap.size, 0, none⟩ 1 1 [.int .i64 (p : Int), .int .i64 r.tt, .int .i64 k, .int .i64 (valK r.a k)] rfl rfl (cell_fourS _ _ _ _ _ _) (fun u hu => by simp at hu; rcases hu with rfl | rfl | rfl | rfl <;> rfl) (by unfold maxLen; omega) (by omega) (by simp; omega) ?_; intro v' w3 hown' hgrow _)
              have hB3 := Below.grown (HBx.out.alloc sx (.cells #[.int .i64 (p : Int), .int .i64 r.tt, .int .i64 k, .int .i64 (valK r.a k)] 26)) hgrow (by simp; omega) (fun j hj => (HGx.out.lt j hj).1)
              go_roundw
              case rel =>
                have e0 : strStep k C (L' ++ [x]) r = L' ++ [x] ++ [⟨r.fr, r.tt, k, valK r.a k⟩] := step_new (by omega) (fun y hy => by
                  rw [last_snoc] at hy
                  obtain rfl := Option.some.inj hy
                  rw [HA.out.2.2.2.1]
                  exact HJ.out)
                refine ⟨i + 1, L' ++ [x] ++ [⟨r.fr, r.tt, k, valK r.a k⟩], by first | rfl | simp, by omega, ?_, ?_, ?_, hB3⟩
                · rw [List.length_append, hl9.out]
                  simp
                  omega
                · rw [List.length_append, hl9.out, flat4_snoc, HA.out.2.2.2.1]
                  exact hown'
                · have h8 := HA.out.2.1
                  rw [e0] at h8
                  exact h8
              case measure => simp [intOf]; omega
            · go_quiet (fail)
              obtain ⟨wx, hwx⟩ : ∃ wx, w2.drewN nq = wx := ⟨_, rfl⟩
              have W2 : Hid (Below w2.heap.size w2 wx) := hideS (by rw [← hwx]; exact below_dnS (Below.refl _ _) nq)
              rw [hwx]
              clear hwx
              clear v0 v1 v2 v3 v4 v5 v6 x1 x3 cq q1 q2 q3
              obtain ⟨v0, v1, v2, v3, v4, v5, v6⟩ := (H2.out.1.keep W2.out).cells
              rw [HA.out.2.2.2.1] at v0
              have hbx : Below w.heap.size w wx := HA.out.2.2.1.trans ((bupS H2.out.2 W2.out).mono HA.out.2.2.1.size)
              have HGx := hideS (own_keep HA.out.1 (bupS H2.out.2 W2.out))
              have sx := hbx.size
              have HBx := hideS hbx
              clear hbx
              go_wp2_with (at_builtin; refine wpList_append_own _ rfl _ _ 22 rfl w.heap.size 26 i0 (.agg #[.int .i64 0, .int .i64 0, .int .i64 0, .int .i64 0]) 4 32 Tryz.underlying22 hi hz0 hz1 hz2 rfl (by decide) _ _ _ rfl (HGx.out.alloc _) ⟨wx.heap.size, 0, none⟩ 1 1 [.int .i64 (p : Int), .int .i64 r.tt, .int .i64 k, .int .i64 (valK r.a k)] rfl rfl (cell_fourS _ _ _ _ _ _) (fun u hu => by simp at hu; rcases hu with rfl | rfl | rfl | rfl <;> rfl) (by unfold maxLen; omega) (by omega) (by simp; omega) ?_; intro v' w3 hown' hgrow _)
              have hB3 := Below.grown (HBx.out.alloc sx (.cells #[.int .i64 (p : Int), .int .i64 r.tt, .int .i64 k, .int .i64 (valK r.a k)] 26)) hgrow (by simp; omega) (fun j hj => (HGx.out.lt j hj).1)
              go_roundw
              case rel =>
                have e0 : strStep k C (L' ++ [x]) r = L' ++ [x] ++ [⟨r.fr, r.tt, k, valK r.a k⟩] := step_new (by omega) (fun y hy => by
                  rw [last_snoc] at hy
                  obtain rfl := Option.some.inj hy
                  rw [HA.out.2.2.2.1]
                  exact HJ.out)
                refine ⟨i + 1, L' ++ [x] ++ [⟨r.fr, r.tt, k, valK r.a k⟩], by first | rfl | simp, by omega, ?_, ?_, ?_, hB3⟩
                · rw [List.length_append, hl9.out]
                  simp
                  omega
                · rw [List.length_append, hl9.out, flat4_snoc, HA.out.2.2.2.1]
                  exact hown'
                · have h8 := HA.out.2.1
                  rw [e0] at h8
                  exact h8
              case measure => simp [intOf]; omega
      · have dt : decide (0 < hasK r.a k) = false := decide_eq_false hh
        obtain ⟨o, cp, rfl, hcp, -⟩ := own_cap HA.out.1
        obtain ⟨M, hM⟩ : ∃ M, acc.length = M := ⟨_, rfl⟩
        rw [hM] at hal hcp
        have HM := hideS hM
        have j2 : IntKind.i64.wrap ((M : Int) - 1) = (M : Int) - 1 := IntWalk.i64_in _ ⟨by omega, by omega⟩
        go_upto_region 5 with fail
        try rw [hV]
        clear hV
        try rw [hM]
        clear hM
        go_wp2_with (first | (go_at_call 62; (with_reducible refine (HL.out _).mono ?_); rintro e w2 ⟨rfl, b2⟩; have H2 := hideS (And.intro (HV.out.1.keep b2) (bupS HV.out.2 b2)); clear b2))
        go_roundw
        case rel =>
          refine ⟨i + 1, acc, by first | rfl | simp, by omega, by have := HM.out; omega, ?_, ?_, HA.out.2.2.1.trans (H2.out.2.mono HA.out.2.2.1.size)⟩
          · have h9 := own_keep HA.out.1 H2.out.2
            rw [HM.out] at h9 ⊢
            exact h9
          · have h9 := HA.out.2.1
            rw [step_no (by omega)] at h9
            exact h9
        case measure => simp [intOf]; omega
    · have d1 : ¬ (i : Int) < (N : Int) := by omega
      have hnil : L.drop i = [] := List.drop_eq_nil_of_le (by rw [HQ.out.2.1]; omega)
      rw [hnil] at hgo
      change acc = R at hgo
      subst hgo
      have HA := hideS (And.intro hO hb)
      clear hO hb hnil
      go_wp2_with fail
      rw [HPO.out]
      exact ⟨_, rfl, HA.out.1, HA.out.2⟩
end Go.Proofs.YtkamjlpnenldbaaGreatDoor

/- The shelf's contract of slices.SortFunc speaks of this program, at spans. -/
namespace Go.Proofs.YtkamjlpnenldbaaGreatDoor
open Go.Shelf
def layN6Ren : Ren := ⟨fun x => if x = 6 then 47 else if x = 14 then 63 else if x = 15 then 64 else if x = 20 then 72 else if x = 21 then 74 else if x = 22 then 75 else if x = 23 then 76 else if x = 24 then 77 else if x = 25 then 78 else if x = 26 then 79 else if x = 27 then 80 else if x = 28 then 81 else if x = 29 then 82 else if x = 46 then 96 else if x = 47 then 97 else if x = 48 then 98 else if x = 49 then 99 else if x = 50 then 100 else if x = 57 then 107 else x, fun x => if x = 0 then 0 else if x = 3 then 3 else if x = 4 then 4 else if x = 5 then 5 else if x = 9 then 9 else if x = 22 then 22 else if x = 24 then 26 else if x = 25 then 84 else if x = 39 then 106 else if x = 45 then 114 else if x = 46 then 115 else if x = 50 then 119 else if x = 53 then 122 else if x = 55 then 124 else if x = 66 then 135 else if x = 70 then 139 else if x = 76 then 149 else if x = 77 then 150 else x, fun x => x⟩
set_option maxRecDepth 100000 in
theorem layN6 : SlLaysF0.n6 Tryz.prog layN6Ren := { mixed := by kernel_rfl, f6 := ⟨Tryz.f47.name, by kernel_rfl, by kernel_rfl⟩, f14 := ⟨Tryz.f63.name, by kernel_rfl, by kernel_rfl⟩, f15 := by kernel_rfl, f20 := ⟨Tryz.f72.name, by kernel_rfl, by kernel_rfl⟩, f21 := ⟨Tryz.f74.name, by kernel_rfl, by kernel_rfl⟩, f22 := ⟨Tryz.f75.name, by kernel_rfl, by kernel_rfl⟩, f23 := ⟨Tryz.f76.name, by kernel_rfl, by kernel_rfl⟩, f24 := ⟨Tryz.f77.name, by kernel_rfl, by kernel_rfl⟩, f25 := ⟨Tryz.f78.name, by kernel_rfl, by kernel_rfl⟩, f26 := ⟨Tryz.f79.name, by kernel_rfl, by kernel_rfl⟩, f27 := ⟨Tryz.f80.name, by kernel_rfl, by kernel_rfl⟩, f28 := by kernel_rfl, f29 := by kernel_rfl, f46 := ⟨Tryz.f96.name, by kernel_rfl, by kernel_rfl⟩, f47 := by kernel_rfl, f48 := by kernel_rfl, f49 := ⟨Tryz.f99.name, by kernel_rfl, by kernel_rfl⟩, f50 := ⟨Tryz.f100.name, by kernel_rfl, by kernel_rfl⟩, f57 := ⟨Tryz.f107.name, by kernel_rfl, by kernel_rfl⟩, t0 := by kernel_rfl, a0 := fun _ => by kernel_rfl, z0 := fun _ => by kernel_rfl, v0 := fun _ => by kernel_rfl, t3 := by kernel_rfl, a3 := fun _ => by kernel_rfl, z3 := fun _ => by kernel_rfl, v3 := fun _ => by kernel_rfl, t4 := by kernel_rfl, a4 := fun _ => by kernel_rfl, z4 := fun _ => by kernel_rfl, v4 := fun _ => by kernel_rfl, t5 := by kernel_rfl, a5 := fun _ => by kernel_rfl, z5 := fun _ => by kernel_rfl, v5 := fun _ => by kernel_rfl, t9 := by kernel_rfl, a9 := fun _ => by kernel_rfl, z9 := fun _ => by kernel_rfl, v9 := fun _ => by kernel_rfl, t22 := by kernel_rfl, a22 := fun _ => by kernel_rfl, z22 := fun _ => by kernel_rfl, v22 := fun _ => by kernel_rfl, t25 := by kernel_rfl, a25 := fun _ => by kernel_rfl, z25 := fun _ => by kernel_rfl, v25 := fun _ => by kernel_rfl, t39 := by kernel_rfl, a39 := fun _ => by kernel_rfl, z39 := fun _ => by kernel_rfl, v39 := fun _ => by kernel_rfl, t45 := by kernel_rfl, a45 := fun _ => by kernel_rfl, z45 := fun _ => by kernel_rfl, v45 := fun _ => by kernel_rfl, t46 := by kernel_rfl, a46 := fun _ => by kernel_rfl, z46 := fun _ => by kernel_rfl, v46 := fun _ => by kernel_rfl, t50 := by kernel_rfl, a50 := fun _ => by kernel_rfl, z50 := fun _ => by kernel_rfl, v50 := fun _ => by kernel_rfl, t53 := by kernel_rfl, a53 := fun _ => by kernel_rfl, z53 := fun _ => by kernel_rfl, v53 := fun _ => by kernel_rfl, t55 := by kernel_rfl, a55 := fun _ => by kernel_rfl, z55 := fun _ => by kernel_rfl, v55 := fun _ => by kernel_rfl, t66 := by kernel_rfl, a66 := fun _ => by kernel_rfl, z66 := fun _ => by kernel_rfl, v66 := fun _ => by kernel_rfl, t70 := by kernel_rfl, a70 := fun _ => by kernel_rfl, z70 := fun _ => by kernel_rfl, v70 := fun _ => by kernel_rfl, t76 := by kernel_rfl, a76 := fun _ => by kernel_rfl, z76 := fun _ => by kernel_rfl, v76 := fun _ => by kernel_rfl, t77 := by kernel_rfl, a77 := fun _ => by kernel_rfl, z77 := fun _ => by kernel_rfl, v77 := fun _ => by kernel_rfl }
theorem spanAgg (w : World) : (isAgg 26).run Tryz.prog w = .ok true w := by kernel_rfl
theorem spanSize (w : World) : (Go.sizeOf 26).run Tryz.prog w = .ok 4 w := by kernel_rfl
end Go.Proofs.YtkamjlpnenldbaaGreatDoor

/- The order of a normal form's spans: style.normal's own compare; slices.SortFunc by it (chapter 7). -/
namespace Go.Proofs.YtkamjlpnenldbaaGreatDoor
open Go.RowKit Go.Shelf
open Go.Sort (grow)
attribute [local go_sem] Oper.semAt_some

/-- A world that has only grown. -/
def Gr (w w' : World) : Prop := ∃ q os, w' = grow (w.drewN q) os
theorem Gr.refl (w : World) : Gr w w := ⟨0, #[], by simp [grow, World.drewN]⟩
theorem Gr.trans {a b c : World} (h : Gr a b) (k : Gr b c) : Gr a c := by
  obtain ⟨q, os, rfl⟩ := h
  obtain ⟨q2, os2, rfl⟩ := k
  refine ⟨q + q2, os ++ os2, ?_⟩
  simp only [grow, World.drewN, Array.append_assoc, Nat.add_assoc]
theorem Gr.alloc {a w : World} (h : Gr a w) (o : Obj) : Gr a (w.alloc o) := h.trans ⟨0, #[o], by show ({ w with heap := w.heap.push o } : World) = _; simp [grow, World.drewN]⟩
theorem Gr.drew {a w : World} (h : Gr a w) : Gr a w.drew := h.trans ⟨1, #[], by simp only [grow, World.drewN, Array.append_empty]; rfl⟩
theorem Gr.below {a w : World} (h : Gr a w) : Below a.heap.size a w := by
  obtain ⟨q, os, rfl⟩ := h
  refine ⟨rfl, rfl, rfl, by simp [grow, World.drewN], fun k hk => ?_⟩
  show (a.heap ++ os)[k]? = _
  rw [Array.getElem?_append_left hk]
set_option maxRecDepth 100000 in
set_option maxHeartbeats 1000000 in
theorem stretch_gr (a b : Sp) (w : World) : Calls Tryz.prog 44 #[a.val, b.val] w fun e w' => e = .returned (.int .i64 (csI a b)) ∧ Gr w w' := by
  rw [cs_eq]
  obtain ⟨af, at_, ak, av⟩ := a
  obtain ⟨bf, bt, bk, bv⟩ := b
  unfold Sp.val
  have H1 := hideS (cmpI_any af bf)
  have H2 := hideS (cmpI_any bt at_)
  simp only
  generalize cpI af bf = x at *
  generalize cpI bt at_ = y at *
  have HO := hideS (orI_any x y)
  generalize hz : (if x = 0 then y else x) = z at *
  clear hz
  have HB := hideS (((Gr.refl w).alloc (.cells #[.int .i64 af, .int .i64 at_, .int .i64 ak, .int .i64 av] 26)).alloc (.cells #[.int .i64 bf, .int .i64 bt, .int .i64 bk, .int .i64 bv] 26))
  go_enter Tryz.func44, Tryz.ntmps44
  go_wp2_with fail
  obtain ⟨V, hV⟩ : ∃ V, (w.alloc (.cells #[.int .i64 af, .int .i64 at_, .int .i64 ak, .int .i64 av] 26)).alloc (.cells #[.int .i64 bf, .int .i64 bt, .int .i64 bk, .int .i64 bv] 26) = V := ⟨_, rfl⟩
  have n0 : V.heap[w.heap.size]? = some (.cells #[.int .i64 af, .int .i64 at_, .int .i64 ak, .int .i64 av] 26) := by
    rw [← hV]
    exact (Below.heap_alloc _ _ _ (by simp)).trans (World.alloc_heap_new w _)
  have n1 : V.heap[w.heap.size + 1]? = some (.cells #[.int .i64 bf, .int .i64 bt, .int .i64 bk, .int .i64 bv] 26) := by
    rw [← hV]
    have := World.alloc_heap_new (w.alloc (.cells #[.int .i64 af, .int .i64 at_, .int .i64 ak, .int .i64 av] 26)) (.cells #[.int .i64 bf, .int .i64 bt, .int .i64 bk, .int .i64 bv] 26)
    rw [World.size_alloc] at this
    exact this
  rw [hV] at HB ⊢
  have a0 : V.cell? ⟨w.heap.size, 0, none⟩ = some (.int .i64 af) := by simp [World.cell?, n0]
  have a1 : V.cell? ⟨w.heap.size, 1, none⟩ = some (.int .i64 at_) := by simp [World.cell?, n0]
  have b0 : V.cell? ⟨w.heap.size + 1, 0, none⟩ = some (.int .i64 bf) := by simp [World.cell?, n1]
  have b1 : V.cell? ⟨w.heap.size + 1, 1, none⟩ = some (.int .i64 bt) := by simp [World.cell?, n1]
  clear hV n0 n1
  go_region_held3 (fun w' => w'.cell? ⟨w.heap.size, 0, none⟩ = some (.int .i64 af) ∧ w'.cell? ⟨w.heap.size, 1, none⟩ = some (.int .i64 at_) ∧ w'.cell? ⟨w.heap.size + 1, 0, none⟩ = some (.int .i64 bf) ∧ w'.cell? ⟨w.heap.size + 1, 1, none⟩ = some (.int .i64 bt)) (first | go_keep | assumption)
    (first | (go_at_call 50; first | ((with_reducible refine (H1.out _).mono ?_); rintro e w3 ⟨rfl, rfl⟩) | ((with_reducible refine (H2.out _).mono ?_); rintro e w3 ⟨rfl, rfl⟩)) | (go_at_call 49; (with_reducible refine (HO.out V.heap.size _ (by simp) (by simp)).mono ?_); rintro e w3 ⟨rfl, rfl⟩))
  all_goals
    go_wp2_with fail
    refine bodyPost_ret (v := .int .i64 z) (by simp [results, Tryz.results44, go_sem]) rfl ⟨rfl, ?_⟩
    first | exact HB.out.alloc _ | exact (HB.out.alloc _).drew | exact HB.out.drew.alloc _
/-- The order of a normal form's spans: by where they begin, the longer one first, by kind. -/
def cnI (a b : Sp) : Int := if csI a b = 0 then cpI a.kd b.kd else csI a b
def ltN (a b : Sp) : Bool := decide (cnI a b < 0)
theorem cn_lt (a b : Sp) : cnI a b < 0 ↔ a.fr < b.fr ∨ a.fr = b.fr ∧ (b.tt < a.tt ∨ b.tt = a.tt ∧ a.kd < b.kd) := by
  unfold cnI
  rw [cs_eq]
  unfold cpI
  by_cases h1 : a.fr < b.fr <;> by_cases h2 : b.fr < a.fr <;> by_cases h3 : b.tt < a.tt <;> by_cases h4 : a.tt < b.tt <;> by_cases h5 : a.kd < b.kd <;> by_cases h6 : b.kd < a.kd <;> simp [h1, h2, h3, h4, h5, h6] <;> omega
theorem ltN_iff (a b : Sp) : ltN a b = true ↔ a.fr < b.fr ∨ a.fr = b.fr ∧ (b.tt < a.tt ∨ b.tt = a.tt ∧ a.kd < b.kd) := by
  unfold ltN
  rw [decide_eq_true_iff, cn_lt]
theorem ltN_no (a b : Sp) : ltN a b = false ↔ ¬ (a.fr < b.fr ∨ a.fr = b.fr ∧ (b.tt < a.tt ∨ b.tt = a.tt ∧ a.kd < b.kd)) := by
  rw [← ltN_iff]
  simp
theorem sortN : Sort.SWO (ltOf cnI) where
  irrefl x := by rw [show ltOf cnI x x = ltN x x from rfl, ltN_no]; omega
  trans x y z h1 h2 := by rw [show ltOf cnI x z = ltN x z from rfl, ltN_iff]; rw [show ltOf cnI x y = ltN x y from rfl, ltN_iff] at h1; rw [show ltOf cnI y z = ltN y z from rfl, ltN_iff] at h2; omega
  ntrans x y z h1 h2 := by rw [show ltOf cnI x z = ltN x z from rfl, ltN_no]; rw [show ltOf cnI x y = ltN x y from rfl, ltN_no] at h1; rw [show ltOf cnI y z = ltN y z from rfl, ltN_no] at h2; omega
set_option maxRecDepth 100000 in
set_option maxHeartbeats 1000000 in
/-- style.normal's own compare. -/
theorem ncmp_gr (a b : Sp) (w : World) : Calls Tryz.prog 48 #[a.val, b.val] w fun e w' => e = .returned (.int .i64 (cnI a b)) ∧ Gr w w' := by
  unfold cnI
  have HS := hideS (stretch_gr a b)
  have H2 := hideS (cmpI_any a.kd b.kd)
  generalize csI a b = x at *
  generalize cpI a.kd b.kd = y at *
  have HO := hideS (orI_any x y)
  generalize hz : (if x = 0 then y else x) = z at *
  clear hz
  obtain ⟨af, at_, ak, av⟩ := a
  obtain ⟨bf, bt, bk, bv⟩ := b
  unfold Sp.val at *
  simp only at HS H2 ⊢
  have HB := hideS (((Gr.refl w).alloc (.cells #[.int .i64 af, .int .i64 at_, .int .i64 ak, .int .i64 av] 26)).alloc (.cells #[.int .i64 bf, .int .i64 bt, .int .i64 bk, .int .i64 bv] 26))
  go_enter Tryz.func48, Tryz.ntmps48
  go_wp2_with fail
  obtain ⟨V, hV⟩ : ∃ V, (w.alloc (.cells #[.int .i64 af, .int .i64 at_, .int .i64 ak, .int .i64 av] 26)).alloc (.cells #[.int .i64 bf, .int .i64 bt, .int .i64 bk, .int .i64 bv] 26) = V := ⟨_, rfl⟩
  have n0 : V.heap[w.heap.size]? = some (.cells #[.int .i64 af, .int .i64 at_, .int .i64 ak, .int .i64 av] 26) := by
    rw [← hV]
    exact (Below.heap_alloc _ _ _ (by simp)).trans (World.alloc_heap_new w _)
  have n1 : V.heap[w.heap.size + 1]? = some (.cells #[.int .i64 bf, .int .i64 bt, .int .i64 bk, .int .i64 bv] 26) := by
    rw [← hV]
    have := World.alloc_heap_new (w.alloc (.cells #[.int .i64 af, .int .i64 at_, .int .i64 ak, .int .i64 av] 26)) (.cells #[.int .i64 bf, .int .i64 bt, .int .i64 bk, .int .i64 bv] 26)
    rw [World.size_alloc] at this
    exact this
  rw [hV] at HB ⊢
  have HK := hideS (fun (U : World) (h : Gr V U) => show (U.cell? ⟨w.heap.size, 0, none⟩ = some (.int .i64 af) ∧ U.cell? ⟨w.heap.size, 1, none⟩ = some (.int .i64 at_) ∧ U.cell? ⟨w.heap.size, 2, none⟩ = some (.int .i64 ak) ∧ U.cell? ⟨w.heap.size, 3, none⟩ = some (.int .i64 av)) ∧ U.cell? ⟨w.heap.size + 1, 0, none⟩ = some (.int .i64 bf) ∧ U.cell? ⟨w.heap.size + 1, 1, none⟩ = some (.int .i64 bt) ∧ U.cell? ⟨w.heap.size + 1, 2, none⟩ = some (.int .i64 bk) ∧ U.cell? ⟨w.heap.size + 1, 3, none⟩ = some (.int .i64 bv) from by
    have m0 := (h.below.block w.heap.size (Array.getElem?_eq_some_iff.1 n0).1).trans n0
    have m1 := (h.below.block (w.heap.size + 1) (Array.getElem?_eq_some_iff.1 n1).1).trans n1
    simp [World.cell?, m0, m1])
  have g8 : Gr V V.drew := (Gr.refl V).drew
  have S8 := HK.out _ g8
  clear hV n0 n1
  go_region_held3 (fun w' => (w'.cell? ⟨w.heap.size, 0, none⟩ = some (.int .i64 af) ∧ w'.cell? ⟨w.heap.size, 1, none⟩ = some (.int .i64 at_) ∧ w'.cell? ⟨w.heap.size, 2, none⟩ = some (.int .i64 ak) ∧ w'.cell? ⟨w.heap.size, 3, none⟩ = some (.int .i64 av)) ∧ w'.cell? ⟨w.heap.size + 1, 0, none⟩ = some (.int .i64 bf) ∧ w'.cell? ⟨w.heap.size + 1, 1, none⟩ = some (.int .i64 bt) ∧ w'.cell? ⟨w.heap.size + 1, 2, none⟩ = some (.int .i64 bk) ∧ w'.cell? ⟨w.heap.size + 1, 3, none⟩ = some (.int .i64 bv)) (first | assumption | go_keep)
    (first
    | (go_at_call 50; (with_reducible refine (H2.out _).mono ?_); rintro e w3 ⟨rfl, rfl⟩)
    | (go_at_call 44; refine (HS.out _).mono ?_; rintro e w4 ⟨rfl, g4⟩; have G4 := g8.trans g4; have S4 := HK.out _ G4)
    | (go_at_call 49; (with_reducible refine (HO.out _ _ (by simp) (by simp)).mono ?_); rintro e w5 ⟨rfl, rfl⟩))
  all_goals
    go_wp2_with fail
    refine bodyPost_ret (v := .int .i64 z) (by simp [results, Tryz.results48, go_sem]) rfl ⟨rfl, ?_⟩
    first | exact HB.out.trans (G4.alloc _) | exact HB.out.trans ((G4.alloc _).drew)
end Go.Proofs.YtkamjlpnenldbaaGreatDoor

/- slices.SortFunc by style.normal's compare, over a row of spans that is owned (chapter 7). -/
namespace Go.Proofs.YtkamjlpnenldbaaGreatDoor
open Go.RowKit Go.Shelf
open Go.Sort (flatK get_flatK size_flatK HoldsK)
attribute [local go_sem] Oper.semAt_some

theorem mg_perm {α : Type} (lt : α → α → Bool) (L R : List α) : (mg lt L R).Perm (L ++ R) := by
  induction L generalizing R with
  | nil => rw [mg_left]; simp
  | cons x L ih =>
    induction R with
    | nil => rw [mg_nil]; simp
    | cons y R ih2 =>
      cases h : lt y x with
      | true =>
        rw [mg_lt L R h]
        exact (List.Perm.cons y ih2).trans List.perm_middle.symm
      | false =>
        rw [mg_ge L R h, List.cons_append]
        exact List.Perm.cons x (ih _)
theorem isort_perm {α : Type} (lt : α → α → Bool) (l : List α) : (isort lt l).Perm l := by
  have h : ∀ r : List α, (isort lt r.reverse).Perm r.reverse := by
    intro r
    induction r with
    | nil => exact List.Perm.refl _
    | cons x r ih =>
      rw [List.reverse_cons, isort_snoc]
      exact (mg_perm lt _ _).trans (List.Perm.append_right _ ih)
  have h9 := h l.reverse
  rwa [List.reverse_reverse] at h9
theorem swoN : Swo ltN where
  asym x y h := by rw [ltN_no]; rw [ltN_iff] at h; omega
  ntr x y z h1 h2 := by rw [ltN_no] at *; omega
/-- What is in order, and of the same spans, is one. -/
theorem sorted_one {D E : List Sp} (hU : ∀ x ∈ D, ∀ y ∈ D, x.kd = y.kd → x.fr = y.fr → x = y) (hP : E.Perm D) (hS : Srt ltN E) : E = isort ltN D := by
  refine List.Perm.eq_of_pairwise (le := fun x y => ltN y x = false) ?_ hS (isort_sorted swoN D) (hP.trans (isort_perm ltN D).symm)
  intro a b ha hb h1 h2
  rw [ltN_no] at h1 h2
  exact hU a (hP.mem_iff.1 ha) b ((isort_perm ltN D).mem_iff.1 hb) (by omega) (by omega)
instance instSpN : Inhabited Sp := ⟨⟨0, 0, 0, 0⟩⟩
def encS (x : Sp) : List Value := [.int .i64 x.fr, .int .i64 x.tt, .int .i64 x.kd, .int .i64 x.vl]
theorem flatK_at (d : Array Sp) (t : Nat) (h : t < d.size * 4) : (flat4 d.toList)[t]? = some (flatK encS 4 d)[t]! := by
  rw [get_flatK encS 4 d t h]
  have hq : t / 4 < d.size := by omega
  have hp : d.toList[t / 4]? = some d[t / 4]! := by rw [Array.getElem?_toList, getElem!_pos d (t / 4) hq, Array.getElem?_eq_getElem hq]
  obtain ⟨c0, c1, c2, c3⟩ := flat4_at d.toList (t / 4) _ hp
  have hm : t % 4 = 0 ∨ t % 4 = 1 ∨ t % 4 = 2 ∨ t % 4 = 3 := by omega
  have ht : t = t / 4 * 4 + t % 4 := by omega
  rcases hm with e | e | e | e
  · rw [e] at ht ⊢
    rw [Nat.add_zero] at ht
    rw [← ht] at c0
    rw [c0]
    rfl
  · rw [e] at ht ⊢
    rw [← ht] at c1
    rw [c1]
    rfl
  · rw [e] at ht ⊢
    rw [← ht] at c2
    rw [c2]
    rfl
  · rw [e] at ht ⊢
    rw [← ht] at c3
    rw [c3]
    rfl
theorem own_holdsN {W : World} {base g cap : Nat} {D : List Sp} (h : W.ownsRow base 26 4 (.slice (some ⟨g, 0, none⟩) D.length cap) D.length (flat4 D)) : HoldsK encS 4 W g 0 D.toArray ∧ g < W.heap.size := by
  rcases h.2 with ⟨q, _⟩ | ⟨g', cap', cur, q, _, hg, _, _, _, h4⟩
  · simp at q
  · simp only [Value.slice.injEq, Option.some.injEq, Addr.mk.injEq, and_true, true_and] at q
    obtain ⟨rfl, rfl⟩ := q
    refine ⟨fun j hj => ?_, (Array.getElem?_eq_some_iff.1 hg).1⟩
    rw [size_flatK] at hj
    have h9 := flatK_at D.toArray j hj
    rw [List.size_toArray] at hj
    rw [← h4, List.getElem?_take, if_pos hj, Array.getElem?_toList] at h9
    simp [World.cell?, World.frozen?, hg, h9]
set_option maxHeartbeats 1000000 in
theorem nsort_own (D : List Sp) (base g cap n : Nat) (hn : D.length = n) (hl : n ≤ 1048576) (w : World) (own : w.ownsRow base 26 4 (.slice (some ⟨g, 0, none⟩) n cap) n (flat4 D))
    (hU : ∀ x ∈ D, ∀ y ∈ D, x.kd = y.kd → x.fr = y.fr → x = y) :
    Calls Tryz.prog 47 #[.slice (some ⟨g, 0, none⟩) n cap, .func (.func 48) #[] #[]] w fun e w' =>
      e = .returned (.tuple #[]) ∧ w'.ownsRow base 26 4 (.slice (some ⟨g, 0, none⟩) n cap) n (flat4 (isort ltN D)) ∧ But (fun k => k = g) w w' := by
  subst hn
  have hmx : maxLen ≤ 9223372036854775807 := by decide
  have hD := own.1
  have eg : ∀ args w, (callFunc 48 args).run Tryz.prog w = .ok (.enter 48 args) w := enters_of Tryz.func48 (by kernel_rfl) rfl
  have hcmp : CmpLays Tryz.prog 48 #[] encS 4 cnI g 0 D.toArray.size w := fun m os dk _ x y => by
    have h9 := ncmp_gr x y (sortWorldK encS 4 w g 0 m dk os)
    exact h9
  obtain ⟨hH, hg⟩ := own_holdsN own
  have hsz : D.toArray.size < 4611686018427387904 := by rw [List.size_toArray]; omega
  have hcon := AnyQ.slices_SortFunc layN6 4 spanAgg spanSize encS (fun _ => rfl) (fun x v hv => by simp [encS] at hv; rcases hv with rfl | rfl | rfl | rfl <;> rfl) cnI sortN 48 #[] g 0 cap D.toArray w eg hcmp hH hg hsz
  rw [List.size_toArray] at hcon
  refine Calls.mono hcon ?_
  rintro e w' ⟨rfl, d', m, os, hp, hs, rfl⟩
  obtain ⟨h1, -, h2⟩ := hp
  replace h1 : d'.size = D.length := by simpa using h1
  have e1 : d'.extract 0 D.length = d' := by rw [← h1]; exact Array.extract_size
  have e2 : D.toArray.extract 0 D.length = D.toArray := by
    have := Array.extract_size (xs := D.toArray)
    rwa [List.size_toArray] at this
  rw [e1, e2] at h2
  have hS : Srt ltN d'.toList := by
    unfold Srt
    rw [List.pairwise_iff_getElem]
    intro i j hi hj hij
    have hi' : i < d'.size := by simpa using hi
    have hj' : j < d'.size := by simpa using hj
    have := hs i j (Nat.zero_le _) hij (by omega)
    rw [getElem!_pos d' j hj', getElem!_pos d' i hi'] at this
    exact this
  have hE := sorted_one hU h2 hS
  rw [← hE]
  refine ⟨rfl, ⟨by rw [flat4_len, Array.length_toList, h1], Or.inr ?_⟩, ⟨rfl, rfl, rfl, ?_, fun k hk hne => ?_⟩⟩
  · rcases own.2 with ⟨q, _⟩ | ⟨g', cap', cur, q, hb, hgg, hc1, hc2, hc3, h4⟩
    · simp at q
    · simp only [Value.slice.injEq, Option.some.injEq, Addr.mk.injEq, and_true, true_and] at q
      obtain ⟨rfl, rfl⟩ := q
      refine ⟨g, cap, Sort.putCells id 0 (flatK encS 4 d') cur, rfl, hb, ?_, hc1, hc2, by simp [Sort.putCells, hc3], ?_⟩
      · show (((w.heap.modify g _) ++ os)[g]?) = _
        rw [Array.getElem?_append_left (by rw [Array.size_modify]; exact hg), Array.getElem?_modify, if_pos rfl, hgg]
        rfl
      · apply List.ext_getElem?
        intro t
        rw [List.getElem?_take]
        by_cases ht : t < D.length * 4
        · rw [if_pos ht, flatK_at d' t (by omega), Array.getElem?_toList]
          simp only [Sort.putCells, Array.getElem?_mapIdx, Nat.zero_le, true_and, Nat.zero_add, size_flatK, Nat.sub_zero, id]
          rw [Array.getElem?_eq_getElem (by rw [hc3]; omega)]
          simp only [Option.map_some, h1, if_pos ht]
        · rw [if_neg ht, List.getElem?_eq_none (by rw [flat4_len, Array.length_toList, h1]; omega)]
  · show w.heap.size ≤ ((w.heap.modify g _) ++ os).size
    rw [Array.size_append, Array.size_modify]
    omega
  · show (((w.heap.modify g _) ++ os)[k]?) = _
    rw [Array.getElem?_append_left (by rw [Array.size_modify]; exact hk), Array.getElem?_modify, if_neg (fun e => hne e.symm)]
theorem nsort_nil (o : Option Addr) (cap : Nat) (f : Value) (w : World) : Calls Tryz.prog 47 #[.slice o 0 cap, f] w fun e w' => e = .returned (.tuple #[]) ∧ w' = w := AnyF.slices_SortFunc_none layN6 o cap f w
end Go.Proofs.YtkamjlpnenldbaaGreatDoor

/- style.normal (chapter 7). -/
namespace Go.Proofs.YtkamjlpnenldbaaGreatDoor
open Go.RowKit Go.Shelf
attribute [local go_sem] Oper.semAt_some

theorem strG_len (k : Int) (C : List Sp) : ∀ (L : List Rn) (acc : List Sp), (L.foldl (strStep k C) acc).length ≤ acc.length + L.length
  | [], acc => by simp
  | r :: L, acc => by
    have h1 := strG_len k C L (strStep k C acc r)
    have h2 := (sstep_len k C acc r).2
    rw [List.foldl_cons, List.length_cons]
    omega
theorem strM_len (k : Int) (C : List Sp) (L : List Rn) : (strM k C L).length ≤ L.length := by
  have h := strG_len k C L []
  rw [List.length_nil, Nat.zero_add] at h
  exact h
theorem ch_last : ∀ {L : List Rn} {f n : Int}, ChR f L n → ∀ r, L.getLast? = some r → r.tt = n
  | [], f, n, h, r, hr => by simp at hr
  | [q], f, n, h, r, hr => by
    simp at hr
    subst hr
    rw [ChR, ChR] at h
    exact h.2.2
  | q :: q2 :: L, f, n, h, r, hr => by
    rw [ChR] at h
    exact ch_last h.2.2 r (by rw [← hr, List.getLast?_cons_cons])
/-- The kinds from one on. -/
def kindsF (d : Nat) : List Int := ([1, 2, 3, 4, 5] : List Int).drop (d - 1)
theorem kinds_next {d : Nat} (h1 : 1 ≤ d) (h2 : d ≤ 5) : kindsF d = (d : Int) :: kindsF (d + 1) := by
  have : d = 1 ∨ d = 2 ∨ d = 3 ∨ d = 4 ∨ d = 5 := by omega
  rcases this with rfl | rfl | rfl | rfl | rfl <;> rfl
theorem CuB.but {W V : World} {G m : Nat} {C : List Sp} (h : CuB W G m C) (e : V.heap[G]? = W.heap[G]?) : CuB V G m C := by
  obtain ⟨cur, h1, h2⟩ := h
  exact ⟨cur, e.trans h1, h2⟩
theorem CuB.set2 {W : World} {G m : Nat} {C : List Sp} (h : CuB W G m C) (x : Sp) (a b : Nat) (ha : x.fr = (a : Int)) (hb : x.tt = (b : Int)) :
    CuB ((W.setCell ⟨G, a, none⟩ (.bool true)).setCell ⟨G, b, none⟩ (.bool true)) G m (C ++ [x]) := by
  obtain ⟨cur, h1, h2, h3⟩ := h
  refine ⟨(cur.setIfInBounds a (.bool true)).setIfInBounds b (.bool true), set_atS (set_atS h1 _ _) _ _, by simp; exact h2, fun p hp => ?_⟩
  rw [Array.getElem?_setIfInBounds, Array.getElem?_setIfInBounds, h3 p hp, cutB_app]
  by_cases e1 : b = p
  · subst e1
    rw [if_pos rfl, if_pos (by simp; omega)]
    simp [cutB, hb]
  · rw [if_neg e1]
    by_cases e2 : a = p
    · subst e2
      rw [if_pos rfl, if_pos (by omega)]
      simp [cutB, ha]
    · rw [if_neg e2]
      have e3 : ¬ x.fr = (p : Int) := by omega
      have e4 : ¬ x.tt = (p : Int) := by omega
      simp [cutB, e3, e4]
theorem CuB.one {W : World} {G m : Nat} {C : List Sp} (h : CuB W G m C) (a b : Nat) (hb : b < m) : ∃ y, (W.setCell ⟨G, a, none⟩ (.bool true)).cell? ⟨G, b, none⟩ = some (.bool y) ∧ (W.setCell ⟨G, a, none⟩ (.bool true)).frozen? ⟨G, b, none⟩ = false := by
  obtain ⟨cur, h1, h2, h3⟩ := h
  have h9 := set_atS h1 a (.bool true)
  by_cases e : a = b
  · subst e
    refine ⟨true, ?_, by simp [World.frozen?, h9]⟩
    unfold World.cell?
    rw [h9]
    simp only
    rw [if_neg (by simp), Array.getElem?_setIfInBounds, if_pos rfl, if_pos (by omega)]
  · refine ⟨cutB C (b : Int), ?_, by simp [World.frozen?, h9]⟩
    unfold World.cell?
    rw [h9]
    simp only
    rw [if_neg (by simp), Array.getElem?_setIfInBounds, if_neg e, h3 b hb]
theorem infoBool : (Tryz.prog.info? 4).map (fun i => (i.zero, i.size, i.bytes)) = some (some (.bool false), 1, 1) := by kernel_rfl
theorem own_cub {W : World} {base g m : Nat} (h : W.ownsRow base 4 1 (.slice (some ⟨g, 0, none⟩) m m) m (madeCells (Value.bool false).cells (m * 1)).toList) : CuB W g m [] := by
  rcases h.2 with ⟨q, _⟩ | ⟨g', cap', cur, q, _, hg, hc1, hc2, hc3, h4⟩
  · simp at q
  · simp only [Value.slice.injEq, Option.some.injEq, Addr.mk.injEq, and_true, true_and] at q
    obtain ⟨rfl, rfl⟩ := q
    refine ⟨cur, hg, by omega, fun p hp => ?_⟩
    have h9 : (madeCells (Value.bool false).cells (m * 1)).toList[p]? = some (.bool false) := by
      rw [show (Value.bool false).cells = #[.bool false] from rfl]
      simp [madeCells, hp, Nat.mod_one]
    rw [← h4, List.getElem?_take, if_pos (by omega), Array.getElem?_toList] at h9
    rw [h9]
    simp [cutB]
theorem own_butN {W V : World} {base g : Nat} {e : TypeId} {size : Nat} {v : Value} {n : Nat} {xs : List Value} (h : W.ownsRow base e size v n xs) (b : But (fun k => k = g) W V) (hg : g < base) : V.ownsRow base e size v n xs := by
  refine ⟨h.1, ?_⟩
  rcases h.2 with hn | ⟨g', cap, cur, rfl, hb, hgg, rest⟩
  · exact .inl hn
  · exact .inr ⟨g', cap, cur, rfl, hb, (b.same g' (Array.getElem?_eq_some_iff.1 hgg).1 (by omega)).trans hgg, rest⟩
theorem but_grown {W V U : World} {g base : Nat} {row : Option Nat} (h : But (fun k => k = g) W V) (k : V.grownBy U row) (hz : W.heap.size ≤ base) (hr : ∀ j, row = some j → base ≤ j) : But (fun k => k = g) W U :=
  ⟨k.os.trans h.os, k.tape.trans h.tape, k.output.trans h.output, Nat.le_trans h.size k.size, fun j hj hne => (k.block j (Nat.lt_of_lt_of_le hj h.size) (fun e => by have := hr j e.symm; omega)).trans (h.same j hj hne)⟩
set_option maxRecDepth 100000 in
set_option maxHeartbeats 4000000 in
theorem normal_any (L : List Rn) (n : Int) (oa : Option Addr) (ca : Nat) (hl : L.length ≤ 5000) (hch : ChR 0 L n) (hco : ∀ r ∈ L, 0 ≤ r.a.c ∧ r.a.c ≤ 16777216) (hn : n ≤ 1048576) (w : World) (hR : RnO w oa L) :
    Calls Tryz.prog 30 #[.slice oa L.length ca] w fun e w' => ∃ v, e = .returned v ∧ w'.ownsRow w.heap.size 26 4 v (isort ltN (normG L)).length (flat4 (isort ltN (normG L))) ∧ Below w.heap.size w w' := by
  obtain ⟨i0, hi, hz0, hz1, hz2⟩ := info_parts infoSp
  obtain ⟨i1, hi1, hy0, hy1, hy2⟩ := info_parts infoBool
  obtain ⟨m, hm⟩ : ∃ m : Nat, (m : Int) = n + 1 := ⟨(n + 1).toNat, by have := (ch_le hch).1; omega⟩
  have HSt := hideS (fun (d : Nat) (hd : 1 ≤ d ∧ d ≤ 5) (C : List Sp) (G cc : Nat) (W : World) (b : Below w.heap.size w W) (hC : CuB W G m C) => stretches_any L (d : Int) n C oa ca G cc m ⟨by omega, by omega⟩ (by omega) hch hco hm W (hR.keep b) hC)
  have HOk := hideS (fun (d : Nat) (C : List Sp) => And.intro (strM_ok (d : Int) C L n hch) (strM_len (d : Int) C L))
  have HIn := hideS (fun (d : Nat) (C : List Sp) => str_bnd (d : Int) C (fun p => 0 ≤ p ∧ p ≤ n) L [] (fun r hr => by have := (ch_le hch).2 r hr; omega) (fun x hx => by simp at hx))
  have hU := (normG_mem hch).2
  have HLs := hideS (ch_last hch)
  obtain ⟨N, hN⟩ : ∃ N, L.length = N := ⟨_, rfl⟩
  have HN := hideS (And.intro hN (And.intro hR hU))
  rw [hN] at hl HSt ⊢
  by_cases h0 : N = 0
  · subst h0
    obtain rfl : L = [] := List.eq_nil_of_length_eq_zero hN
    have HF : Hid (w.ownsRow w.heap.size 26 4 (.slice none 0 0) (isort ltN (normG ([] : List Rn))).length (flat4 (isort ltN (normG ([] : List Rn))))) := hideS (World.ownsRow_nil _ _ _ _)
    clear hR hU hN
    go_enter Tryz.func30, Tryz.ntmps30
    go_wp2_with fail
    go_ret
    exact ⟨_, rfl, HF.out, Below.refl _ _⟩
  obtain ⟨R, hRv⟩ : ∃ R, normG L = R := ⟨_, rfl⟩
  rw [hRv] at HN ⊢
  have HR := hideS hRv
  have hm2 : m ≤ 1048577 := by omega
  obtain ⟨r, hr⟩ : ∃ r, L[N - 1]? = some r := ⟨_, List.getElem?_eq_getElem (by omega)⟩
  obtain ⟨a, rfl, _, k0, k1, k2, k3, k4, k5, k6⟩ := hR (N - 1) r hr
  have hrt : r.tt = n := HLs.out r (by rw [List.getLast?_eq_getElem?, hN]; exact hr)
  rw [hrt] at k1
  obtain ⟨q, hq⟩ : ∃ q, N - 1 = q := ⟨_, rfl⟩
  rw [hq] at k0 k1 k2 k3 k4 k5 k6
  have j0 : ((N : Int) == 0) = false := by simp; omega
  have j1 : (N : Int) - 1 = (q : Int) := by omega
  have j2 : IntKind.i64.wrap (q : Int) = (q : Int) := IntWalk.i64_in _ ⟨by omega, by omega⟩
  have j3 : (0 : Int) ≤ (q : Int) := by omega
  have j4 : (q : Int) < (N : Int) := by omega
  have j5 : q < N := by omega
  have j6 : IntKind.i64.wrap (n + 1) = n + 1 := IntWalk.i64_in _ ⟨by omega, by omega⟩
  have HM := hideS hm
  clear hR hU hN hRv hr hrt hq hm hch hco
  go_enter Tryz.func30, Tryz.ntmps30
  go_wp2_with (at_make; refine wpList_make_full _ rfl _ _ 85 rfl w.heap.size 4 i1 (.bool false) 1 Tryz.underlying85 hi1 hy0 hy1 .i64 .i64 _ _ m rfl rfl HM.out.symm HM.out.symm (by rw [hy2]; omega) (by unfold maxLen; omega) (Nat.le_refl _) ?_; intro w1 own1 gr1)
  have b1 : Below w.heap.size w w1 := Below.grown (Below.refl _ _) gr1 (Nat.le_refl _) (fun k hk => by cases hk)
  have H1 := hideS (And.intro b1 (own_cub own1))
  clear own1 gr1 b1 k0 k1 k2 k3 k4 k5 k6
  go_loopw [3, 5] (fun v iv wq => ∃ (d : Nat) (acc : List Sp), iv = .int .i64 (d : Nat) ∧ 1 ≤ d ∧ d ≤ 6 ∧ acc.length ≤ (d - 1) * 5000 ∧ wq.ownsRow w1.heap.size 26 4 v acc.length (flat4 acc) ∧ (kindsF d).foldl (norm1 L) acc = R ∧ CuB wq w.heap.size m acc ∧ But (fun k => k = w.heap.size) w1 wq) (fun _ iv _ => 6 - (intOf iv).toNat)
  case atStart => exact ⟨1, [], rfl, Nat.le_refl _, by omega, Nat.zero_le _, World.ownsRow_nil _ _ _ _, HR.out, H1.out.2, But.refl _ _⟩
  case round =>
    obtain ⟨d, acc, rfl, hd1, hd6, hal, hO, hgo, hcu, hbt⟩ := hrel
    obtain ⟨wq, rfl⟩ : ∃ wq, wq = wr := ⟨_, rfl⟩
    by_cases hlt : d ≤ 5
    · rw [kinds_next hd1 hlt, List.foldl_cons] at hgo
      have e1 : (d : Int) ≤ 5 := by omega
      have wi : IntKind.i64.wrap ((d : Int) + 1) = ((d + 1 : Nat) : Int) := by rw [show ((d + 1 : Nat) : Int) = (d : Int) + 1 by omega]; exact IntWalk.i64_in _ ⟨by omega, by omega⟩
      have hbw : Below w.heap.size w wq := H1.out.1.trans (hbt.below H1.out.1.size (fun k e => by omega))
      have HS := hideS (fun cc => HSt.out d ⟨hd1, hlt⟩ acc w.heap.size cc wq hbw hcu)
      obtain ⟨E, hE⟩ : ∃ E, strM (d : Int) acc L = E := ⟨_, rfl⟩
      have hE1 := HOk.out d acc
      have hE2 := HIn.out d acc
      change ∀ x ∈ strM (d : Int) acc L, _ at hE2
      unfold norm1 at hgo
      rw [hE] at HS hE1 hE2 hgo
      have HA := hideS (And.intro hO (And.intro hgo (And.intro hcu (And.intro hbt (And.intro hbw (And.intro hE1 hE2))))))
      clear hO hgo hcu hbt hbw hE hE1 hE2
      go_upto_region 8 with fail
      go_upto_region 9 with (first | (go_at_call 46; (with_reducible refine (HS.out _).mono ?_); rintro e w2 ⟨v2, rfl, own2, b2⟩))
      obtain ⟨o2, c2, rfl, hc2, hn2, hS2, hnl⟩ := own_sc own2 rfl
      obtain ⟨EN, hEN⟩ : ∃ EN, E.length = EN := ⟨_, rfl⟩
      rw [hEN] at hc2 ⊢
      have HE := hideS (And.intro hEN (And.intro own2 (And.intro b2 (And.intro hS2 hnl))))
      have hEl : EN ≤ 5000 := by have := HA.out.2.2.2.2.2.1.2; have := HN.out.1; omega
      have HG : Hid (w.heap.size < w1.heap.size ∧ w1.heap.size ≤ wq.heap.size ∧ wq.heap.size ≤ w2.heap.size) := hideS ⟨H1.out.2.lt, HA.out.2.2.2.1.size, b2.size⟩
      clear own2 b2 hS2 hnl hn2 hEN
      go_wp2_with fail
      go_loopw [31] (fun iv ws => ∃ i : Nat, iv = .int .i64 (i : Nat) ∧ i ≤ EN ∧ CuB ws w.heap.size m (acc ++ E.take i) ∧ But (fun k => k = w.heap.size) w2 ws) (fun iv _ => EN - (intOf iv).toNat)
      case atStart => exact ⟨0, rfl, Nat.zero_le _, by rw [List.take_zero, List.append_nil]; exact HA.out.2.2.1.keep HE.out.2.2.1, But.refl _ _⟩
      case round =>
        obtain ⟨i, rfl, hiN, hcs, hbs⟩ := hrel
        obtain ⟨ws, rfl⟩ : ∃ ws, ws = wr := ⟨_, rfl⟩
        by_cases hlt2 : i < EN
        · obtain ⟨x, hx⟩ : ∃ x, E[i]? = some x := ⟨_, List.getElem?_eq_getElem (by rw [HE.out.1]; exact hlt2)⟩
          have hxm := HA.out.2.2.2.2.2.2 x (List.mem_of_getElem? hx)
          obtain ⟨pa, hpa⟩ : ∃ pa : Nat, x.fr = (pa : Int) := ⟨x.fr.toNat, by omega⟩
          obtain ⟨pb, hpb⟩ : ∃ pb : Nat, x.tt = (pb : Int) := ⟨x.tt.toNat, by omega⟩
          have hm9 := HM.out
          have pa1 : pa < m := by omega
          have pb1 : pb < m := by omega
          have pa2 : (pa : Int) < (m : Int) := by omega
          have pb2 : (pb : Int) < (m : Int) := by omega
          have pa3 : (0 : Int) ≤ (pa : Int) := by omega
          have pb3 : (0 : Int) ≤ (pb : Int) := by omega
          cases o2 with
          | none =>
            have := HE.out.2.2.2.2 rfl
            rw [this] at hx
            simp at hx
          | some ad =>
            obtain ⟨g, rfl, hg, hSC⟩ := HE.out.2.2.2.1 ad rfl
            have hgne : g ≠ w.heap.size := by have := HG.out; omega
            have hSs := hSC.same (hbs.same g hSC.lt hgne)
            obtain ⟨⟨x0, x1, x2, x3⟩, _⟩ := hSs.at hx
            rw [hpa] at x0
            rw [hpb] at x1
            have etk : acc ++ E.take (i + 1) = acc ++ E.take i ++ [x] := by
              rw [List.take_add_one, hx]
              simp
            obtain ⟨V, hV⟩ : ∃ V, ws.alloc (.cells #[.int .i64 (pa : Int), .int .i64 (pb : Int), .int .i64 x.kd, .int .i64 x.vl] 26) = V := ⟨_, rfl⟩
            have nV : V.heap[ws.heap.size]? = some (.cells #[.int .i64 (pa : Int), .int .i64 (pb : Int), .int .i64 x.kd, .int .i64 x.vl] 26) := by rw [← hV]; exact World.alloc_heap_new ws _
            have bV : Below ws.heap.size ws V := by rw [← hV]; exact bel1S _ _
            have y0 : V.cell? ⟨ws.heap.size, 0, none⟩ = some (.int .i64 (pa : Int)) := by simp [World.cell?, nV]
            have y1 : V.cell? ⟨ws.heap.size, 1, none⟩ = some (.int .i64 (pb : Int)) := by simp [World.cell?, nV]
            have hcV := hcs.keep bV
            have z0 := (hcV.at pa1).1
            have z1 := (hcV.at pb1).1
            have f0 := (hcV.at pa1).2
            have f1 := (hcV.at pb1).2
            have nX : (V.setCell ⟨w.heap.size, pa, none⟩ (.bool true)).heap[ws.heap.size]? = some (.cells #[.int .i64 (pa : Int), .int .i64 (pb : Int), .int .i64 x.kd, .int .i64 x.vl] 26) := (Below.heap_setCell V ⟨w.heap.size, pa, none⟩ (.bool true) ws.heap.size (by have := HG.out; have := hbs.size; simp only; omega)).trans nV
            have y2 : (V.setCell ⟨w.heap.size, pa, none⟩ (.bool true)).cell? ⟨ws.heap.size, 0, none⟩ = some (.int .i64 (pa : Int)) := by simp [World.cell?, nX]
            have y3 : (V.setCell ⟨w.heap.size, pa, none⟩ (.bool true)).cell? ⟨ws.heap.size, 1, none⟩ = some (.int .i64 (pb : Int)) := by simp [World.cell?, nX]
            obtain ⟨yb, z2, f2⟩ := hcV.one pa pb pb1
            have HX := hideS (And.intro hpa (And.intro hpb (And.intro etk (And.intro hcV (hbs.below_trans bV)))))
            have d1 : (i : Int) < (EN : Int) := by omega
            have wi2 : IntKind.i64.wrap ((i : Int) + 1) = ((i + 1 : Nat) : Int) := by rw [show ((i + 1 : Nat) : Int) = (i : Int) + 1 by omega]; exact IntWalk.i64_in _ ⟨by omega, by omega⟩
            clear hx hxm hpa hpb etk hcs hbs hSs hSC hgne nV bV hcV hm9 hg nX
            go_upto_region 12 with fail
            try rw [hV]
            clear hV
            go_big_region
            have HNX : Hid (CuB ((V.setCell ⟨w.heap.size, pa, none⟩ (.bool true)).setCell ⟨w.heap.size, pb, none⟩ (.bool true)).drew w.heap.size m (acc ++ E.take (i + 1)) ∧ But (fun k => k = w.heap.size) w2 ((V.setCell ⟨w.heap.size, pa, none⟩ (.bool true)).setCell ⟨w.heap.size, pb, none⟩ (.bool true)).drew) := hideS ⟨by
              rw [HX.out.2.2.1]
              exact CuB.but (HX.out.2.2.2.1.set2 x pa pb HX.out.1 HX.out.2.1) rfl, ((HX.out.2.2.2.2.setCell (p := ⟨w.heap.size, pa, none⟩) rfl _).setCell (p := ⟨w.heap.size, pb, none⟩) rfl _).below_trans (Below.refl _ _).drew⟩
            go_wp2_with fail
            go_roundw
            case rel => exact ⟨i + 1, by first | rfl | simp, by omega, HNX.out.1, HNX.out.2⟩
            case measure => simp [intOf]; omega
        · obtain rfl : i = EN := by omega
          have d1 : ¬ (i : Int) < (i : Int) := by omega
          rw [List.take_of_length_le (by rw [HE.out.1]; exact Nat.le_refl _)] at hcs
          have HG1 := HG.out
          have bs2 : But (fun k => k = w.heap.size) w1 ws := (HA.out.2.2.2.1.below_trans HE.out.2.2.1).trans hbs
          have hO2 := own_butN (own_keep HA.out.1 HE.out.2.2.1) hbs HG1.1
          have hE2 := own_butN HE.out.2.1 hbs (by omega)
          obtain ⟨A, hA⟩ : ∃ A, acc.length = A := ⟨_, rfl⟩
          rw [hA] at hO2 hal
          have hgn := HA.out.2.1
          have sz := hbs.size
          have HZ := hideS (And.intro hO2 (And.intro hE2 (And.intro hcs (And.intro bs2 (And.intro hgn hA)))))
          have sz3 : w1.heap.size ≤ ws.heap.size := bs2.size
          cases o2 with
          | none =>
            obtain rfl : E = [] := HE.out.2.2.2.2 rfl
            obtain rfl : i = 0 := HE.out.1.symm
            obtain rfl : c2 = 0 := by
              rcases hE2.2 with ⟨q0, _⟩ | ⟨g, cap, cur, q0, _⟩
              · simp at q0
                exact q0
              · simp at q0
            have HRn := hideS (run_append_owned_none (P := Tryz.prog) (w := ws) w1.heap.size 22 22 26 i0 4 Tryz.underlying22 hi u3 _ _ hO2)
            clear hO2 hE2 hcs bs2 hgn hA hbs HG1 sz
            go_wp2_with (at_builtin; refine wpList_append_run rfl _ _ 22 22 rfl u3 (.slice none 0 0) u3 ws (by rfl) (by first | rfl | (simp; done)) HRn.out ?_)
            go_roundw
            case rel =>
              refine ⟨d + 1, acc, by first | rfl | simp, by omega, by omega, ?_, ?_, ?_, ?_, HZ.out.2.2.2.1⟩
              · rw [HZ.out.2.2.2.2.2]
                rw [show (d + 1 - 1) * 5000 = (d - 1) * 5000 + 5000 by omega]
                omega
              · rw [HZ.out.2.2.2.2.2]
                exact HZ.out.1
              · have h9 := HZ.out.2.2.2.2.1
                rw [List.append_nil] at h9
                exact h9
              · have h9 := HZ.out.2.2.1
                rw [List.append_nil] at h9
                exact h9
            case measure => simp [intOf]; omega
          | some ad =>
            obtain ⟨g, rfl, hg, hSC⟩ := HE.out.2.2.2.1 ad rfl
            have hfl := (hSC.same (hbs.same g hSC.lt (by omega))).spo.flat
            have HFl := hideS hfl
            have eF : (flat4 E).length = i * 4 := by rw [flat4_len, HE.out.1]
            have h1c := flat4_one E
            clear hO2 hE2 hcs bs2 hgn hA hbs HG1 sz hfl hSC hg
            go_wp2_with (at_builtin; refine wpList_append_own _ rfl _ _ 22 rfl w1.heap.size 26 i0 (.agg #[.int .i64 0, .int .i64 0, .int .i64 0, .int .i64 0]) 4 32 Tryz.underlying22 hi hz0 hz1 hz2 rfl (by decide) _ _ _ rfl HZ.out.1 ⟨g, 0, none⟩ i c2 (flat4 E) rfl eF HFl.out h1c (by unfold maxLen; omega) (by omega) sz3 ?_; intro v3 w3 hown3 hgrow3 _)
            have b3 := but_grown HZ.out.2.2.2.1 hgrow3 (Nat.le_refl _) (fun j hj => (HZ.out.1.lt j hj).1)
            have k3 := CuB.but HZ.out.2.2.1 (hgrow3.block w.heap.size (Nat.lt_of_lt_of_le HG.out.1 sz3) (fun e => by have := (HZ.out.1.lt _ e.symm).1; have := HG.out.1; omega))
            go_roundw
            case rel =>
              refine ⟨d + 1, acc ++ E, by first | rfl | simp, by omega, by omega, ?_, ?_, HZ.out.2.2.2.2.1, k3, b3⟩
              · rw [List.length_append, HZ.out.2.2.2.2.2, HE.out.1]
                rw [show (d + 1 - 1) * 5000 = (d - 1) * 5000 + 5000 by omega]
                omega
              · rw [List.length_append, HZ.out.2.2.2.2.2, HE.out.1, flat4_append]
                exact hown3
            case measure => simp [intOf]; omega
    · obtain rfl : d = 6 := by omega
      have e1 : ¬ ((6 : Nat) : Int) ≤ 5 := by omega
      change acc = R at hgo
      subst hgo
      have HB := hideS (And.intro H1.out.1 hbt)
      have HG : Hid (w.heap.size < w1.heap.size) := hideS H1.out.2.lt
      rcases hO.2 with ⟨e2, e3⟩ | ⟨g, cap, cur, e2, e3, e4⟩
      · obtain rfl : acc = [] := List.eq_nil_of_length_eq_zero e3
        subst e2
        clear hO hcu hbt e3
        go_wp2_with (first | (go_at_call 47; refine (nsort_nil _ _ _ _).mono ?_; rintro e w3 ⟨rfl, rfl⟩))
        go_ret
        refine ⟨_, rfl, World.ownsRow_nil _ _ _ _, ?_⟩
        exact HB.out.1.trans (HB.out.2.below HB.out.1.size (fun k e => by omega))
      · obtain ⟨A, hA⟩ : ∃ A, acc.length = A := ⟨_, rfl⟩
        rw [hA] at hO e2 hal
        subst e2
        have HS := hideS (nsort_own acc w1.heap.size g cap A hA (by omega) wq hO HN.out.2.2)
        have hl9 : (isort ltN acc).length = A := by rw [isort_length, hA]
        have HL9 := hideS (And.intro hl9 (Nat.lt_of_lt_of_le HG.out e3))
        clear hO hcu hbt e4 hl9 hA e3
        go_wp2_with (first | (go_at_call 47; (with_reducible refine HS.out.mono ?_); rintro e w3 ⟨rfl, own3, b3⟩))
        go_ret
        refine ⟨_, rfl, ?_, ?_⟩
        · rw [HL9.out.1]
          exact own_from own3 HB.out.1.size
        · exact (HB.out.1.trans (HB.out.2.below HB.out.1.size (fun k e => by omega))).trans (b3.below (Nat.le_trans HB.out.1.size HB.out.2.size) (fun k e => by have := HL9.out.2; omega))
end Go.Proofs.YtkamjlpnenldbaaGreatDoor

/- style.parts (chapter 7). -/
namespace Go.Proofs.YtkamjlpnenldbaaGreatDoor
open Go.RowKit Go.Shelf
attribute [local go_sem] Oper.semAt_some

/-- Do runs part so many signs, each of a colour that may be? -/
def partB : Int → List Rn → Int → Bool
  | f, [], n => decide (f = n)
  | f, r :: L, n => decide (r.fr = f ∧ r.fr < r.tt ∧ 0 ≤ r.a.c ∧ r.a.c ≤ 16777216) && partB r.tt L n
theorem part_ch : ∀ {L : List Rn} {f n : Int}, partB f L n = true → ChR f L n ∧ ∀ r ∈ L, 0 ≤ r.a.c ∧ r.a.c ≤ 16777216
  | [], f, n, h => ⟨by rw [partB, decide_eq_true_iff] at h; exact h, fun r hr => by simp at hr⟩
  | r :: L, f, n, h => by
    rw [partB, Bool.and_eq_true, decide_eq_true_iff] at h
    obtain ⟨⟨h1, h2, h3⟩, h4⟩ := h
    obtain ⟨h5, h6⟩ := part_ch h4
    refine ⟨⟨h1, h2, h5⟩, fun q hq => ?_⟩
    rcases List.mem_cons.1 hq with rfl | hq
    · exact h3
    · exact h6 q hq
theorem part_no {r : Rn} {L : List Rn} {f n : Int} (h : ¬ (r.fr = f ∧ r.fr < r.tt ∧ 0 ≤ r.a.c ∧ r.a.c ≤ 16777216)) : partB f (r :: L) n = false := by
  rw [partB, decide_eq_false h, Bool.false_and]
theorem part_yes {r : Rn} {L : List Rn} {f n : Int} (h : r.fr = f ∧ r.fr < r.tt ∧ 0 ≤ r.a.c ∧ r.a.c ≤ 16777216) : partB f (r :: L) n = partB r.tt L n := by
  rw [partB, decide_eq_true h, Bool.true_and]
set_option maxRecDepth 100000 in
set_option maxHeartbeats 4000000 in
theorem parts_any (L : List Rn) (n : Int) (oa : Option Addr) (ca : Nat) (hl : L.length ≤ 1048576) (w : World) (hR : RnO w oa L) :
    Calls Tryz.prog 27 #[.slice oa L.length ca, .int .i64 n] w fun e w' => e = .returned (.bool (partB 0 L n)) ∧ Below w.heap.size w w' := by
  obtain ⟨B, hB⟩ : ∃ B, partB 0 L n = B := ⟨_, rfl⟩
  rw [hB]
  obtain ⟨N, hN⟩ : ∃ N, L.length = N := ⟨_, rfl⟩
  rw [hN] at hl ⊢
  have HN := hideS (And.intro hN (And.intro hR hB))
  clear hN hR hB
  go_enter Tryz.func27, Tryz.ntmps27
  go_wp2_with fail
  go_loopw [5, 10] (fun av iv wq => ∃ (i : Nat) (f : Int), av = .int .i64 f ∧ iv = .int .i64 (i : Nat) ∧ i ≤ N ∧ partB f (L.drop i) n = B ∧ Below w.heap.size w wq) (fun _ iv _ => N - (intOf iv).toNat)
  case atStart => exact ⟨0, 0, rfl, rfl, Nat.zero_le _, HN.out.2.2, Below.refl _ _⟩
  case round =>
    obtain ⟨i, f, rfl, rfl, hiN, hgo, hb⟩ := hrel
    obtain ⟨wq, rfl⟩ : ∃ wq, wq = wr := ⟨_, rfl⟩
    by_cases hlt : i < N
    · obtain ⟨r, hx⟩ : ∃ r, L[i]? = some r := ⟨_, List.getElem?_eq_getElem (by rw [HN.out.1]; exact hlt)⟩
      obtain ⟨a, rfl, _, k0, k1, k2, k3, k4, k5, k6⟩ := HN.out.2.1.keep hb i r hx
      have hdr : L.drop i = r :: L.drop (i + 1) := by rw [← (List.getElem?_eq_some_iff.1 hx).2]; exact List.drop_eq_getElem_cons (by rw [HN.out.1]; exact hlt)
      rw [hdr] at hgo
      have d1 : (i : Int) < (N : Int) := by omega
      have wi : IntKind.i64.wrap ((i : Int) + 1) = ((i + 1 : Nat) : Int) := by rw [show ((i + 1 : Nat) : Int) = (i : Int) + 1 by omega]; exact IntWalk.i64_in _ ⟨by omega, by omega⟩
      obtain ⟨V, hV⟩ : ∃ V, wq.alloc (.cells #[.int .i64 r.fr, .int .i64 r.tt, .bool r.a.b, .bool r.a.i, .bool r.a.u, .bool r.a.s, .int .i64 r.a.c] 45) = V := ⟨_, rfl⟩
      have rV : RnC V wq.heap.size r := by rw [← hV]; exact RnC.new wq r
      have bV : Below wq.heap.size wq V := by rw [← hV]; exact bel1S _ _
      obtain ⟨v0, v1, v2, v3, v4, v5, v6⟩ := rV.cells
      have HA := hideS (And.intro hgo (bupS hb bV))
      clear hgo hb hx hdr rV bV
      by_cases h1 : r.fr = f
      · have e1 : (r.fr != f) = false := by simpa using h1
        by_cases h2 : r.tt ≤ r.fr
        · obtain rfl : B = false := by rw [← HA.out.1, part_no (by omega)]
          clear h1
          go_upto_region 5 with fail
          try rw [hV]
          clear hV
          go_wp2_with fail
          go_ret
          exact ⟨rfl, HA.out.2⟩
        · by_cases h3 : r.a.c < 0
          · obtain rfl : B = false := by rw [← HA.out.1, part_no (by omega)]
            clear h1
            go_upto_region 5 with fail
            try rw [hV]
            clear hV
            go_wp2_with fail
            go_ret
            exact ⟨rfl, HA.out.2⟩
          · by_cases h4 : 16777216 < r.a.c
            · obtain rfl : B = false := by rw [← HA.out.1, part_no (by omega)]
              clear h1
              go_upto_region 5 with fail
              try rw [hV]
              clear hV
              go_wp2_with fail
              go_ret
              exact ⟨rfl, HA.out.2⟩
            · have HZ : Hid (partB r.tt (L.drop (i + 1)) n = B) := hideS (by rw [← HA.out.1, part_yes (by omega)])
              clear h1
              go_upto_region 5 with fail
              try rw [hV]
              clear hV
              go_wp2_with fail
              go_roundw
              case rel => exact ⟨i + 1, r.tt, rfl, by first | rfl | simp, by omega, HZ.out, HA.out.2⟩
              case measure => simp [intOf]; omega
      · have e1 : (r.fr != f) = true := by simpa using h1
        obtain rfl : B = false := by rw [← HA.out.1, part_no (by omega)]
        clear h1
        go_upto_region 5 with fail
        try rw [hV]
        clear hV
        go_wp2_with fail
        go_ret
        exact ⟨rfl, HA.out.2⟩
    · have d1 : ¬ (i : Int) < (N : Int) := by omega
      rw [List.drop_eq_nil_of_le (by rw [HN.out.1]; omega), partB] at hgo
      have HA := hideS hb
      clear hb
      by_cases h0 : f = n
      · rw [decide_eq_true h0] at hgo
        subst hgo
        go_wp2_with fail
        go_ret
        exact ⟨by simp, HA.out⟩
      · rw [decide_eq_false h0] at hgo
        subst hgo
        have e0 : (f == n) = false := by simpa using h0
        go_wp2_with fail
        go_ret
        exact ⟨rfl, HA.out⟩
end Go.Proofs.YtkamjlpnenldbaaGreatDoor

/- style.Make (P0704). -/
namespace Go.Proofs.YtkamjlpnenldbaaGreatDoor
open Go.RowKit Go.Shelf
attribute [local go_sem] Oper.semAt_some

/-- What Make tells. -/
def makM (s : ByteArray) (L : List Rn) : Int × ByteArray × List Sp :=
  if 4096 < s.size then (3, ByteArray.empty, []) else if partB 0 L (signs s).length = false then (1, ByteArray.empty, [])
  else if 256 < (normG L).length then (2, ByteArray.empty, []) else (0, s, isort ltN (normG L))
set_option maxRecDepth 100000 in
set_option maxHeartbeats 4000000 in
theorem make_any (s : ByteArray) (L : List Rn) (oa : Option Addr) (ca : Nat) (hs : s.size ≤ 140737488355328) (hl : L.length ≤ 5000) (w : World) (hR : RnO w oa L) :
    Calls Tryz.prog 13 #[.string s, .slice oa L.length ca] w (SplAns w (makM s L)) := by
  have hsn := signs_le s
  have HCt := hideS (fun (W : World) => count7_any s W hs)
  have HCl := hideS (fun (W : World) => clone_any s W hs)
  have HPa := hideS (fun (W : World) (h : Below w.heap.size w W) => parts_any L (signs s).length oa ca (by omega) W (hR.keep h))
  have HNo := hideS (fun (hp : partB 0 L (signs s).length = true) (h4 : s.size ≤ 4096) (W : World) (h : Below w.heap.size w W) => normal_any L (signs s).length oa ca hl (part_ch hp).1 (part_ch hp).2 (by omega) W (hR.keep h))
  obtain ⟨R, hRv⟩ : ∃ R, makM s L = R := ⟨_, rfl⟩
  rw [hRv]
  unfold makM at hRv
  obtain ⟨n, hn⟩ : ∃ n, (signs s).length = n := ⟨_, rfl⟩
  obtain ⟨pb, hpb⟩ : ∃ pb, partB 0 L (signs s).length = pb := ⟨_, rfl⟩
  obtain ⟨NL, hNL⟩ : ∃ NL, L.length = NL := ⟨_, rfl⟩
  obtain ⟨Q, hQ⟩ : ∃ Q, normG L = Q := ⟨_, rfl⟩
  rw [hpb, hQ] at hRv
  rw [hpb, hn, hNL] at HPa
  rw [hn] at HCt
  rw [hpb, hQ, hNL, isort_length] at HNo
  rw [hNL]
  obtain ⟨QN, hQN⟩ : ∃ QN, Q.length = QN := ⟨_, rfl⟩
  rw [hQN] at HNo hRv
  obtain ⟨Z, hZ⟩ : ∃ Z, isort ltN Q = Z := ⟨_, rfl⟩
  have hZl : Hid (Z.length = QN) := hideS (by rw [← hZ, isort_length, hQN])
  rw [hZ] at HNo hRv
  obtain ⟨PO, hPO⟩ : ∃ PO : Ending → World → Prop, PO = SplAns w R := ⟨_, rfl⟩
  rw [← hPO]
  have HPO := hideS hPO
  have HRv := hideS hRv
  clear hPO hR hRv hn hpb hNL hQ hQN hZ
  have errs : Hid (∀ (er : Int) (W : World), R = (er, ByteArray.empty, []) → Below w.heap.size w W → PO (.returned (.tuple #[.agg #[.string ByteArray.empty, .slice none 0 0], .int .i64 er])) W) := hideS (fun er W h1 h2 => by
    rw [HPO.out, h1]
    exact ⟨_, rfl, World.ownsRow_nil _ _ _ _, h2⟩)
  have hsb : ∀ (W : World) (q v : Value), Below w.heap.size w W → Below w.heap.size w ((W.setCell ⟨w.heap.size, 0, none⟩ q).setCell ⟨w.heap.size, 1, none⟩ v) := fun W q v h => (h.setCell (p := ⟨w.heap.size, 0, none⟩) (Nat.le_refl _) _).setCell (p := ⟨w.heap.size, 1, none⟩) (Nat.le_refl _) _
  have HSB := hideS hsb
  clear hsb
  obtain ⟨W0, hW0⟩ : ∃ W0, w.alloc (.cells #[.string ⟨#[]⟩, .slice none 0 0] 24) = W0 := ⟨_, rfl⟩
  have t0 : Tx W0 w.heap.size (.string ⟨#[]⟩) (.slice none 0 0) := by rw [← hW0]; exact Tx.new w _ _
  have b0 : Below w.heap.size w W0 := by rw [← hW0]; exact bel1S _ _
  have H0 := hideS (And.intro t0 b0)
  obtain ⟨c0, c1, f0, f1⟩ := t0.cells
  clear t0 b0
  by_cases h4 : 4096 < s.size
  · rw [if_pos h4] at HRv
    have d4 : (4096 : Int) < (s.size : Int) := by omega
    go_enter Tryz.func13, Tryz.ntmps13
    go_upto_region 1 with fail
    try rw [hW0]
    clear hW0
    go_wp2_with fail
    have t9 := (H0.out.1).set (.string ⟨#[]⟩) (.slice none 0 0)
    have HE := hideS (errs.out 3 ((W0.setCell ⟨w.heap.size, 0, none⟩ (.string ⟨#[]⟩)).setCell ⟨w.heap.size, 1, none⟩ (.slice none 0 0)) HRv.out.symm (HSB.out W0 _ _ H0.out.2))
    generalize ((W0.setCell ⟨w.heap.size, 0, none⟩ (.string ⟨#[]⟩)).setCell ⟨w.heap.size, 1, none⟩ (.slice none 0 0)) = W9 at *
    obtain ⟨r0, r1, _, _⟩ := t9.cells
    exact bodyPost_ret (v := .tuple #[.agg #[.string ⟨#[]⟩, .slice none 0 0], .int .i64 3]) (by simp [results, Tryz.results13, go_sem, r0, r1]) rfl HE.out
  · rw [if_neg h4] at HRv
    have d4 : ¬ (4096 : Int) < (s.size : Int) := by omega
    go_enter Tryz.func13, Tryz.ntmps13
    go_upto_region 1 with fail
    try rw [hW0]
    clear hW0
    go_wp2_with fail
    refine (HCt.out W0).mono ?_
    rintro e w1 ⟨rfl, b1⟩
    have B1 := bupS H0.out.2 b1
    have T1 := H0.out.1.keep b1
    clear b1 c0 c1 f0 f1
    go_wp2_with fail
    refine (HPa.out w1 B1).mono ?_
    rintro e w2 ⟨rfl, b2⟩
    have B2 := bupS B1 b2
    have T2 := T1.keep b2
    have H2 := hideS (And.intro B2 T2)
    obtain ⟨c0, c1, f0, f1⟩ := T2.cells
    clear b2 B1 T1 B2 T2 H0
    cases pb with
    | false =>
      rw [if_pos rfl] at HRv
      go_wp2_with fail
      have t9 := (H2.out.2).set (.string ⟨#[]⟩) (.slice none 0 0)
      have HE := hideS (errs.out 1 ((w2.setCell ⟨w.heap.size, 0, none⟩ (.string ⟨#[]⟩)).setCell ⟨w.heap.size, 1, none⟩ (.slice none 0 0)) HRv.out.symm (HSB.out w2 _ _ H2.out.1))
      generalize ((w2.setCell ⟨w.heap.size, 0, none⟩ (.string ⟨#[]⟩)).setCell ⟨w.heap.size, 1, none⟩ (.slice none 0 0)) = W9 at *
      obtain ⟨r0, r1, _, _⟩ := t9.cells
      exact bodyPost_ret (v := .tuple #[.agg #[.string ⟨#[]⟩, .slice none 0 0], .int .i64 1]) (by simp [results, Tryz.results13, go_sem, r0, r1]) rfl HE.out
    | true =>
      rw [if_neg (by simp)] at HRv
      go_wp2_with fail
      refine (HCl.out w2).mono ?_
      rintro e w3 ⟨rfl, b3⟩
      have B3 := bupS H2.out.1 b3
      have T3 := H2.out.2.keep b3
      clear b3 c0 c1 f0 f1 H2
      go_wp2_with fail
      refine (HNo.out (by simp) (by omega) w3 B3).mono ?_
      rintro e w4 ⟨v4, rfl, own4, b4⟩
      obtain ⟨o4, c4, rfl, hc4, -⟩ := own_cap own4
      have B4 := bupS B3 b4
      have T4 := T3.keep b4
      have P4 := T3.lt
      have S3 := B3.size
      have H4 := hideS (And.intro B4 (And.intro T4 own4))
      clear b4 B3 T3 B4 T4 own4
      go_wp2_with fail
      refine (textOf_any s o4 QN c4 w4).mono ?_
      rintro e w5 ⟨rfl, b5⟩
      have B5 := bupS H4.out.1 b5
      have T5 := H4.out.2.1.keep b5
      have own5 := own_keep H4.out.2.2 b5
      have H5 := hideS (And.intro B5 (And.intro T5 own5))
      obtain ⟨c0, c1, f0, f1⟩ := T5.cells
      clear b5 B5 T5 own5 H4
      by_cases hm : 256 < QN
      · rw [if_pos hm] at HRv ⊢
        go_wp2_with fail
        have t9 := (H5.out.2.1).set (.string ByteArray.empty) (.slice none 0 0)
        have HE := hideS (errs.out 2 ((w5.setCell ⟨w.heap.size, 0, none⟩ (.string ByteArray.empty)).setCell ⟨w.heap.size, 1, none⟩ (.slice none 0 0)) HRv.out.symm (HSB.out w5 _ _ H5.out.1))
        generalize ((w5.setCell ⟨w.heap.size, 0, none⟩ (.string ByteArray.empty)).setCell ⟨w.heap.size, 1, none⟩ (.slice none 0 0)) = W9 at *
        obtain ⟨r0, r1, _, _⟩ := t9.cells
        exact bodyPost_ret (v := .tuple #[.agg #[.string ByteArray.empty, .slice none 0 0], .int .i64 2]) (by simp [results, Tryz.results13, go_sem, r0, r1]) rfl HE.out
      · rw [if_neg hm] at HRv ⊢
        go_wp2_with fail
        have t9 := (H5.out.2.1).set (.string s) (.slice o4 QN c4)
        have HE : Hid (PO (.returned (.tuple #[.agg #[.string s, .slice o4 QN c4], .int .i64 0])) ((w5.setCell ⟨w.heap.size, 0, none⟩ (.string s)).setCell ⟨w.heap.size, 1, none⟩ (.slice o4 QN c4))) := hideS (by
          rw [HPO.out, ← HRv.out]
          refine ⟨_, rfl, ?_, HSB.out w5 _ _ H5.out.1⟩
          show World.ownsRow _ _ _ _ _ Z.length (flat4 Z)
          rw [hZl.out]
          exact own_from (ownsRow_setCell_below (ownsRow_setCell_below H5.out.2.2 (a := ⟨w.heap.size, 0, none⟩) P4 _) (a := ⟨w.heap.size, 1, none⟩) P4 _) S3)
        generalize ((w5.setCell ⟨w.heap.size, 0, none⟩ (.string s)).setCell ⟨w.heap.size, 1, none⟩ (.slice o4 QN c4)) = W9 at *
        obtain ⟨r0, r1, _, _⟩ := t9.cells
        exact bodyPost_ret (v := .tuple #[.agg #[.string s, .slice o4 QN c4], .int .i64 0]) (by simp [results, Tryz.results13, go_sem, r0, r1]) rfl HE.out
end Go.Proofs.YtkamjlpnenldbaaGreatDoor

/- style.Norm (P0704). -/
namespace Go.Proofs.YtkamjlpnenldbaaGreatDoor
open Go.RowKit Go.Shelf
attribute [local go_sem] Oper.semAt_some

theorem Tx.alloc2 (w : World) (a b c d : Value) : Tx ((w.alloc (.cells #[a, b] 24)).alloc (.cells #[c, d] 24)) w.heap.size a b ∧ Tx ((w.alloc (.cells #[a, b] 24)).alloc (.cells #[c, d] 24)) (w.heap.size + 1) c d := by
  refine ⟨(Tx.new w a b).keep (bel1S _ _), ?_⟩
  have h9 := Tx.new (w.alloc (.cells #[a, b] 24)) c d
  rw [World.size_alloc] at h9
  exact h9
/-- What Norm tells. -/
def norM (s : ByteArray) (D : List Sp) : Int × ByteArray × List Sp := if chkT s D ≠ 0 then (chkT s D, ByteArray.empty, []) else makM s (runsM (signs s).length (isort ltS D))
theorem runStep_len (acc : List Rn) (f t : Int) (a : At) : (runStep acc f t a).length ≤ acc.length + 1 := by
  unfold runStep
  cases e : acc.getLast? with
  | none => simp
  | some r =>
    have h9 := congrArg List.length (last_some e)
    rw [List.length_append, List.length_singleton] at h9
    simp only
    split
    · rw [List.length_append, List.length_singleton]
      omega
    · rw [List.length_append, List.length_singleton]
      omega
theorem rle_lenH : ∀ (l : List At) (acc : List Rn) (i : Int), (rleL acc i l).length ≤ acc.length + l.length
  | [], acc, i => by rw [rleL]; simp
  | a :: l, acc, i => by
    rw [rleL, List.length_cons]
    have h1 := rle_lenH l (runStep acc i (i + 1) a) (i + 1)
    have h2 := runStep_len acc i (i + 1) a
    omega
theorem runs_few {s : ByteArray} {D : List Sp} (h : chkT s D = 0) : (runsM (signs s).length (isort ltS D)).length ≤ 5000 := by
  rw [runs_seg h]
  have h1 := rle_lenH (alls D (signs s).length) [] 0
  rw [alls_len, List.length_nil] at h1
  have h2 := signs_le s
  have h3 := (chkT_ok h).1
  omega
set_option maxRecDepth 100000 in
set_option maxHeartbeats 4000000 in
theorem norm_any (s : ByteArray) (D : List Sp) (oa : Option Addr) (ca : Nat) (hs : s.size ≤ 140737488355328) (hca : D.length ≤ ca ∧ ca ≤ maxLen) (hna : oa = none → D = [] ∧ ca = 0) (w : World) (hRa : SpO w oa D) :
    Calls Tryz.prog 5 #[.agg #[.string s, .slice oa D.length ca]] w (SplAns w (norM s D)) := by
  have HRn := hideS (fun (W : World) (h : Below w.heap.size w W) => runs_any s D oa ca hs hca hna W (hRa.keep h))
  obtain ⟨R, hRv⟩ : ∃ R, norM s D = R := ⟨_, rfl⟩
  rw [hRv]
  unfold norM at hRv
  obtain ⟨N, hN⟩ : ∃ N, D.length = N := ⟨_, rfl⟩
  rw [hN] at HRn ⊢
  obtain ⟨PO, hPO⟩ : ∃ PO : Ending → World → Prop, PO = SplAns w R := ⟨_, rfl⟩
  rw [← hPO]
  have HPO := hideS hPO
  have HRv := hideS hRv
  have HX := hideS (And.intro hN hRa)
  clear hPO hRv hN hRa hna hca
  have errs : Hid (∀ (er : Int) (W : World), R = (er, ByteArray.empty, []) → Below w.heap.size w W → PO (.returned (.tuple #[.agg #[.string ByteArray.empty, .slice none 0 0], .int .i64 er])) W) := hideS (fun er W h1 h2 => by
    rw [HPO.out, h1]
    exact ⟨_, rfl, World.ownsRow_nil _ _ _ _, h2⟩)
  have hsb : ∀ (W : World) (q v : Value), Below w.heap.size w W → Below w.heap.size w ((W.setCell ⟨w.heap.size + 1, 0, none⟩ q).setCell ⟨w.heap.size + 1, 1, none⟩ v) := fun W q v h => (h.setCell (p := ⟨w.heap.size + 1, 0, none⟩) (by show w.heap.size ≤ w.heap.size + 1; omega) _).setCell (p := ⟨w.heap.size + 1, 1, none⟩) (by show w.heap.size ≤ w.heap.size + 1; omega) _
  have HSB := hideS hsb
  clear hsb
  obtain ⟨W0, hW0⟩ : ∃ W0, (w.alloc (.cells #[.string s, .slice oa N ca] 24)).alloc (.cells #[.string ⟨#[]⟩, .slice none 0 0] 24) = W0 := ⟨_, rfl⟩
  have t01 : Tx W0 w.heap.size (.string s) (.slice oa N ca) ∧ Tx W0 (w.heap.size + 1) (.string ⟨#[]⟩) (.slice none 0 0) := by rw [← hW0]; exact Tx.alloc2 w _ _ _ _
  have b0 : Below w.heap.size w W0 := by rw [← hW0]; exact bupS (bel1S _ _) (bel1S _ _)
  have H0 := hideS (And.intro t01 b0)
  obtain ⟨c0, c1, _, _⟩ := t01.1.cells
  clear t01 b0
  go_enter Tryz.func5, Tryz.ntmps5
  go_upto_region 1 with fail
  try rw [hW0]
  clear hW0
  go_wp2_with fail
  refine (HRn.out W0 H0.out.2).mono ?_
  rintro e w1 ⟨b1, ⟨hne, rfl⟩ | ⟨hz, v1, rfl, own1⟩⟩
  · rw [if_pos hne] at HRv
    obtain ⟨cc, hcc⟩ : ∃ c, chkT s D = c := ⟨_, rfl⟩
    rw [hcc] at HRv hne ⊢
    have ecb : (cc != 0) = true := by simpa using hne
    have B1 := bupS H0.out.2 b1
    have T1 := H0.out.1.2.keep b1
    have H1 := hideS (And.intro B1 T1)
    obtain ⟨_, _, f0, f1⟩ := T1.cells
    obtain ⟨q0, q1, _, _⟩ := T1.cells
    clear b1 B1 T1 c0 c1 hcc
    go_wp2_with fail
    have t9 := (H1.out.2).set (.string ⟨#[]⟩) (.slice none 0 0)
    have HE := hideS (errs.out cc ((w1.setCell ⟨w.heap.size + 1, 0, none⟩ (.string ⟨#[]⟩)).setCell ⟨w.heap.size + 1, 1, none⟩ (.slice none 0 0)) HRv.out.symm (HSB.out w1 _ _ H1.out.1))
    generalize ((w1.setCell ⟨w.heap.size + 1, 0, none⟩ (.string ⟨#[]⟩)).setCell ⟨w.heap.size + 1, 1, none⟩ (.slice none 0 0)) = W9 at *
    obtain ⟨r0, r1, _, _⟩ := t9.cells
    exact bodyPost_ret (v := .tuple #[.agg #[.string ⟨#[]⟩, .slice none 0 0], .int .i64 cc]) (by simp [results, Tryz.results5, go_sem, r0, r1]) rfl HE.out
  · rw [if_neg (by simp [hz])] at HRv
    obtain ⟨o1, c1', rfl, hc1, hRn⟩ := rn_of_own own1
    have HM := hideS (fun (W : World) (h : Below w1.heap.size w1 W) => make_any s (runsM (signs s).length (isort ltS D)) o1 c1' hs (runs_few hz) W (hRn.keep h))
    obtain ⟨Q, hQ⟩ : ∃ Q, makM s (runsM (signs s).length (isort ltS D)) = Q := ⟨_, rfl⟩
    rw [hQ] at HM HRv
    generalize (runsM (signs s).length (isort ltS D)).length = QN at *
    have B1 := bupS H0.out.2 b1
    have T1 := H0.out.1.2.keep b1
    have T0 := H0.out.1.1.keep b1
    have H1 := hideS (And.intro B1 T1)
    obtain ⟨c0, c1, _, _⟩ := T0.cells
    have P1 := T1.lt
    clear b1 B1 T1 T0 hQ own1 hRn
    go_wp2_with fail
    refine (HM.out w1 (Below.refl _ _)).mono ?_
    rintro e w2 ⟨v2, rfl, own2, b2⟩
    obtain ⟨o2, c2, rfl, hc2, -⟩ := own_cap own2
    have B2 := bupS H1.out.1 b2
    have T2 := H1.out.2.keep b2
    have S1 := H1.out.1.size
    have H2 := hideS (And.intro B2 (And.intro T2 own2))
    obtain ⟨q0, q1, f0, f1⟩ := T2.cells
    clear b2 B2 T2 own2 c0 c1
    obtain ⟨qe, qs, ql⟩ := Q
    simp only at H2 ⊢
    go_wp2_with fail
    have t9 := (H2.out.2.1).set (.string qs) (.slice o2 ql.length c2)
    have HE : Hid (PO (.returned (.tuple #[.agg #[.string qs, .slice o2 ql.length c2], .int .i64 qe])) ((w2.setCell ⟨w.heap.size + 1, 0, none⟩ (.string qs)).setCell ⟨w.heap.size + 1, 1, none⟩ (.slice o2 ql.length c2))) := hideS (by
      rw [HPO.out, ← HRv.out]
      refine ⟨_, rfl, ?_, HSB.out w2 _ _ H2.out.1⟩
      exact own_from (ownsRow_setCell_below (ownsRow_setCell_below H2.out.2.2 (a := ⟨w.heap.size + 1, 0, none⟩) P1 _) (a := ⟨w.heap.size + 1, 1, none⟩) P1 _) S1)
    generalize ((w2.setCell ⟨w.heap.size + 1, 0, none⟩ (.string qs)).setCell ⟨w.heap.size + 1, 1, none⟩ (.slice o2 ql.length c2)) = W9 at *
    obtain ⟨r0, r1, _, _⟩ := t9.cells
    exact bodyPost_ret (v := .tuple #[.agg #[.string qs, .slice o2 ql.length c2], .int .i64 qe]) (by simp [results, Tryz.results5, go_sem, r0, r1]) rfl HE.out
end Go.Proofs.YtkamjlpnenldbaaGreatDoor

/- The reference's stretches of signs (P0704), as mathematics. -/
namespace Go.Proofs.YtkamjlpnenldbaaGreatDoor
open Go.RowKit Go.Shelf

theorem val_of_has {a b : At} {k : Int} (hk : 1 ≤ k ∧ k ≤ 5) (h : hasK a k = hasK b k) : valK a k = valK b k := by
  unfold valK
  by_cases h5 : k = 5
  · subst h5
    unfold hasK at h
    simp at h
    rw [if_pos rfl, if_pos rfl, h]
  · rw [if_neg h5, if_neg h5]
theorem val_has (a : At) (k : Int) : valK a k = if k = 5 then hasK a k - 1 else 0 := by
  unfold valK
  by_cases h5 : k = 5
  · subst h5
    simp [hasK]
  · rw [if_neg h5, if_neg h5]
/-- The stretches of the first signs. -/
def preS (k : Int) (C : List Sp) (l : List At) (i : Nat) : List Sp := strM k C (unitR 0 (l.take i))
theorem pre_zero (k : Int) (C : List Sp) (l : List At) : preS k C l 0 = [] := by simp [preS, unitR, strM]
theorem pre_next (k : Int) (C : List Sp) (l : List At) (i : Nat) (a : At) (h : l[i]? = some a) : preS k C l (i + 1) = strStep k C (preS k C l i) ⟨(i : Int), (i : Int) + 1, a⟩ := by
  have hi := (List.getElem?_eq_some_iff.1 h).1
  unfold preS
  rw [List.take_add_one, h, unit_app, strM, List.foldl_append]
  simp only [Option.toList, unitR, List.foldl_cons, List.foldl_nil]
  rw [show ((0 : Int) + ((l.take i).length : Nat)) = (i : Int) by rw [List.length_take]; omega]
  rfl
theorem pre_all (k : Int) (C : List Sp) (l : List At) : preS k C l l.length = strM k C (unitR 0 l) := by
  unfold preS
  rw [List.take_of_length_le (Nat.le_refl _)]
theorem pre_mono (k : Int) (C : List Sp) (l : List At) : ∀ (m i : Nat), i + m ≤ l.length → (preS k C l i).length ≤ (preS k C l (i + m)).length
  | 0, i, _ => Nat.le_refl _
  | m + 1, i, h => by
    have h1 := pre_mono k C l m i (by omega)
    rw [show i + (m + 1) = (i + m) + 1 by omega, pre_next k C l (i + m) _ (List.getElem?_eq_getElem (by omega))]
    have h2 := (sstep_len k C (preS k C l (i + m)) ⟨((i + m : Nat) : Int), ((i + m : Nat) : Int) + 1, l[i + m]'(by omega)⟩).1
    omega
theorem pre_le (k : Int) (C : List Sp) (l : List At) : ∀ (i : Nat), (preS k C l i).length ≤ i
  | 0 => by rw [pre_zero]; exact Nat.le_refl _
  | i + 1 => by
    have h1 := pre_le k C l i
    cases e : l[i]? with
    | none =>
      have e9 : preS k C l (i + 1) = preS k C l i := by
        have := List.getElem?_eq_none_iff.1 e
        unfold preS
        rw [List.take_of_length_le (by omega), List.take_of_length_le this]
      rw [e9]
      omega
    | some a =>
      rw [pre_next k C l i a e]
      have h2 := (sstep_len k C (preS k C l i) ⟨(i : Int), (i : Int) + 1, a⟩).2
      omega
/-- The last stretch, if it ends there, is of the last sign. -/
theorem pre_last (k : Int) (C : List Sp) (l : List At) : ∀ (i : Nat), i ≤ l.length → ∀ x, (preS k C l i).getLast? = some x → x.tt ≤ (i : Int) ∧ (x.tt = (i : Int) → ∃ b, 0 < i ∧ l[i - 1]? = some b ∧ 0 < hasK b k ∧ x.vl = valK b k)
  | 0, _, x, hx => by rw [pre_zero] at hx; simp at hx
  | i + 1, hi, x, hx => by
    obtain ⟨a, ha⟩ : ∃ a, l[i]? = some a := ⟨_, List.getElem?_eq_getElem (by omega)⟩
    rw [pre_next k C l i a ha] at hx
    by_cases hh : 0 < hasK a k
    · rcases step_cases k C (preS k C l i) ⟨(i : Int), (i : Int) + 1, a⟩ hh with ⟨y, hy, hj, h9⟩ | ⟨_, h9⟩
      · rw [h9, last_snoc] at hx
        obtain rfl := Option.some.inj hx
        exact ⟨by simp only; omega, fun _ => ⟨a, by omega, by rw [Nat.add_sub_cancel]; exact ha, hh, hj.2.1⟩⟩
      · rw [h9, last_snoc] at hx
        obtain rfl := Option.some.inj hx
        exact ⟨by simp only; omega, fun _ => ⟨a, by omega, by rw [Nat.add_sub_cancel]; exact ha, hh, rfl⟩⟩
    · rw [step_no hh] at hx
      have := (pre_last k C l i (by omega) x hx).1
      exact ⟨by omega, fun h => by omega⟩
/-- Where a stretch may begin. -/
def BrkS (k : Int) (C : List Sp) (l : List At) (i : Nat) : Prop := i = 0 ∨ cutB C (i : Int) = true ∨ ∃ a b, l[i - 1]? = some a ∧ l[i]? = some b ∧ hasK a k ≠ hasK b k
theorem ref_seg (k : Int) (hk : 1 ≤ k ∧ k ≤ 5) (C : List Sp) (l : List At) (i : Nat) (a : At) (ha : l[i]? = some a) (hb : BrkS k C l i) : ∀ (m : Nat), i + 1 + m ≤ l.length → (∀ t, i < t → t < i + 1 + m → (∃ b, l[t]? = some b ∧ hasK b k = hasK a k) ∧ cutB C (t : Int) = false) →
    preS k C l (i + 1 + m) = if 0 < hasK a k then preS k C l i ++ [⟨(i : Int), ((i + 1 + m : Nat) : Int), k, valK a k⟩] else preS k C l i
  | 0, hm, _ => by
    rw [Nat.add_zero, pre_next k C l i a ha]
    by_cases hh : 0 < hasK a k
    · rw [if_pos hh]
      rw [step_new hh (fun x hx hj => ?_)]
      · rw [show ((i + 1 : Nat) : Int) = (i : Int) + 1 by omega]
      · obtain ⟨b, h1, h2, h3, h4⟩ := (pre_last k C l i (by omega) x hx).2 hj.1
        rcases hb with h0 | h0 | ⟨c, d, h5, h6, h7⟩
        · omega
        · simp only at hj
          rw [h0] at hj
          exact absurd hj.2.2 (by decide)
        · rw [h2] at h5
          rw [ha] at h6
          cases h5
          cases h6
          exact h7 (has_val hk h3 hh (by rw [← h4]; exact hj.2.1))
    · rw [if_neg hh, step_no hh]
  | m + 1, hm, hc => by
    have ih := ref_seg k hk C l i a ha hb m (by omega) (fun t h1 h2 => hc t h1 (by omega))
    obtain ⟨⟨b, hb1, hb2⟩, hct⟩ := hc (i + 1 + m) (by omega) (by omega)
    rw [show i + 1 + (m + 1) = (i + 1 + m) + 1 by omega, pre_next k C l (i + 1 + m) b hb1, ih]
    by_cases hh : 0 < hasK a k
    · rw [if_pos hh, if_pos hh]
      rw [step_join (x := ⟨(i : Int), ((i + 1 + m : Nat) : Int), k, valK a k⟩) (by rw [hb2]; exact hh) (last_snoc _ _) ⟨rfl, val_of_has hk hb2.symm, hct⟩, drop_snoc]
      rw [show ((i + 1 + m + 1 : Nat) : Int) = ((i + 1 + m : Nat) : Int) + 1 by omega]
    · rw [if_neg hh, if_neg hh, step_no (by rw [hb2]; exact hh)]
/-- More kinds, more spans. -/
theorem norm_mono (U : List Rn) : ∀ (K : List Int) (C : List Sp), C.length ≤ (K.foldl (norm1 U) C).length
  | [], C => Nat.le_refl _
  | k :: K, C => by
    have h := norm_mono U K (norm1 U C k)
    rw [List.foldl_cons]
    unfold norm1 at h ⊢
    rw [List.length_append] at h
    omega
theorem ch_units : ∀ (l : List At) (i : Int), ChR i (unitR i l) (i + l.length)
  | [], i => by simp [unitR, ChR]
  | a :: l, i => by
    rw [unitR, ChR]
    refine ⟨rfl, by simp only; omega, ?_⟩
    have h := ch_units l (i + 1)
    rw [List.length_cons, show i + ((l.length + 1 : Nat) : Int) = i + 1 + (l.length : Int) by omega]
    exact h
end Go.Proofs.YtkamjlpnenldbaaGreatDoor

/- Norm and the reference's Norm tell the same (P0704), as mathematics. -/
namespace Go.Proofs.YtkamjlpnenldbaaGreatDoor
open Go.RowKit Go.Shelf

theorem ch_snoc : ∀ {L : List Rn} {f n : Int} {r : Rn}, ChR f (L ++ [r]) n ↔ ChR f L r.fr ∧ r.fr < r.tt ∧ r.tt = n
  | [], f, n, r => by
    simp only [List.nil_append, ChR]
    exact ⟨fun ⟨h1, h2, h3⟩ => ⟨h1.symm, h2, h3⟩, fun ⟨h1, h2, h3⟩ => ⟨h1.symm, h2, h3⟩⟩
  | q :: L, f, n, r => by
    simp only [List.cons_append, ChR]
    rw [ch_snoc]
    exact ⟨fun ⟨h1, h2, h3, h4⟩ => ⟨⟨h1, h2, h3⟩, h4⟩, fun ⟨⟨h1, h2, h3⟩, h4⟩ => ⟨h1, h2, h3, h4⟩⟩
theorem ch_step {acc : List Rn} {i : Int} (h : ChR 0 acc i) (a : At) : ChR 0 (runStep acc i (i + 1) a) (i + 1) := by
  unfold runStep
  cases e : acc.getLast? with
  | none =>
    have : acc = [] := List.getLast?_eq_none_iff.1 e
    subst this
    rw [ChR] at h
    subst h
    simp only [ChR]
    exact ⟨trivial, by omega, trivial⟩
  | some r =>
    have h9 := last_some e
    simp only
    rw [h9, ch_snoc] at h
    split
    · rw [ch_snoc]
      exact ⟨h.1, by simp only; omega, rfl⟩
    · rw [ch_snoc]
      refine ⟨?_, by simp only; omega, rfl⟩
      rw [h9, ch_snoc]
      exact h
theorem ch_rle : ∀ (l : List At) (acc : List Rn) (i : Int), ChR 0 acc i → ChR 0 (rleL acc i l) (i + l.length)
  | [], acc, i, h => by rw [rleL]; simpa using h
  | a :: l, acc, i, h => by
    rw [rleL, List.length_cons]
    have h9 := ch_rle l _ (i + 1) (ch_step h a)
    rw [show i + ((l.length + 1 : Nat) : Int) = i + 1 + (l.length : Int) by omega]
    exact h9
theorem exp_all (l : List At) : expR (rleL [] 0 l) = l := by
  rw [exp_rle l [] 0 (fun r hr => by simp at hr)]
  simp [expR]
theorem mem_exp {L : List Rn} {f n : Int} (h : ChR f L n) {r : Rn} (hr : r ∈ L) : r.a ∈ expR L := by
  have := (ch_le h).2 r hr
  unfold expR
  rw [List.mem_flatMap]
  exact ⟨r, hr, List.mem_replicate.2 ⟨by omega, rfl⟩⟩
theorem part_of : ∀ {L : List Rn} {f n : Int}, ChR f L n → (∀ r ∈ L, 0 ≤ r.a.c ∧ r.a.c ≤ 16777216) → partB f L n = true
  | [], f, n, h, _ => by rw [ChR] at h; rw [partB, decide_eq_true h]
  | r :: L, f, n, h, hc => by
    rw [ChR] at h
    have := hc r (by simp)
    rw [part_yes ⟨h.1, h.2.1, this.1, this.2⟩]
    exact part_of h.2.2 (fun q hq => hc q (List.mem_cons_of_mem _ hq))
/-- The colours of a right text. -/
theorem lay_col {a : At} {x : Sp} {n : Int} (h : 0 ≤ a.c ∧ a.c ≤ 16777216) (hf : fitB x n = true) : 0 ≤ (layA a x).c ∧ (layA a x).c ≤ 16777216 := by
  unfold fitB at hf
  have k := of_decide_eq_true hf
  unfold layA
  by_cases h5 : x.kd = 5
  · rw [if_pos h5] at k
    rw [if_neg (by omega), if_neg (by omega), if_neg (by omega), if_neg (by omega), if_pos h5]
    simp only
    rw [IntWalk.i64_in _ ⟨by omega, by omega⟩]
    omega
  · split
    · exact h
    · split
      · exact h
      · split
        · exact h
        · split
          · exact h
          · exact h
theorem look_col (n m : Int) : ∀ (r : List Sp), (∀ x ∈ r.reverse, fitB x n = true) → 0 ≤ (lookA r.reverse m).c ∧ (lookA r.reverse m).c ≤ 16777216
  | [], _ => by
    simp [lookA, at0]
  | x :: r, h => by
    rw [List.reverse_cons, lookA_snoc]
    have h1 := look_col n m r (fun y hy => h y (by simp at hy ⊢; exact Or.inl hy))
    split
    · exact lay_col h1 (h x (by simp))
    · exact h1
theorem chk_fitN {s : ByteArray} {D : List Sp} (h : chkT s D = 0) : ∀ x ∈ D, fitB x (signs s).length = true := by
  obtain ⟨h1, h2⟩ := chkT_ok h
  unfold chkT at h
  rw [if_neg (by omega), if_neg (by omega)] at h
  by_cases k : allB D (signs s).length = true ∧ crB D = false
  · exact fun x hx => List.all_eq_true.1 k.1 x hx
  · rw [if_neg k] at h; omega
theorem alls_col {s : ByteArray} {D : List Sp} (h : chkT s D = 0) (n : Nat) : ∀ a ∈ alls D n, 0 ≤ a.c ∧ a.c ≤ 16777216 := by
  rw [alls_seg h]
  intro a ha
  unfold seg at ha
  obtain ⟨k, _, rfl⟩ := List.mem_map.1 ha
  have h9 := look_col (signs s).length (0 + (k : Int)) (isort ltS D).reverse (fun x hx => by
    rw [List.reverse_reverse] at hx
    exact chk_fitN h x ((isort_mem' ltS x D).1 hx))
  rwa [List.reverse_reverse] at h9
/-- What the reference tells of how signs look. -/
def madM (s : ByteArray) (l : List At) : Int × ByteArray × List Sp := if 256 < (normG (unitR 0 l)).length then (2, ByteArray.empty, []) else (0, s, isort ltN (normG (unitR 0 l)))
theorem mak_mad {s : ByteArray} {L : List Rn} (h4 : s.size ≤ 4096) (h : partB 0 L (signs s).length = true) : makM s L = madM s (expR L) := by
  unfold makM madM
  rw [if_neg (by omega), if_neg (by simp [h]), normG_units (part_ch h).1]
theorem nor_mad {s : ByteArray} {D : List Sp} (h : chkT s D = 0) : norM s D = madM s (alls D (signs s).length) := by
  unfold norM
  rw [if_neg (by simp [h]), runs_seg h]
  have hc : ChR 0 (rleL [] 0 (alls D (signs s).length)) (signs s).length := by
    have h9 := ch_rle (alls D (signs s).length) [] 0 rfl
    rwa [alls_len, Int.zero_add] at h9
  rw [mak_mad (chkT_ok h).1 (part_of hc (fun r hr => ?_)), exp_all]
  have h9 := mem_exp hc hr
  rw [exp_all] at h9
  exact alls_col h _ _ h9
end Go.Proofs.YtkamjlpnenldbaaGreatDoor

/- A span set over a text (P0709), as mathematics. -/
namespace Go.Proofs.YtkamjlpnenldbaaGreatDoor
open Go.RowKit Go.Shelf

/-- How the signs look then. -/
def setL (D : List Sp) (x : Sp) (n : Nat) : List At := seg (isort ltS D ++ [x]) 0 n
theorem setL_len (D : List Sp) (x : Sp) (n : Nat) : (setL D x n).length = n := seg_len _ _ _
theorem setL_at (D : List Sp) (x : Sp) (n k : Nat) (h : k < n) : (setL D x n)[k]? = some (if x.fr ≤ (k : Int) ∧ (k : Int) < x.tt then layA (lookA (isort ltS D) k) x else lookA (isort ltS D) k) := by
  unfold setL seg
  rw [List.getElem?_map, List.getElem?_range h]
  simp only [Option.map_some, Int.zero_add]
  rw [lookA_snoc]
theorem allsS_at {s : ByteArray} {D : List Sp} (hz : chkT s D = 0) (n k : Nat) (h : k < n) : (alls D n)[k]? = some (lookA (isort ltS D) k) := by
  rw [alls_seg hz]
  unfold seg
  rw [List.getElem?_map, List.getElem?_range h]
  simp only [Option.map_some, Int.zero_add]
/-- What Set tells. -/
def setM (s : ByteArray) (D : List Sp) (x : Sp) : Int × ByteArray × List Sp :=
  if chkT s D ≠ 0 then (chkT s D, ByteArray.empty, []) else if fitB x (signs s).length = false then (23, ByteArray.empty, [])
  else makM s (runsM (signs s).length (isort ltS D ++ [x]))
theorem fit_stretch {x : Sp} {n : Int} (h : fitB x n = true) : 0 ≤ x.fr ∧ x.fr < x.tt ∧ x.tt ≤ n := by
  unfold fitB at h
  have k := of_decide_eq_true h
  omega
theorem set_runs {s : ByteArray} {D : List Sp} {x : Sp} (h : chkT s D = 0) (hf : fitB x (signs s).length = true) : runsM (signs s).length (isort ltS D ++ [x]) = rleL [] 0 (setL D x (signs s).length) := by
  rw [runs_rle _ _ (fun y hy => ?_)]
  · rfl
  · rcases List.mem_append.1 hy with hy | hy
    · exact ((chk_all h).1 y ((isort_mem' ltS y D).1 hy)).1
    · rw [List.mem_singleton] at hy
      subst hy
      exact fit_stretch hf
theorem setL_col {s : ByteArray} {D : List Sp} {x : Sp} (h : chkT s D = 0) (hf : fitB x (signs s).length = true) (n : Nat) : ∀ a ∈ setL D x n, 0 ≤ a.c ∧ a.c ≤ 16777216 := by
  intro a ha
  obtain ⟨k, hk⟩ := List.mem_iff_getElem?.1 ha
  have hkn : k < n := by have := (List.getElem?_eq_some_iff.1 hk).1; rwa [setL_len] at this
  rw [setL_at D x n k hkn] at hk
  have hc := alls_col h n _ (List.mem_of_getElem? (allsS_at h n k hkn))
  obtain rfl := Option.some.inj hk
  split
  · exact lay_col hc hf
  · exact hc
theorem set_mad {s : ByteArray} {D : List Sp} {x : Sp} (h : chkT s D = 0) (hf : fitB x (signs s).length = true) : setM s D x = madM s (setL D x (signs s).length) := by
  unfold setM
  rw [if_neg (by simp [h]), if_neg (by simp [hf]), set_runs h hf]
  have hc : ChR 0 (rleL [] 0 (setL D x (signs s).length)) (signs s).length := by
    have h9 := ch_rle (setL D x (signs s).length) [] 0 rfl
    rwa [setL_len, Int.zero_add] at h9
  rw [mak_mad (chkT_ok h).1 (part_of hc (fun r hr => ?_)), exp_all]
  have h9 := mem_exp hc hr
  rw [exp_all] at h9
  exact setL_col h hf _ _ h9
theorem set_few {s : ByteArray} {D : List Sp} {x : Sp} (h : chkT s D = 0) (hf : fitB x (signs s).length = true) : (runsM (signs s).length (isort ltS D ++ [x])).length ≤ 5000 := by
  rw [set_runs h hf]
  have h1 := rle_lenH (setL D x (signs s).length) [] 0
  rw [setL_len, List.length_nil] at h1
  have h2 := signs_le s
  have h3 := (chkT_ok h).1
  omega
/-- Signs, the first ones of a stretch under one more span. -/
def updL (D : List Sp) (x : Sp) (n k : Nat) : List At := (List.range n).map fun (j : Nat) => if x.fr ≤ (j : Int) ∧ j < k then layA (lookA (isort ltS D) j) x else lookA (isort ltS D) j
theorem updL_len (D : List Sp) (x : Sp) (n k : Nat) : (updL D x n k).length = n := by simp [updL]
theorem updL_at (D : List Sp) (x : Sp) (n k j : Nat) (h : j < n) : (updL D x n k)[j]? = some (if x.fr ≤ (j : Int) ∧ j < k then layA (lookA (isort ltS D) j) x else lookA (isort ltS D) j) := by
  unfold updL
  rw [List.getElem?_map, List.getElem?_range h]
  rfl
theorem updL_first {s : ByteArray} {D : List Sp} (hz : chkT s D = 0) (x : Sp) (n k : Nat) (h : (k : Int) ≤ x.fr) : updL D x n k = alls D n := by
  apply List.ext_getElem?
  intro j
  by_cases hj : j < n
  · rw [updL_at D x n k j hj, allsS_at hz n j hj, if_neg (by omega)]
  · rw [List.getElem?_eq_none (by rw [updL_len]; omega), List.getElem?_eq_none (by rw [alls_len]; omega)]
theorem updL_last (D : List Sp) (x : Sp) (n k : Nat) (h : (k : Int) = x.tt) : updL D x n k = setL D x n := by
  apply List.ext_getElem?
  intro j
  by_cases hj : j < n
  · rw [updL_at D x n k j hj, setL_at D x n j hj]
    congr 1
    by_cases hc : x.fr ≤ (j : Int) ∧ j < k
    · rw [if_pos hc, if_pos ⟨hc.1, by omega⟩]
    · rw [if_neg hc, if_neg (by omega)]
  · rw [List.getElem?_eq_none (by rw [updL_len]; omega), List.getElem?_eq_none (by rw [setL_len]; omega)]
theorem updL_next (D : List Sp) (x : Sp) (n k : Nat) (h : x.fr ≤ (k : Int)) (hk : k < n) : updL D x n (k + 1) = (updL D x n k).set k (layA (lookA (isort ltS D) k) x) := by
  apply List.ext_getElem?
  intro j
  rw [List.getElem?_set, updL_len]
  by_cases hj : j < n
  · rw [updL_at D x n (k + 1) j hj]
    by_cases e : k = j
    · subst e
      rw [if_pos rfl, if_pos hk, if_pos ⟨h, by omega⟩]
    · rw [if_neg e, updL_at D x n k j hj]
      congr 1
      by_cases hc : x.fr ≤ (j : Int) ∧ j < k
      · rw [if_pos hc, if_pos ⟨hc.1, by omega⟩]
      · rw [if_neg hc, if_neg (by omega)]
  · rw [List.getElem?_eq_none (by rw [updL_len]; omega), if_neg (by omega), List.getElem?_eq_none (by rw [updL_len]; omega)]
/-- A look laid at a place of a row. -/
theorem flat5_set (l : List At) (i : Nat) (a : At) (h : i < l.length) : (((((flat5 l).set (i * 5) (.bool a.b)).set (i * 5 + 1) (.bool a.i)).set (i * 5 + 2) (.bool a.u)).set (i * 5 + 3) (.bool a.s)).set (i * 5 + 4) (.int .i64 a.c) = flat5 (l.set i a) := by
  obtain ⟨A, y, B, rfl, hA⟩ : ∃ A y B, l = A ++ y :: B ∧ A.length = i := ⟨l.take i, l[i], l.drop (i + 1), by rw [List.getElem_cons_drop, List.take_append_drop], by rw [List.length_take]; omega⟩
  have e1 : (A ++ y :: B).set i a = A ++ a :: B := by rw [List.set_append_right _ _ (by omega), hA, Nat.sub_self]; rfl
  rw [e1]
  have e2 : ∀ z : At, flat5 (A ++ z :: B) = flat5 A ++ (z.cells ++ flat5 B) := fun z => by simp [flat5]
  have hl : (flat5 A).length = i * 5 := by rw [flat5_len, hA]
  rw [e2, e2]
  rw [List.set_append_right _ _ (by omega), List.set_append_right _ _ (by omega), List.set_append_right _ _ (by omega), List.set_append_right _ _ (by omega), List.set_append_right _ _ (by omega), hl]
  rw [show i * 5 - i * 5 = 0 by omega, show i * 5 + 1 - i * 5 = 1 by omega, show i * 5 + 2 - i * 5 = 2 by omega, show i * 5 + 3 - i * 5 = 3 by omega, show i * 5 + 4 - i * 5 = 4 by omega]
  rfl
end Go.Proofs.YtkamjlpnenldbaaGreatDoor

/- The reference's with (P0709). -/
namespace Go.Proofs.YtkamjlpnenldbaaGreatDoor
open Go.RowKit Go.Shelf
attribute [local go_sem] Oper.semAt_some

theorem AtC.set5 {W : World} {B : Nat} {a : At} (h : AtC W B a) (c : At) : AtC (((((W.setCell ⟨B, 0, none⟩ (.bool c.b)).setCell ⟨B, 1, none⟩ (.bool c.i)).setCell ⟨B, 2, none⟩ (.bool c.u)).setCell ⟨B, 3, none⟩ (.bool c.s)).setCell ⟨B, 4, none⟩ (.int .i64 c.c)) B c := by
  have h9 := set_atS (set_atS (set_atS (set_atS (set_atS h 0 (.bool c.b)) 1 (.bool c.i)) 2 (.bool c.u)) 3 (.bool c.s)) 4 (.int .i64 c.c)
  exact h9
theorem AtC.far {W : World} {B g i : Nat} {a : At} {v : Value} (h : AtC W B a) (hg : B ≠ g) : AtC (W.setCell ⟨g, i, none⟩ v) B a := (Below.heap_setCell W ⟨g, i, none⟩ v B hg).trans h
end Go.Proofs.YtkamjlpnenldbaaGreatDoor

/- The reference's has, ahead (chapter 7). -/
namespace Go.Proofs.YtkamjlpnenldbaaGreatDoor
open Go.RowKit Go.Shelf
attribute [local go_sem] Oper.semAt_some

end Go.Proofs.YtkamjlpnenldbaaGreatDoor

/- The reference's lay: a span put into a row that is in order (chapter 7). -/
namespace Go.Proofs.YtkamjlpnenldbaaGreatDoor
open Go.RowKit Go.Shelf
attribute [local go_sem] Oper.semAt_some

theorem flat4_cutN (L : List Sp) (k : Nat) : flat4 L = flat4 (L.take k) ++ flat4 (L.drop k) := by
  have h9 := flat4_append (L.take k) (L.drop k)
  rw [List.take_append_drop] at h9
  exact h9
theorem spfour (wk : World) (P : Nat) (x : Sp) (h : wk.heap[P]? = some (.cells #[.int .i64 x.fr, .int .i64 x.tt, .int .i64 x.kd, .int .i64 x.vl] 26 (0, 0))) : wk.cell? ⟨P, 0, none⟩ = some (.int .i64 x.fr) ∧ wk.cell? ⟨P, 1, none⟩ = some (.int .i64 x.tt) ∧ wk.cell? ⟨P, 2, none⟩ = some (.int .i64 x.kd) ∧ wk.cell? ⟨P, 3, none⟩ = some (.int .i64 x.vl) := by
  simp [World.cell?, h]
end Go.Proofs.YtkamjlpnenldbaaGreatDoor

/- The reference's normal (P0704). -/
namespace Go.Proofs.YtkamjlpnenldbaaGreatDoor
open Go.RowKit Go.Shelf
attribute [local go_sem] Oper.semAt_some

def NorA (w : World) (U : List Rn) (e : Ending) (w' : World) : Prop :=
  Below w.heap.size w w' ∧ ((256 < (normG U).length ∧ e = .returned (.tuple #[.slice none 0 0, .bool false])) ∨ (¬ 256 < (normG U).length ∧ ∃ v, e = .returned (.tuple #[v, .bool true]) ∧ w'.ownsRow w.heap.size 26 4 v (normG U).length (flat4 (isort ltN (normG U)))))
end Go.Proofs.YtkamjlpnenldbaaGreatDoor

/- The reference's made, Norm (P0704). -/
namespace Go.Proofs.YtkamjlpnenldbaaGreatDoor
open Go.RowKit Go.Shelf
attribute [local go_sem] Oper.semAt_some

end Go.Proofs.YtkamjlpnenldbaaGreatDoor

/- The reference's Set (P0709). -/
namespace Go.Proofs.YtkamjlpnenldbaaGreatDoor
open Go.RowKit Go.Shelf
attribute [local go_sem] Oper.semAt_some

theorem own_set5 {W : World} {base g n cap : Nat} {l : List At} (h : W.ownsRow base 43 5 (.slice (some ⟨g, 0, none⟩) n cap) n (flat5 l)) (i : Nat) (a : At) (hi : i < l.length) :
    (((((W.setCell ⟨g, i * 5, none⟩ (.bool a.b)).setCell ⟨g, i * 5 + 1, none⟩ (.bool a.i)).setCell ⟨g, i * 5 + 2, none⟩ (.bool a.u)).setCell ⟨g, i * 5 + 3, none⟩ (.bool a.s)).setCell ⟨g, i * 5 + 4, none⟩ (.int .i64 a.c)).ownsRow base 43 5 (.slice (some ⟨g, 0, none⟩) n cap) n (flat5 (l.set i a)) := by
  rw [← flat5_set l i a hi]
  exact own_set (own_set (own_set (own_set (own_set h _ _) _ _) _ _) _ _) _ _
theorem own_five {W : World} {base g n cap : Nat} {l : List At} (h : W.ownsRow base 43 5 (.slice (some ⟨g, 0, none⟩) n cap) n (flat5 l)) {i : Nat} {a : At} (hi : l[i]? = some a) :
    (W.cell? ⟨g, i * 5, none⟩ = some (.bool a.b) ∧ W.cell? ⟨g, i * 5 + 1, none⟩ = some (.bool a.i) ∧ W.cell? ⟨g, i * 5 + 2, none⟩ = some (.bool a.u) ∧ W.cell? ⟨g, i * 5 + 3, none⟩ = some (.bool a.s) ∧ W.cell? ⟨g, i * 5 + 4, none⟩ = some (.int .i64 a.c)) ∧
    (W.frozen? ⟨g, i * 5, none⟩ = false ∧ W.frozen? ⟨g, i * 5 + 1, none⟩ = false ∧ W.frozen? ⟨g, i * 5 + 2, none⟩ = false ∧ W.frozen? ⟨g, i * 5 + 3, none⟩ = false ∧ W.frozen? ⟨g, i * 5 + 4, none⟩ = false) ∧ g < W.heap.size ∧ base ≤ g := by
  have oc := fun j v hv => own_cells h (i * 5 + j) v (flat5_at l i a hi j v hv)
  have o0 := oc 0 _ rfl
  have o1 := oc 1 _ rfl
  have o2 := oc 2 _ rfl
  have o3 := oc 3 _ rfl
  have o4 := oc 4 _ rfl
  exact ⟨⟨o0.1, o1.1, o2.1, o3.1, o4.1⟩, ⟨o0.2.1, o1.2.1, o2.2.1, o3.2.1, o4.2.1⟩, o0.2.2⟩
theorem alloc3T (w : World) (a b e f : Value) (x : Sp) : Tx (((w.alloc (.cells #[a, b] 24)).alloc (.cells #[.int .i64 x.fr, .int .i64 x.tt, .int .i64 x.kd, .int .i64 x.vl] 26)).alloc (.cells #[e, f] 24)) w.heap.size a b ∧
    (((w.alloc (.cells #[a, b] 24)).alloc (.cells #[.int .i64 x.fr, .int .i64 x.tt, .int .i64 x.kd, .int .i64 x.vl] 26)).alloc (.cells #[e, f] 24)).heap[w.heap.size + 1]? = some (.cells #[.int .i64 x.fr, .int .i64 x.tt, .int .i64 x.kd, .int .i64 x.vl] 26 (0, 0)) ∧
    Tx (((w.alloc (.cells #[a, b] 24)).alloc (.cells #[.int .i64 x.fr, .int .i64 x.tt, .int .i64 x.kd, .int .i64 x.vl] 26)).alloc (.cells #[e, f] 24)) (w.heap.size + 1 + 1) e f ∧
    Below w.heap.size w (((w.alloc (.cells #[a, b] 24)).alloc (.cells #[.int .i64 x.fr, .int .i64 x.tt, .int .i64 x.kd, .int .i64 x.vl] 26)).alloc (.cells #[e, f] 24)) := by
  refine ⟨((Tx.new w a b).keep (bel1S _ _)).keep (bel1S _ _), ?_, ?_, bupS (bel1S _ _) (bupS (bel1S _ _) (bel1S _ _))⟩
  · have h9 := World.alloc_heap_new (w.alloc (.cells #[a, b] 24)) (.cells #[.int .i64 x.fr, .int .i64 x.tt, .int .i64 x.kd, .int .i64 x.vl] 26)
    rw [World.size_alloc] at h9
    exact (Below.heap_alloc _ _ _ (by simp)).trans h9
  · have h9 := Tx.new ((w.alloc (.cells #[a, b] 24)).alloc (.cells #[.int .i64 x.fr, .int .i64 x.tt, .int .i64 x.kd, .int .i64 x.vl] 26)) e f
    rw [World.size_alloc, World.size_alloc] at h9
    exact h9
end Go.Proofs.YtkamjlpnenldbaaGreatDoor

/- surtitlelaw7: SameSpans, SameText, Lend, Back; both Plain (chapter 7). -/
namespace Go.Proofs.YtkamjlpnenldbaaGreatDoor
open Go.RowKit Go.Shelf
attribute [local go_sem] Oper.semAt_some

theorem sp_under : Tryz.prog.underlying 26 = some (.struct (Tryz.prog.fieldsOf 26)) := by kernel_rfl
theorem sp_held : Tryz.prog.stoodInHeld 26 = false := by kernel_rfl
theorem sp_guard : Tryz.prog.eqGuardType Tryz.prog.depth 26 = false := by kernel_rfl
theorem sp_fields : (Tryz.prog.fieldsOf 26).toList.map (fun f => (f.name, f.type, f.offset)) = [("From", 3, 0), ("To", 3, 1), ("Kind", 3, 2), ("Value", 3, 3)] := by kernel_rfl
set_option maxRecDepth 100000 in
theorem sp_same (a b c d : Int) (w : World) : (Op.equalIn 10000 26 (.agg #[.int .i64 a, .int .i64 b, .int .i64 c, .int .i64 d]) (.agg #[.int .i64 a, .int .i64 b, .int .i64 c, .int .i64 d])).run Tryz.prog w = .ok true w := by
  rw [run_equalIn_agg _ _ _ _ _ sp_under sp_held]
  have hf := sp_fields
  match h : (Tryz.prog.fieldsOf 26).toList, hf with
  | [f0, f1, f2, f3], hf =>
    clear h
    simp only [List.map_cons, List.map_nil, List.cons.injEq, Prod.mk.injEq, and_true] at hf
    obtain ⟨⟨n0, t0, o0⟩, ⟨n1, t1, o1⟩, ⟨n2, t2, o2⟩, ⟨n3, t3, o3⟩⟩ := hf
    have u3 : Tryz.prog.underlying 3 = some (.int .i64) := Tryz.underlying3
    simp [Op.eqFields, n0, n1, n2, n3, t0, t1, t2, t3, o0, o1, o2, o3, go_sem, u3]
  | [], hf => simp at hf
  | [_], hf => simp at hf
  | [_, _], hf => simp at hf
  | [_, _, _], hf => simp at hf
  | _ :: _ :: _ :: _ :: _ :: _, hf => simp at hf
theorem sp_neq (a b c d : Int) (w : World) : (binOp .neq 26 (.agg #[.int .i64 a, .int .i64 b, .int .i64 c, .int .i64 d]) (.agg #[.int .i64 a, .int .i64 b, .int .i64 c, .int .i64 d])).run Tryz.prog w = .ok (.bool false) w := by
  rw [run_neq_struct, sp_same]; rfl
theorem sp_eql (a b c d : Int) (w : World) : (binOp .eql 26 (.agg #[.int .i64 a, .int .i64 b, .int .i64 c, .int .i64 d]) (.agg #[.int .i64 a, .int .i64 b, .int .i64 c, .int .i64 d])).run Tryz.prog w = .ok (.bool true) w := by
  rw [run_eql_struct, sp_same]; rfl
set_option maxRecDepth 100000 in
set_option maxHeartbeats 2000000 in
theorem samesp_any (D : List Sp) (o1 o2 : Option Addr) (c1 c2 : Nat) (hc1 : D.length ≤ c1 ∧ c1 ≤ maxLen) (w : World) (hR1 : SpO w o1 D) (hR2 : SpO w o2 D) :
    Calls Tryz.prog 22 #[.slice o1 D.length c1, .slice o2 D.length c2] w fun e w' => e = .returned (.bool true) ∧ Below w.heap.size w w' := by
  obtain ⟨N, hN⟩ : ∃ N, D.length = N := ⟨_, rfl⟩
  have HN := hideS (And.intro hN (And.intro hR1 hR2))
  rw [hN] at hc1 ⊢
  have hcm : c1 ≤ 9223372036854775807 := hc1.2
  clear hN hR1 hR2
  have hgd := sp_guard
  have hne := sp_neq
  go_enter Tryz.func22, Tryz.ntmps22
  go_wp2_with fail
  go_loopw [5] (fun iv wq => ∃ i : Nat, iv = .int .i64 (i : Nat) ∧ i ≤ N ∧ Below w.heap.size w wq) (fun iv _ => N - (intOf iv).toNat)
  case atStart => exact ⟨0, rfl, Nat.zero_le _, Below.refl _ _⟩
  case round =>
    obtain ⟨i, rfl, hiN, hb⟩ := hrel
    obtain ⟨wq, rfl⟩ : ∃ wq, wq = wr := ⟨_, rfl⟩
    by_cases hlt : i < N
    · obtain ⟨x, hx⟩ : ∃ x, D[i]? = some x := ⟨_, List.getElem?_eq_getElem (by rw [HN.out.1]; exact hlt)⟩
      obtain ⟨a, rfl, _, k0, k1, k2, k3⟩ := HN.out.2.1.keep hb i x hx
      obtain ⟨b, rfl, _, e0, e1, e2, e3⟩ := HN.out.2.2.keep hb i x hx
      have d1 : (i : Int) < (N : Int) := by omega
      have wi : IntKind.i64.wrap ((i : Int) + 1) = ((i + 1 : Nat) : Int) := by rw [show ((i + 1 : Nat) : Int) = (i : Int) + 1 by omega]; exact IntWalk.i64_in _ ⟨by omega, by omega⟩
      have HB := hideS hb
      clear hb hx
      go_wp2_with fail
      go_quiet (fail)
      go_wp2_with fail
      go_roundw
      case rel => exact ⟨i + 1, by first | rfl | simp, by omega, HB.out.trans ((below_dnS (Below.refl _ _) nq).mono HB.out.size)⟩
      case measure => simp [intOf]; omega
    · have d1 : ¬ (i : Int) < (N : Int) := by omega
      have HB := hideS hb
      clear hb
      go_wp2_with fail
      go_ret
      exact ⟨rfl, HB.out⟩
set_option maxRecDepth 100000 in
set_option maxHeartbeats 1000000 in
theorem sametx_any (s : ByteArray) (w : World) : Calls Tryz.prog 8 #[.agg #[.string s, .slice none 0 0], .agg #[.string s, .slice none 0 0]] w fun e w' => e = .returned (.bool true) ∧ Below w.heap.size w w' := by
  have HS := hideS (fun (W : World) => samesp_any [] none none 0 0 ⟨by simp, by simp⟩ W (SpO.nil _ _) (SpO.nil _ _))
  change Hid (∀ W : World, Calls Tryz.prog 22 #[.slice none 0 0, .slice none 0 0] W fun e w' => e = .returned (.bool true) ∧ Below W.heap.size W w') at HS
  have hss : (s.toList == s.toList) = true := by simp
  have HB := hideS (bupS (bel1S w (.cells #[.string s, .slice none 0 0] 24)) (bel1S _ (.cells #[.string s, .slice none 0 0] 24)))
  go_enter Tryz.func8, Tryz.ntmps8
  go_wp2_with fail
  refine (HS.out _).mono ?_
  rintro e w1 ⟨rfl, b1⟩
  have H1 := hideS (bupS HB.out b1)
  clear b1
  go_wp2_with fail
  go_ret
  exact ⟨rfl, H1.out⟩
/-- What both Plain tell. -/
def plaV (s : ByteArray) : Value := if 4096 < s.size then .tuple #[.agg #[.string ⟨#[]⟩, .slice none 0 0], .int .i64 3] else .tuple #[.agg #[.string s, .slice none 0 0], .int .i64 0]
end Go.Proofs.YtkamjlpnenldbaaGreatDoor

/- surtitlelaw7: Lend, Back (chapter 7). -/
namespace Go.Proofs.YtkamjlpnenldbaaGreatDoor
open Go.RowKit Go.Shelf
attribute [local go_sem] Oper.semAt_some

def mkS : Sp := ⟨-77, 0, 0, 0⟩
/-- append to a row of one's own, of a slice that may be nil: a step of a region that draws. -/
theorem step_spans {P : Program} (w : World) {ops : Array Oper} {o : Oper} {a : Act} {K : Act → World → Prop} {Q : Exit → Act → World → Prop} {E : Prop} (hg : o.guard = none) (s x : Operand) (t : TypeId)
    (ho : o.op = .call { callee := .builtin .append, args := #[s, x], argTypes := #[t, t] })
    (base : Nat) (e : TypeId) (i : TypeInfo) (z : Value) (size bytes : Nat) (ht : P.underlying t = some (.slice e)) (hi : P.info? e = some i) (hz : i.zero = some z)
    (hsize : i.size = size) (hby : i.bytes = bytes) (hzs : z.cells.size = size) (hsz : 0 < size)
    (v : Value) (n : Nat) (xs : List Value) (hs : a.eval s = v) (hown : w.ownsRow base e size v n xs)
    (oa : Option Addr) (m c : Nat) (news : List Value) (hx : a.eval x = .slice oa m c) (hn : oa = none → m = 0 ∧ c = 0) (hl : news.length = m * size) (hnews : ∀ ad, oa = some ad → ∀ j u, news[j]? = some u → w.cell? (ad.add j) = some u) (h1 : ∀ u ∈ news, u.oneCell' = true)
    (h63 : n + m ≤ maxLen) (hbytes : (n + m) * bytes ≤ 140737488355328) (hbase : base ≤ w.heap.size)
    (hvn : v ≠ .slice none 0 0) (h : ∀ v' w', w'.ownsRow base e size v' (n + m) (xs ++ news) → w.grownBy w' v.ownBlock → v' ≠ .slice none 0 0 → K (a.put o.dst v') w') :
    if Region.wanted o (yielded ops a.tmps) = true then Oper.wp P o a w K Q else E := by
  have hw : Region.wanted o (yielded ops a.tmps) = true := by simp [Region.wanted, hg]
  rw [if_pos hw]
  cases oa with
  | none =>
    obtain ⟨rfl, rfl⟩ := hn rfl
    have hbv : news = [] := List.length_eq_zero_iff.1 (by rw [hl, Nat.zero_mul])
    subst hbv
    have h2 := h v w (by rw [List.append_nil]; exact hown) (World.grownBy.refl w _) hvn
    have hrun := run_append_owned_none (P := P) (w := w) base t o.type e i size ht hi v n xs hown
    unfold Oper.wp
    simp [execOp, ho, resolve, invoke, builtin, hs, hx, hrun, Result.andThen]
    exact h2
  | some ad => exact wp_append_own w s x t ho base e i z size bytes ht hi hz hsize hby hzs hsz v n xs hs hown ad m c news hx hl (hnews ad rfl) h1 h63 hbytes hbase fun v' w' h2 h3 h4 => h v' w' h2 h3 (fun e9 => hvn (h4.1 e9).1)
theorem own_some {W : World} {base n : Nat} {e : TypeId} {size : Nat} {v : Value} {xs : List Value} (h : W.ownsRow base e size v (n + 1) xs) : ∃ g c, v = .slice (some ⟨g, 0, none⟩) (n + 1) c ∧ n + 1 ≤ c := by
  rcases h.2 with ⟨_, e0⟩ | ⟨g, c, cur, e0, _, _, h3, _⟩
  · omega
  · exact ⟨g, c, e0, h3⟩
theorem make_spans (n : Nat) (hn : n ≤ 8796093022208) : ∃ mk : World → World, ∀ W : World, (Instr.makeSlice 22 (.int .i64 0) (.int .i64 (n : Int))).run Tryz.prog W = .ok (.slice (some ⟨W.heap.size, 0, none⟩) 0 n) (mk W) ∧
    (mk W).ownsRow W.heap.size 26 4 (.slice (some ⟨W.heap.size, 0, none⟩) 0 n) 0 [] ∧ W.grownBy (mk W) none := by
  obtain ⟨i0, hi, hz0, hz1, hz2⟩ := info_parts infoSp
  obtain ⟨mk, h⟩ := Classical.axiomOfChoice (fun W : World => run_make_own (P := Tryz.prog) W W.heap.size 22 26 i0 (.agg #[.int .i64 0, .int .i64 0, .int .i64 0, .int .i64 0]) 4 Tryz.underlying22 hi hz0 hz1 .i64 .i64 n (by rw [hz2]; omega) (by unfold maxLen; omega) (Nat.le_refl _))
  exact ⟨mk, h⟩
end Go.Proofs.YtkamjlpnenldbaaGreatDoor

/- surtitlelaw7.SameText of two texts that are the same (chapter 7). -/
namespace Go.Proofs.YtkamjlpnenldbaaGreatDoor
open Go.RowKit Go.Shelf
attribute [local go_sem] Oper.semAt_some

set_option maxRecDepth 100000 in
set_option maxHeartbeats 1000000 in
theorem sametx_sp (s : ByteArray) (D : List Sp) (o1 o2 : Option Addr) (c1 c2 : Nat) (hc1 : D.length ≤ c1 ∧ c1 ≤ maxLen) (w : World) (hR1 : SpO w o1 D) (hR2 : SpO w o2 D) :
    Calls Tryz.prog 8 #[.agg #[.string s, .slice o1 D.length c1], .agg #[.string s, .slice o2 D.length c2]] w fun e w' => e = .returned (.bool true) ∧ Below w.heap.size w w' := by
  have HB0 := bupS (bel1S w (.cells #[.string s, .slice o1 D.length c1] 24)) (bel1S _ (.cells #[.string s, .slice o2 D.length c2] 24))
  have HS := hideS (fun (W : World) (h : Below w.heap.size w W) => samesp_any D o1 o2 c1 c2 hc1 W (hR1.keep h) (hR2.keep h))
  have hss : (s.toList == s.toList) = true := by simp
  have HB := hideS HB0
  clear hR1 hR2 HB0
  obtain ⟨N, hN⟩ : ∃ N, D.length = N := ⟨_, rfl⟩
  rw [hN] at HS HB ⊢
  clear hN hc1
  go_enter Tryz.func8, Tryz.ntmps8
  go_wp2_with fail
  refine (HS.out _ HB.out).mono ?_
  rintro e w1 ⟨rfl, b1⟩
  have H1 := hideS (bupS HB.out b1)
  clear b1
  go_wp2_with fail
  go_ret
  exact ⟨rfl, H1.out⟩
end Go.Proofs.YtkamjlpnenldbaaGreatDoor

/- Texts in memory: rows read, blocks kept. -/
namespace Go.Proofs.YtkamjlpnenldbaaGreatDoor
open Go.RowKit Go.Shelf

theorem front_spoB {W : World} {B g c n : Nat} {D : List Sp} (h : W.ownsRow B 26 4 (.slice (some ⟨g, 0, none⟩) (n + 1) c) (n + 1) (flat4 (D ++ [mkS]))) (hn : D.length = n) : SpO W (some ⟨g, 0, none⟩) D ∧ B ≤ g ∧ (n ≤ c ∧ c ≤ maxLen) := by
  obtain ⟨o9, c9, e9, hc9, _, hsc, _⟩ := own_sc h (by simp [hn])
  obtain ⟨rfl, rfl⟩ : some (⟨g, 0, none⟩ : Addr) = o9 ∧ c = c9 := by simpa using e9
  obtain ⟨g9, e8, hBg, hSC⟩ := hsc _ rfl
  obtain rfl : g = g9 := by simpa using e8
  exact ⟨fun i p hp => hSC.spo i p (by rw [List.getElem?_append_left (List.getElem?_eq_some_iff.1 hp).1]; exact hp), hBg, by omega, hc9.2⟩
theorem own_ltB {W : World} {base g n c : Nat} {e : TypeId} {size : Nat} {xs : List Value} (h : W.ownsRow base e size (.slice (some ⟨g, 0, none⟩) n c) n xs) : g < W.heap.size := by
  rcases h.2 with ⟨e0, _⟩ | ⟨g2, c2, cur, e0, _, hg, _⟩
  · simp at e0
  · obtain ⟨rfl, rfl⟩ : g = g2 ∧ c = c2 := by simpa using e0
    exact (Array.getElem?_eq_some_iff.1 hg).1
theorem Tx.butB {W V : World} {P g : Nat} {a b : Value} (h : Tx W P a b) (k : But (fun k => k = g) W V) (hne : P ≠ g) : Tx V P a b := (k.same P h.lt hne).trans h
theorem own_readB {W : World} {base n : Nat} {v : Value} {Q : List Sp} (h : W.ownsRow base 26 4 v n (flat4 Q)) (hn : Q.length = n) : ∃ o cap, v = .slice o n cap ∧ (n ≤ cap ∧ cap ≤ maxLen) ∧ SpO W o Q ∧ (∀ a, o = some a → base ≤ a.block) := by
  obtain ⟨o, cap, e, hc, _, hs, hel⟩ := own_sc h hn
  refine ⟨o, cap, e, hc, ?_, fun a ha => ?_⟩
  · cases o with
    | none => rw [hel rfl]; exact SpO.nil _ _
    | some ad =>
      obtain ⟨g, rfl, _, hsc⟩ := hs ad rfl
      exact hsc.spo
  · obtain ⟨g, rfl, hg, _⟩ := hs a ha
    exact hg
end Go.Proofs.YtkamjlpnenldbaaGreatDoor

/- style.Set (P0709). -/
namespace Go.Proofs.YtkamjlpnenldbaaGreatDoor
open Go.RowKit Go.Shelf
attribute [local go_sem] Oper.semAt_some

theorem step_spansN {P : Program} (w : World) {ops : Array Oper} {o : Oper} {a : Act} {K : Act → World → Prop} {Q : Exit → Act → World → Prop} {E : Prop} (hg : o.guard = none) (s x : Operand) (t : TypeId)
    (ho : o.op = .call { callee := .builtin .append, args := #[s, x], argTypes := #[t, t] })
    (base : Nat) (e : TypeId) (i : TypeInfo) (z : Value) (size bytes : Nat) (ht : P.underlying t = some (.slice e)) (hi : P.info? e = some i) (hz : i.zero = some z)
    (hsize : i.size = size) (hby : i.bytes = bytes) (hzs : z.cells.size = size) (hsz : 0 < size)
    (v : Value) (n : Nat) (xs : List Value) (hs : a.eval s = v) (hown : w.ownsRow base e size v n xs)
    (oa : Option Addr) (m c : Nat) (news : List Value) (hx : a.eval x = .slice oa m c) (hn : oa = none → m = 0 ∧ c = 0) (hl : news.length = m * size) (hnews : ∀ ad, oa = some ad → ∀ j u, news[j]? = some u → w.cell? (ad.add j) = some u) (h1 : ∀ u ∈ news, u.oneCell' = true)
    (h63 : n + m ≤ maxLen) (hbytes : (n + m) * bytes ≤ 140737488355328) (hbase : base ≤ w.heap.size)
    (h : ∀ v' w', w'.ownsRow base e size v' (n + m) (xs ++ news) → w.grownBy w' v.ownBlock → K (a.put o.dst v') w') :
    if Region.wanted o (yielded ops a.tmps) = true then Oper.wp P o a w K Q else E := by
  have hw : Region.wanted o (yielded ops a.tmps) = true := by simp [Region.wanted, hg]
  rw [if_pos hw]
  cases oa with
  | none =>
    obtain ⟨rfl, rfl⟩ := hn rfl
    have hbv : news = [] := List.length_eq_zero_iff.1 (by rw [hl, Nat.zero_mul])
    subst hbv
    have h2 := h v w (by rw [List.append_nil]; exact hown) (World.grownBy.refl w _)
    have hrun := run_append_owned_none (P := P) (w := w) base t o.type e i size ht hi v n xs hown
    unfold Oper.wp
    simp [execOp, ho, resolve, invoke, builtin, hs, hx, hrun, Result.andThen]
    exact h2
  | some ad => exact wp_append_own w s x t ho base e i z size bytes ht hi hz hsize hby hzs hsz v n xs hs hown ad m c news hx hl (hnews ad rfl) h1 h63 hbytes hbase fun v' w' h2 h3 _ => h v' w' h2 h3
set_option maxRecDepth 100000 in
set_option maxHeartbeats 8000000 in
theorem set_any (s : ByteArray) (D : List Sp) (x : Sp) (oa : Option Addr) (ca : Nat) (hs : s.size ≤ 140737488355328) (hca : D.length ≤ ca ∧ ca ≤ maxLen) (hna : oa = none → D = [] ∧ ca = 0) (w : World) (hRa : SpO w oa D) :
    Calls Tryz.prog 14 #[.agg #[.string s, .slice oa D.length ca], x.val] w (SplAns w (setM s D x)) := by
  obtain ⟨i0, hi, hz0, hz1, hz2⟩ := info_parts infoSp
  have HCk := hideS (fun (W : World) (h : Below w.heap.size w W) => check7_any s D oa ca hs hca hna W (hRa.keep h))
  have HOu := hideS (fun (hz : chkT s D = 0) (W : World) (h : Below w.heap.size w W) => outer_own D oa ca (by have := (chkT_ok hz).2; omega) hna W (hRa.keep h))
  have HCt := hideS (fun (W : World) => count7_any s W hs)
  have HFi := hideS (fun (W : World) => fits_any x (signs s).length W)
  have HRn := hideS (fun (hz : chkT s D = 0) (o : Option Addr) (c : Nat) (hc : (isort ltS D ++ [x]).length ≤ c ∧ c ≤ maxLen) (W : World) (h : SpO W o (isort ltS D ++ [x])) => runsOf_any (isort ltS D ++ [x]) o c (signs s).length (by rw [List.length_append, isort_length]; have := (chkT_ok hz).2; simp; omega) hc W h)
  have HMk := hideS (fun (hz : chkT s D = 0) (hf : fitB x (signs s).length = true) (o : Option Addr) (c : Nat) (W : World) (h : RnO W o (runsM (signs s).length (isort ltS D ++ [x]))) => make_any s (runsM (signs s).length (isort ltS D ++ [x])) o c hs (set_few hz hf) W h)
  obtain ⟨R, hRv⟩ : ∃ R, setM s D x = R := ⟨_, rfl⟩
  rw [hRv]
  obtain ⟨N, hN⟩ : ∃ N, D.length = N := ⟨_, rfl⟩
  have HNN := hideS hN
  obtain ⟨n, hn⟩ : ∃ n, (signs s).length = n := ⟨_, rfl⟩
  obtain ⟨fb, hfb⟩ : ∃ fb, fitB x (signs s).length = fb := ⟨_, rfl⟩
  rw [hfb, hn] at HFi
  rw [hn] at HCt hfb
  obtain ⟨cc, hcc⟩ : ∃ c, chkT s D = c := ⟨_, rfl⟩
  rw [hN, hcc] at HCk
  rw [hN] at HOu ⊢
  have hn4 : cc = 0 → n ≤ 4096 := fun e => by have := (chkT_ok (hcc.trans e)).1; have := signs_le s; omega
  obtain ⟨PO, hPO⟩ : ∃ PO : Ending → World → Prop, PO = SplAns w R := ⟨_, rfl⟩
  rw [← hPO]
  have HPO := hideS hPO
  have HRv := hideS (And.intro hRv (And.intro hcc (And.intro hn hfb)))
  clear hPO hRv hN hRa hcc hn hfb hna hca
  have errs : Hid (∀ (er : Int) (W : World), R = (er, ByteArray.empty, []) → Below w.heap.size w W → PO (.returned (.tuple #[.agg #[.string ByteArray.empty, .slice none 0 0], .int .i64 er])) W) := hideS (fun er W h1 h2 => by
    rw [HPO.out, h1]
    exact ⟨_, rfl, World.ownsRow_nil _ _ _ _, h2⟩)
  have hsb : ∀ (W : World) (q v : Value), Below w.heap.size w W → Below w.heap.size w ((W.setCell ⟨w.heap.size + 1 + 1, 0, none⟩ q).setCell ⟨w.heap.size + 1 + 1, 1, none⟩ v) := fun W q v h => (h.setCell (p := ⟨w.heap.size + 1 + 1, 0, none⟩) (by show w.heap.size ≤ w.heap.size + 1 + 1; omega) _).setCell (p := ⟨w.heap.size + 1 + 1, 1, none⟩) (by show w.heap.size ≤ w.heap.size + 1 + 1; omega) _
  have HSB := hideS hsb
  clear hsb
  have HAt := hideS (alloc3T w (.string s) (.slice oa N ca) (.string ⟨#[]⟩) (.slice none 0 0) x)
  have HXv := hideS (show x = ⟨x.fr, x.tt, x.kd, x.vl⟩ from rfl)
  unfold Sp.val at HFi ⊢
  obtain ⟨W0, hW0⟩ : ∃ W0, ((w.alloc (.cells #[.string s, .slice oa N ca] 24)).alloc (.cells #[.int .i64 x.fr, .int .i64 x.tt, .int .i64 x.kd, .int .i64 x.vl] 26)).alloc (.cells #[.string ⟨#[]⟩, .slice none 0 0] 24) = W0 := ⟨_, rfl⟩
  rw [hW0] at HAt
  obtain ⟨c0, c1, _, _⟩ := HAt.out.1.cells
  go_enter Tryz.func14, Tryz.ntmps14
  go_upto_region 1 with fail
  try rw [hW0]
  clear hW0
  go_wp2_with fail
  refine (HCk.out W0 HAt.out.2.2.2).mono ?_
  rintro e w1 ⟨rfl, b1⟩
  have B1 := bupS HAt.out.2.2.2 b1
  have T1 := HAt.out.2.2.1.keep b1
  have T0 := HAt.out.1.keep b1
  have X1 := (b1.block _ (Array.getElem?_eq_some_iff.1 HAt.out.2.1).1).trans HAt.out.2.1
  have H1 := hideS (And.intro B1 (And.intro T1 (And.intro T0 X1)))
  obtain ⟨q0, q1, f0, f1⟩ := T1.cells
  clear b1 B1 T1 T0 X1 c0 c1 HAt
  rcases Decidable.em (cc = 0) with hz | hz
  rotate_left
  · have ecb : (cc != 0) = true := by simpa using hz
    have HR2 : Hid (R = (cc, ByteArray.empty, [])) := hideS (by
      rw [← HRv.out.1]
      unfold setM
      rw [HRv.out.2.1, if_pos hz])
    go_wp2_with fail
    have t9 := (H1.out.2.1).set (.string ⟨#[]⟩) (.slice none 0 0)
    have HE := hideS (errs.out cc ((w1.setCell ⟨w.heap.size + 1 + 1, 0, none⟩ (.string ⟨#[]⟩)).setCell ⟨w.heap.size + 1 + 1, 1, none⟩ (.slice none 0 0)) HR2.out (HSB.out w1 _ _ (H1.out.1)))
    generalize ((w1.setCell ⟨w.heap.size + 1 + 1, 0, none⟩ (.string ⟨#[]⟩)).setCell ⟨w.heap.size + 1 + 1, 1, none⟩ (.slice none 0 0)) = W9 at *
    obtain ⟨r0, r1, _, _⟩ := t9.cells
    exact bodyPost_ret (v := .tuple #[.agg #[.string ⟨#[]⟩, .slice none 0 0], .int .i64 cc]) (by simp [results, Tryz.results14, go_sem, r0, r1]) rfl HE.out
  subst hz
  have hn4 := hn4 rfl
  have HC := hideS (fun (W : World) (h : Below w1.heap.size w1 W) => show (W.cell? ⟨w.heap.size, 0, none⟩ = some (.string s) ∧ W.cell? ⟨w.heap.size, 1, none⟩ = some (.slice oa N ca)) ∧ W.cell? ⟨w.heap.size + 1, 0, none⟩ = some (.int .i64 x.fr) ∧ W.cell? ⟨w.heap.size + 1, 1, none⟩ = some (.int .i64 x.tt) ∧ W.cell? ⟨w.heap.size + 1, 2, none⟩ = some (.int .i64 x.kd) ∧ W.cell? ⟨w.heap.size + 1, 3, none⟩ = some (.int .i64 x.vl) from ⟨⟨(H1.out.2.2.1.keep h).cells.1, (H1.out.2.2.1.keep h).cells.2.1⟩, spfour W (w.heap.size + 1) x ((h.block _ (Array.getElem?_eq_some_iff.1 H1.out.2.2.2).1).trans H1.out.2.2.2)⟩)
  obtain ⟨⟨s0, s1⟩, s2, s3, s4, s5⟩ := HC.out _ (Below.refl _ w1)
  go_wp2_with fail
  refine (HCt.out w1).mono ?_
  rintro e w2 ⟨rfl, b2⟩
  clear s0 s1 s2 s3 s4 s5
  obtain ⟨⟨s0, s1⟩, s2, s3, s4, s5⟩ := HC.out _ b2
  have H2 := hideS b2
  clear b2
  go_wp2_with fail
  refine (HFi.out w2).mono ?_
  rintro e w3 ⟨rfl, b3⟩
  have T3 := H1.out.2.1.keep (bupS H2.out b3)
  have H3 := hideS (And.intro (bupS H2.out b3) T3)
  clear q0 q1 f0 f1 b3 s0 s1 s2 s3 s4 s5
  obtain ⟨q0, q1, f0, f1⟩ := T3.cells
  clear T3
  cases fb with
  | false =>
    have HR2 : Hid (R = (23, ByteArray.empty, [])) := hideS (by
      rw [← HRv.out.1]
      unfold setM
      rw [if_neg (by simp [HRv.out.2.1]), HRv.out.2.2.1, HRv.out.2.2.2, if_pos rfl])
    go_wp2_with fail
    have t9 := (H3.out.2).set (.string ⟨#[]⟩) (.slice none 0 0)
    have HE := hideS (errs.out 23 ((w3.setCell ⟨w.heap.size + 1 + 1, 0, none⟩ (.string ⟨#[]⟩)).setCell ⟨w.heap.size + 1 + 1, 1, none⟩ (.slice none 0 0)) HR2.out (HSB.out w3 _ _ (bupS H1.out.1 H3.out.1)))
    generalize ((w3.setCell ⟨w.heap.size + 1 + 1, 0, none⟩ (.string ⟨#[]⟩)).setCell ⟨w.heap.size + 1 + 1, 1, none⟩ (.slice none 0 0)) = W9 at *
    obtain ⟨r0, r1, _, _⟩ := t9.cells
    exact bodyPost_ret (v := .tuple #[.agg #[.string ⟨#[]⟩, .slice none 0 0], .int .i64 23]) (by simp [results, Tryz.results14, go_sem, r0, r1]) rfl HE.out
  | true =>
    have hff : fitB x (signs s).length = true := by rw [HRv.out.2.2.1]; exact HRv.out.2.2.2
    have hsm : makM s (runsM (signs s).length (isort ltS D ++ [x])) = R := by
      rw [← HRv.out.1]
      unfold setM
      rw [if_neg (by simp [HRv.out.2.1]), if_neg (by simp [hff])]
    have HM2 := hideS (HMk.out HRv.out.2.1 hff)
    have HR2 := hideS (HRn.out HRv.out.2.1)
    rw [hsm] at HM2
    rw [HRv.out.2.2.1] at HM2 HR2
    have hEl : (isort ltS D ++ [x]).length = N + 1 := by rw [List.length_append, isort_length, HNN.out]; rfl
    have hflat : flat4 (isort ltS D) ++ [.int .i64 x.fr, .int .i64 x.tt, .int .i64 x.kd, .int .i64 x.vl] = flat4 (isort ltS D ++ [x]) := (flat4_snoc _ _).symm
    have hN2 : N ≤ 256 := by have := (chkT_ok HRv.out.2.1).2; have := HNN.out; omega
    rw [hEl] at HR2
    generalize runsM (n : Int) (isort ltS D ++ [x]) = QL at *
    obtain ⟨QN, hQN⟩ : ∃ QN, QL.length = QN := ⟨_, rfl⟩
    rw [hQN] at HM2 HR2
    obtain ⟨qe, qs, ql⟩ := R
    have g8 : Below w1.heap.size w1 w3.drew := H3.out.1.drew
    have gB : Below w1.heap.size w1 (w3.alloc (.cells #[.int .i64 x.fr, .int .i64 x.tt, .int .i64 x.kd, .int .i64 x.vl] 26)).drew := (bupS H3.out.1 (bel1S _ _)).drew
    have eB : (w3.alloc (.cells #[.int .i64 x.fr, .int .i64 x.tt, .int .i64 x.kd, .int .i64 x.vl] 26)).drew.heap.size = w3.heap.size + 1 := World.size_alloc _ _
    have S8 := HC.out _ g8
    have SB := HC.out _ gB
    have z13 : w1.heap.size ≤ w3.heap.size := H3.out.1.size
    have hne0 : w.heap.size + 1 + 1 ≠ w.heap.size := by omega
    have hne1 : w.heap.size + 1 + 1 ≠ w.heap.size + 1 := by omega
    have P3 := H3.out.2.lt
    clear q0 q1 f0 f1 hsm hff hQN HRn HMk
    go_upto_region 7 with fail
    go_region_held3 (fun w' => (w'.cell? ⟨w.heap.size, 0, none⟩ = some (.string s) ∧ w'.cell? ⟨w.heap.size, 1, none⟩ = some (.slice oa N ca)) ∧ w'.cell? ⟨w.heap.size + 1, 0, none⟩ = some (.int .i64 x.fr) ∧ w'.cell? ⟨w.heap.size + 1, 1, none⟩ = some (.int .i64 x.tt) ∧ w'.cell? ⟨w.heap.size + 1, 2, none⟩ = some (.int .i64 x.kd) ∧ w'.cell? ⟨w.heap.size + 1, 3, none⟩ = some (.int .i64 x.vl)) (first | assumption | exact HC.out _ (bupS B4 (bel1S _ _)) | go_keep | (simp [*, World.cell?_setCell_far]; done))
      (first
      | (go_at_call 26; (with_reducible refine (HOu.out HRv.out.2.1 w3.drew (bupS H1.out.1 g8)).mono ?_); rintro e w4 ⟨v4, rfl, own4, b4⟩; have B4 := bupS g8 b4; have S4 := HC.out _ B4; have HA4 := hideS (And.intro B4 (And.intro own4 b4)); clear b4 own4)
      | (go_at_call 26; (with_reducible refine (HOu.out HRv.out.2.1 (w3.alloc (.cells #[.int .i64 x.fr, .int .i64 x.tt, .int .i64 x.kd, .int .i64 x.vl] 26)).drew (bupS H1.out.1 gB)).mono ?_); rintro e w4 ⟨v4, rfl, own4, b4⟩; have B4 := bupS gB b4; have S4 := HC.out _ B4; have HA4 := hideS (And.intro B4 (And.intro own4 b4)); clear b4 own4)
      | (go_at_call 25; refine (HR2.out oC cC HCC.out.2.2 _ HCC.out.2.1).mono ?_; rintro e w6 ⟨v6, rfl, own6, b6⟩; obtain ⟨oR, cR, rfl, hcR, hRR⟩ := rn_of_own own6; have B6 := bupS HCC.out.1 b6; have S6 := HC.out _ B6; have H6 := hideS (And.intro B6 hRR); clear b6 own6 hRR)
      | (go_at_call 13; refine (HM2.out oR cR _ H6.out.2).mono ?_; rintro e w7 ⟨v7, rfl, own7, b7⟩; obtain ⟨o7, c7, rfl, hc7, -⟩ := own_cap own7; have B7 := bupS H6.out.1 b7; have S7 := HC.out _ B7; obtain ⟨y0, y1, y2, y3⟩ := (H1.out.2.1.keep B7).cells; have H7 := hideS (And.intro B7 own7); clear b7 own7)
      | (refine step_spansN _ (by rfl) _ _ _ (by rfl) w3.heap.size 26 i0 (.agg #[.int .i64 0, .int .i64 0, .int .i64 0, .int .i64 0]) 4 32 Tryz.underlying22 hi hz0 hz1 hz2 rfl (by decide) v4 N (flat4 (isort ltS D)) (by rfl) (HA4.out.2.1.alloc _) (some ⟨w4.heap.size, 0, none⟩) 1 1 [.int .i64 x.fr, .int .i64 x.tt, .int .i64 x.kd, .int .i64 x.vl] (by rfl) (fun h => nomatch h) rfl (fun ad h j u hj => by cases h; exact cell_fourS _ _ _ _ _ _ j u hj) (fun u hu => by simp at hu; rcases hu with rfl | rfl | rfl | rfl <;> rfl) (by unfold maxLen; omega) (by omega) (by have h9 : w3.heap.size ≤ w4.heap.size := HA4.out.2.2.size; simp; omega) ?_; intro vC wC ownC growC; have BC : Below w1.heap.size w1 wC := Below.grown (bupS HA4.out.1 (bel1S _ _)) growC (by have := HA4.out.1.size; simp; omega) (fun k hk => by have h9 : w3.heap.size ≤ k := (HA4.out.2.1.lt k hk).1; omega); rw [hflat] at ownC; obtain ⟨oC, cC, rfl, hcC, hSpC, _⟩ := own_readB ownC hEl; have SCc := HC.out _ BC; have HCC := hideS (And.intro BC (And.intro hSpC hcC)); clear ownC growC hSpC)
      | (refine step_spansN _ (by rfl) _ _ _ (by rfl) (w3.heap.size + 1) 26 i0 (.agg #[.int .i64 0, .int .i64 0, .int .i64 0, .int .i64 0]) 4 32 Tryz.underlying22 hi hz0 hz1 hz2 rfl (by decide) v4 N (flat4 (isort ltS D)) (by rfl) (by have h9 := HA4.out.2.1; rw [eB] at h9; exact h9) (some ⟨w3.heap.size, 0, none⟩) 1 1 [.int .i64 x.fr, .int .i64 x.tt, .int .i64 x.kd, .int .i64 x.vl] (by rfl) (fun h => nomatch h) rfl (fun ad h j u hj => by cases h; exact (HA4.out.2.2.cell (by rw [addrS_block, eB]; exact Nat.lt_succ_self _)).trans (cell_fourS w3 _ _ _ _ _ j u hj)) (fun u hu => by simp at hu; rcases hu with rfl | rfl | rfl | rfl <;> rfl) (by unfold maxLen; omega) (by omega) (by have h9 := HA4.out.2.2.size; rw [eB] at h9; exact h9) ?_; intro vC wC ownC growC; have BC : Below w1.heap.size w1 wC := Below.grown HA4.out.1 growC HA4.out.1.size (fun k hk => by have h9 : w4.ownsRow (w3.heap.size + 1) 26 4 v4 N (flat4 (isort ltS D)) := (by have h8 := HA4.out.2.1; rw [eB] at h8; exact h8); have := (h9.lt k hk).1; omega); rw [hflat] at ownC; obtain ⟨oC, cC, rfl, hcC, hSpC, _⟩ := own_readB ownC hEl; have SCc := HC.out _ BC; have HCC := hideS (And.intro BC (And.intro hSpC hcC)); clear ownC growC hSpC)
      | fail)
    all_goals
      have t9 := (H1.out.2.1.keep H7.out.1).set (.string qs) (.slice o7 ql.length c7)
      have hP7 : w.heap.size + 1 + 1 < w6.heap.size := Nat.lt_of_lt_of_le H1.out.2.1.lt H6.out.1.size
      have HE : Hid (PO (.returned (.tuple #[.agg #[.string qs, .slice o7 ql.length c7], .int .i64 qe])) ((w7.setCell ⟨w.heap.size + 1 + 1, 0, none⟩ (.string qs)).setCell ⟨w.heap.size + 1 + 1, 1, none⟩ (.slice o7 ql.length c7))) := hideS (by
        rw [HPO.out]
        refine ⟨_, rfl, ?_, HSB.out w7 _ _ (bupS H1.out.1 H7.out.1)⟩
        exact own_from (ownsRow_setCell_below (ownsRow_setCell_below H7.out.2 (a := ⟨w.heap.size + 1 + 1, 0, none⟩) hP7 _) (a := ⟨w.heap.size + 1 + 1, 1, none⟩) hP7 _) (bupS H1.out.1 H6.out.1).size)
      first | go_wp2_with fail | skip
      generalize ((w7.setCell ⟨w.heap.size + 1 + 1, 0, none⟩ (.string qs)).setCell ⟨w.heap.size + 1 + 1, 1, none⟩ (.slice o7 ql.length c7)) = W9 at *
      obtain ⟨r0, r1, _, _⟩ := t9.cells
      exact bodyPost_ret (v := .tuple #[.agg #[.string qs, .slice o7 ql.length c7], .int .i64 qe]) (by simp [results, Tryz.results14, go_sem, r0, r1]) rfl HE.out
end Go.Proofs.YtkamjlpnenldbaaGreatDoor

/- Look at every text, every sign, the program's and the reference's (P0702). -/
namespace Go.Proofs.YtkamjlpnenldbaaGreatDoor
open Go.RowKit Go.Shelf
attribute [local go_sem] Oper.semAt_some

/-- How a sign looks, or an error. -/
def lokR (s : ByteArray) (D : List Sp) (n : Int) : At × Int := if chkT s D ≠ 0 then (at0, chkT s D) else if n < 0 ∨ ((signs s).length : Int) ≤ n then (at0, 1) else (lookA (isort ltS D) n, 0)
set_option maxRecDepth 100000 in
set_option maxHeartbeats 2000000 in
theorem look7_any (s : ByteArray) (D : List Sp) (oa : Option Addr) (ca : Nat) (n : Int) (hs : s.size ≤ 140737488355328) (hca : D.length ≤ ca ∧ ca ≤ maxLen) (hna : oa = none → D = [] ∧ ca = 0) (w : World) (hRa : SpO w oa D) :
    Calls Tryz.prog 15 #[.agg #[.string s, .slice oa D.length ca], .int .i64 n] w fun e w' => e = .returned (.tuple #[(lokR s D n).1.val, .int .i64 (lokR s D n).2]) ∧ Below w.heap.size w w' := by
  have HC1 := hideS (fun (W : World) (h : Below w.heap.size w W) => check7_any s D oa ca hs hca hna W (hRa.keep h))
  have HCt := hideS (fun (W : World) => count7_any s W hs)
  have HOu := hideS (fun (hl : D.length ≤ 5000) (W : World) (h : Below w.heap.size w W) => outer_any D oa ca hl hna W (hRa.keep h))
  obtain ⟨R, hR⟩ : ∃ R, lokR s D n = R := ⟨_, rfl⟩
  rw [hR]
  obtain ⟨c1, hc1⟩ : ∃ c, chkT s D = c := ⟨_, rfl⟩
  obtain ⟨ND, hND⟩ : ∃ ND, D.length = ND := ⟨_, rfl⟩
  obtain ⟨m, hm⟩ : ∃ m, (signs s).length = m := ⟨_, rfl⟩
  have HX := hideS (And.intro hc1 (And.intro hND (And.intro hm hR)))
  rw [hc1, hND] at HC1
  rw [hND]
  rw [hm] at HCt
  rw [hND] at HOu
  clear hRa hc1 hND hm hR hca hna
  obtain ⟨⟨R0, R1, R2, R3, R4⟩, RE⟩ := R
  unfold At.val
  simp only
  go_enter Tryz.func15, Tryz.ntmps15
  go_wp2_with fail
  obtain ⟨W0, hW0⟩ : ∃ W0, (w.alloc (.cells #[.string s, .slice oa ND ca] 24)).alloc (.cells #[.bool false, .bool false, .bool false, .bool false, .int .i64 0] 43) = W0 := ⟨_, rfl⟩
  have t0 : Tx W0 w.heap.size (.string s) (.slice oa ND ca) := by rw [← hW0]; exact (Tx.new w _ _).keep (bel1S _ _)
  have t1 : AtC W0 (w.heap.size + 1) at0 := by
    rw [← hW0]
    have h9 := atc_new (w.alloc (.cells #[.string s, .slice oa ND ca] 24))
    rw [World.size_alloc] at h9
    exact h9
  have b0 : Below w.heap.size w W0 := by rw [← hW0]; exact bupS (bel1S _ _) (bel1S _ _)
  try rw [hW0]
  have H0 := hideS (And.intro t0 (And.intro t1 b0))
  clear hW0 t0 t1 b0
  have hsb : ∀ (W : World) (v0 v1 v2 v3 v4 : Value), Below w.heap.size w W → Below w.heap.size w (((((W.setCell ⟨w.heap.size + 1, 0, none⟩ v0).setCell ⟨w.heap.size + 1, 1, none⟩ v1).setCell ⟨w.heap.size + 1, 2, none⟩ v2).setCell ⟨w.heap.size + 1, 3, none⟩ v3).setCell ⟨w.heap.size + 1, 4, none⟩ v4) := fun W v0 v1 v2 v3 v4 h => ((((h.setCell (p := ⟨w.heap.size + 1, 0, none⟩) (Nat.le_succ _) _).setCell (p := ⟨w.heap.size + 1, 1, none⟩) (Nat.le_succ _) _).setCell (p := ⟨w.heap.size + 1, 2, none⟩) (Nat.le_succ _) _).setCell (p := ⟨w.heap.size + 1, 3, none⟩) (Nat.le_succ _) _).setCell (p := ⟨w.heap.size + 1, 4, none⟩) (Nat.le_succ _) _
  have HSB := hideS hsb
  clear hsb
  refine (HC1.out W0 H0.out.2.2).mono ?_
  rintro e w1 ⟨rfl, b1⟩
  have H1 := hideS (show Tx w1 w.heap.size (.string s) (.slice oa ND ca) ∧ AtC w1 (w.heap.size + 1) at0 ∧ Below w.heap.size w w1 from ⟨H0.out.1.keep b1, H0.out.2.1.keep b1, bupS H0.out.2.2 b1⟩)
  clear b1 H0 HC1
  by_cases e1 : c1 = 0
  · have e1b : (c1 != 0) = false := by simpa using e1
    have hh1 : chkT s D = 0 := HX.out.1.trans e1
    have hok := chkT_ok hh1
    rw [HX.out.2.1] at hok
    have HR1 : Hid (lokR s D n = if n < 0 ∨ (m : Int) ≤ n then (at0, 1) else (lookA (isort ltS D) n, 0)) := hideS (by unfold lokR; rw [hh1, if_neg (by simp), HX.out.2.2.1])
    rw [HX.out.2.2.2] at HR1
    obtain ⟨k0, k1, _, _⟩ := H1.out.1.cells
    obtain ⟨g0, g1, g2, g3, g4⟩ := H1.out.2.1.free
    obtain ⟨a0, a1, a2, a3, a4⟩ := H1.out.2.1.five
    by_cases hn0 : n < 0
    · have hR9 := HR1.out
      rw [if_pos (.inl hn0)] at hR9
      simp only [Prod.mk.injEq, at0, At.mk.injEq] at hR9
      obtain ⟨⟨rfl, rfl, rfl, rfl, rfl⟩, rfl⟩ := hR9
      obtain ⟨WX, hWX⟩ : ∃ WX, ((((w1.setCell ⟨w.heap.size + 1, 0, none⟩ (.bool false)).setCell ⟨w.heap.size + 1, 1, none⟩ (.bool false)).setCell ⟨w.heap.size + 1, 2, none⟩ (.bool false)).setCell ⟨w.heap.size + 1, 3, none⟩ (.bool false)).setCell ⟨w.heap.size + 1, 4, none⟩ (.int .i64 0) = WX := ⟨_, rfl⟩
      have t9 : AtC WX (w.heap.size + 1) at0 := by rw [← hWX]; exact at_all H1.out.2.1
      have HB := hideS (show Below w.heap.size w WX by rw [← hWX]; exact HSB.out _ _ _ _ _ _ H1.out.2.2)
      go_wp2_with fail
      try rw [hWX]
      obtain ⟨r0, r1, r2, r3, r4⟩ := t9.five
      simp only [at0] at r0 r1 r2 r3 r4
      exact bodyPost_ret (v := .tuple #[.agg #[.bool false, .bool false, .bool false, .bool false, .int .i64 0], .int .i64 1]) (by simp [results, Tryz.results15, go_sem, r0, r1, r2, r3, r4]) rfl ⟨rfl, HB.out⟩
    · go_wp2_with fail
      refine (HCt.out w1).mono ?_
      rintro e w2 ⟨rfl, b2⟩
      have H2 := hideS (show Tx w2 w.heap.size (.string s) (.slice oa ND ca) ∧ AtC w2 (w.heap.size + 1) at0 ∧ Below w.heap.size w w2 from ⟨H1.out.1.keep b2, H1.out.2.1.keep b2, bupS H1.out.2.2 b2⟩)
      clear b2 H1 HCt k0 k1 g0 g1 g2 g3 g4 a0 a1 a2 a3 a4
      obtain ⟨k0, k1, _, _⟩ := H2.out.1.cells
      obtain ⟨g0, g1, g2, g3, g4⟩ := H2.out.2.1.free
      obtain ⟨a0, a1, a2, a3, a4⟩ := H2.out.2.1.five
      by_cases hnm : (m : Int) ≤ n
      · have hR9 := HR1.out
        rw [if_pos (.inr hnm)] at hR9
        simp only [Prod.mk.injEq, at0, At.mk.injEq] at hR9
        obtain ⟨⟨rfl, rfl, rfl, rfl, rfl⟩, rfl⟩ := hR9
        obtain ⟨WX, hWX⟩ : ∃ WX, ((((w2.setCell ⟨w.heap.size + 1, 0, none⟩ (.bool false)).setCell ⟨w.heap.size + 1, 1, none⟩ (.bool false)).setCell ⟨w.heap.size + 1, 2, none⟩ (.bool false)).setCell ⟨w.heap.size + 1, 3, none⟩ (.bool false)).setCell ⟨w.heap.size + 1, 4, none⟩ (.int .i64 0) = WX := ⟨_, rfl⟩
        have t9 : AtC WX (w.heap.size + 1) at0 := by rw [← hWX]; exact at_all H2.out.2.1
        have HB := hideS (show Below w.heap.size w WX by rw [← hWX]; exact HSB.out _ _ _ _ _ _ H2.out.2.2)
        go_wp2_with fail
        try rw [hWX]
        obtain ⟨r0, r1, r2, r3, r4⟩ := t9.five
        simp only [at0] at r0 r1 r2 r3 r4
        exact bodyPost_ret (v := .tuple #[.agg #[.bool false, .bool false, .bool false, .bool false, .int .i64 0], .int .i64 1]) (by simp [results, Tryz.results15, go_sem, r0, r1, r2, r3, r4]) rfl ⟨rfl, HB.out⟩
      · have hR9 := HR1.out
        rw [if_neg (by omega)] at hR9
        simp only [Prod.mk.injEq] at hR9
        obtain ⟨hR9, rfl⟩ := hR9
        go_wp2_with fail
        refine (HOu.out (by omega) w2 H2.out.2.2).mono ?_
        rintro e w3 ⟨o3, p3, rfl, hp3, _, _, hr3, b3⟩
        have HL := hideS (look_any (isort ltS D) o3 p3 n (by rw [isort_length, HX.out.2.1]; exact hp3) w3 hr3)
        rw [isort_length, HX.out.2.1, ← hR9] at HL
        unfold At.val at HL
        simp only at HL
        have H3 := hideS (show AtC w3 (w.heap.size + 1) at0 ∧ Below w.heap.size w w3 from ⟨H2.out.2.1.keep b3, bupS H2.out.2.2 b3⟩)
        clear b3 hr3 H2 k0 k1 g0 g1 g2 g3 g4 a0 a1 a2 a3 a4 HOu
        go_wp2_with fail
        refine HL.out.mono ?_
        rintro e w4 ⟨rfl, b4⟩
        have H4 := hideS (show AtC w4 (w.heap.size + 1) at0 ∧ Below w.heap.size w w4 from ⟨H3.out.1.keep b4, bupS H3.out.2 b4⟩)
        clear b4 H3 HL
        obtain ⟨g0, g1, g2, g3, g4⟩ := H4.out.1.free
        obtain ⟨a0, a1, a2, a3, a4⟩ := H4.out.1.five
        obtain ⟨WX, hWX⟩ : ∃ WX, ((((w4.setCell ⟨w.heap.size + 1, 0, none⟩ (.bool R0)).setCell ⟨w.heap.size + 1, 1, none⟩ (.bool R1)).setCell ⟨w.heap.size + 1, 2, none⟩ (.bool R2)).setCell ⟨w.heap.size + 1, 3, none⟩ (.bool R3)).setCell ⟨w.heap.size + 1, 4, none⟩ (.int .i64 R4) = WX := ⟨_, rfl⟩
        have t9 : AtC WX (w.heap.size + 1) ⟨R0, R1, R2, R3, R4⟩ := by rw [← hWX]; exact at_all H4.out.1
        have HB := hideS (show Below w.heap.size w WX by rw [← hWX]; exact HSB.out _ _ _ _ _ _ H4.out.2)
        go_wp2_with fail
        try rw [hWX]
        obtain ⟨r0, r1, r2, r3, r4⟩ := t9.five
        exact bodyPost_ret (v := .tuple #[.agg #[.bool R0, .bool R1, .bool R2, .bool R3, .int .i64 R4], .int .i64 0]) (by simp [results, Tryz.results15, go_sem, r0, r1, r2, r3, r4]) rfl ⟨rfl, HB.out⟩
  · have e1b : (c1 != 0) = true := by simpa using e1
    have hR9 : lokR s D n = (at0, c1) := by unfold lokR; rw [HX.out.1, if_pos e1]
    rw [HX.out.2.2.2] at hR9
    simp only [Prod.mk.injEq, at0, At.mk.injEq] at hR9
    obtain ⟨⟨rfl, rfl, rfl, rfl, rfl⟩, rfl⟩ := hR9
    obtain ⟨g0, g1, g2, g3, g4⟩ := H1.out.2.1.free
    obtain ⟨a0, a1, a2, a3, a4⟩ := H1.out.2.1.five
    obtain ⟨WX, hWX⟩ : ∃ WX, ((((w1.setCell ⟨w.heap.size + 1, 0, none⟩ (.bool false)).setCell ⟨w.heap.size + 1, 1, none⟩ (.bool false)).setCell ⟨w.heap.size + 1, 2, none⟩ (.bool false)).setCell ⟨w.heap.size + 1, 3, none⟩ (.bool false)).setCell ⟨w.heap.size + 1, 4, none⟩ (.int .i64 0) = WX := ⟨_, rfl⟩
    have t9 : AtC WX (w.heap.size + 1) at0 := by rw [← hWX]; exact at_all H1.out.2.1
    have HB := hideS (show Below w.heap.size w WX by rw [← hWX]; exact HSB.out _ _ _ _ _ _ H1.out.2.2)
    go_wp2_with fail
    try rw [hWX]
    obtain ⟨r0, r1, r2, r3, r4⟩ := t9.five
    simp only [at0] at r0 r1 r2 r3 r4
    exact bodyPost_ret (v := .tuple #[.agg #[.bool false, .bool false, .bool false, .bool false, .int .i64 0], .int .i64 RE]) (by simp [results, Tryz.results15, go_sem, r0, r1, r2, r3, r4]) rfl ⟨rfl, HB.out⟩
end Go.Proofs.YtkamjlpnenldbaaGreatDoor

/- Same at every two texts, the program's and the reference's (P0705). -/
namespace Go.Proofs.YtkamjlpnenldbaaGreatDoor
open Go.RowKit Go.Shelf
attribute [local go_sem] Oper.semAt_some

theorem ba_ne {s u : ByteArray} (h : ¬ s = u) : ¬ s.toList = u.toList := fun k => h (ByteArray.ext (Array.toList_inj.1 (by rw [← Lib.toList_data, ← Lib.toList_data]; exact k)))
/-- The answer of Runs in one form. -/
theorem run_form {w w' : World} {s : ByteArray} {D : List Sp} {e : Ending} (h : RunAns w s D e w') : Below w.heap.size w w' ∧ ∃ v, e = .returned (.tuple #[v, .int .i64 (chkT s D)]) ∧ (chkT s D = 0 → ∃ o c, v = .slice o (runsM (signs s).length (isort ltS D)).length c ∧ RnO w' o (runsM (signs s).length (isort ltS D))) := by
  refine ⟨h.1, ?_⟩
  rcases h.2 with ⟨h1, h2⟩ | ⟨h1, v, h2, h3⟩
  · exact ⟨_, h2, fun h => absurd h h1⟩
  · rw [h1]
    obtain ⟨o, c, e1, _, e2⟩ := rn_of_own h3
    exact ⟨v, h2, fun _ => ⟨o, c, e1, e2⟩⟩
theorem step_len (acc : List Rn) (f t : Int) (a : At) : (runStep acc f t a).length ≤ acc.length + 1 := by
  unfold runStep
  cases h : acc.getLast? with
  | none => simp
  | some r =>
    simp only
    split
    · simp
    · simp
theorem rle_len : ∀ (l : List At) (acc : List Rn) (i : Int), (rleL acc i l).length ≤ acc.length + l.length
  | [], acc, i => by simp [rleL]
  | a :: l, acc, i => by
    have h1 := rle_len l (runStep acc i (i + 1) a) (i + 1)
    have h2 := step_len acc i (i + 1) a
    show (rleL (runStep acc i (i + 1) a) (i + 1) l).length ≤ _
    rw [List.length_cons]
    omega
theorem sam_no {s u : ByteArray} {D E : List Sp} (h : ¬ (chkT s D = 0 ∧ chkT u E = 0 ∧ s = u)) : samB s D u E = false := decide_eq_false fun k => h ⟨k.1, k.2.1, k.2.2.1⟩
set_option maxRecDepth 100000 in
set_option maxHeartbeats 2000000 in
theorem same7_any (s u : ByteArray) (D E : List Sp) (oa ob : Option Addr) (ca cb : Nat) (hs : s.size ≤ 140737488355328) (hu : u.size ≤ 140737488355328) (hca : D.length ≤ ca ∧ ca ≤ maxLen) (hcb : E.length ≤ cb ∧ cb ≤ maxLen)
    (hna : oa = none → D = [] ∧ ca = 0) (hnb : ob = none → E = [] ∧ cb = 0) (w : World) (hRa : SpO w oa D) (hRb : SpO w ob E) :
    Calls Tryz.prog 9 #[.agg #[.string s, .slice oa D.length ca], .agg #[.string u, .slice ob E.length cb]] w fun e w' => e = .returned (.bool (samB s D u E)) ∧ Below w.heap.size w w' := by
  have HR1 := hideS (fun (W : World) (h : Below w.heap.size w W) => runs_any s D oa ca hs hca hna W (hRa.keep h))
  have HR2 := hideS (fun (W : World) (h : Below w.heap.size w W) => runs_any u E ob cb hu hcb hnb W (hRb.keep h))
  obtain ⟨c1, hc1⟩ : ∃ c, chkT s D = c := ⟨_, rfl⟩
  obtain ⟨c2, hc2⟩ : ∃ c, chkT u E = c := ⟨_, rfl⟩
  obtain ⟨ND, hND⟩ : ∃ ND, D.length = ND := ⟨_, rfl⟩
  obtain ⟨NE, hNE⟩ : ∃ NE, E.length = NE := ⟨_, rfl⟩
  obtain ⟨bb, hbb⟩ : ∃ b, samB s D u E = b := ⟨_, rfl⟩
  have HX := hideS (And.intro (And.intro hc1 hc2) (And.intro hND (And.intro hNE hbb)))
  rw [hbb, hND, hNE]
  rw [hND] at HR1
  rw [hNE] at HR2
  clear hRa hRb hna hnb hca hcb hc1 hc2 hND hNE hbb
  go_enter Tryz.func9, Tryz.ntmps9
  go_wp2_with fail
  obtain ⟨W0, hW0⟩ : ∃ W0, (w.alloc (.cells #[.string s, .slice oa ND ca] 24)).alloc (.cells #[.string u, .slice ob NE cb] 24) = W0 := ⟨_, rfl⟩
  have t0 : Tx W0 w.heap.size (.string s) (.slice oa ND ca) := by rw [← hW0]; exact (Tx.new w _ _).keep (bel1S _ _)
  have t1 : Tx W0 (w.heap.size + 1) (.string u) (.slice ob NE cb) := by
    rw [← hW0]
    have h9 := Tx.new (w.alloc (.cells #[.string s, .slice oa ND ca] 24)) (.string u) (.slice ob NE cb)
    rw [World.size_alloc] at h9
    exact h9
  have b0 : Below w.heap.size w W0 := by rw [← hW0]; exact bupS (bel1S _ _) (bel1S _ _)
  try rw [hW0]
  have H0 := hideS (And.intro t0 (And.intro t1 b0))
  clear hW0 t0 t1 b0
  refine (HR1.out W0 H0.out.2.2).mono ?_
  intro e w1 hans
  obtain ⟨b1, v1, rfl, hv1⟩ := run_form hans
  rw [HX.out.1.1] at hv1 ⊢
  have H1 := hideS (show Tx w1 w.heap.size (.string s) (.slice oa ND ca) ∧ Tx w1 (w.heap.size + 1) (.string u) (.slice ob NE cb) ∧ Below w.heap.size w w1 from ⟨H0.out.1.keep b1, H0.out.2.1.keep b1, bupS H0.out.2.2 b1⟩)
  have HV1 := hideS hv1
  clear b1 H0 HR1 hans hv1
  obtain ⟨k0, k1, _, _⟩ := H1.out.2.1.cells
  go_wp2_with fail
  refine (HR2.out w1 H1.out.2.2).mono ?_
  intro e w2 hans
  obtain ⟨b2, v2, rfl, hv2⟩ := run_form hans
  rw [HX.out.1.2] at hv2 ⊢
  have H2 := hideS (show Tx w2 w.heap.size (.string s) (.slice oa ND ca) ∧ Tx w2 (w.heap.size + 1) (.string u) (.slice ob NE cb) ∧ Below w.heap.size w w2 from ⟨H1.out.1.keep b2, H1.out.2.1.keep b2, bupS H1.out.2.2 b2⟩)
  have HV2 := hideS hv2
  have HB2 := hideS b2
  clear b2 H1 HR2 hans hv2 k0 k1
  by_cases e1 : c1 = 0
  · have e1b : (c1 == 0) = true := by simpa using e1
    by_cases e2 : c2 = 0
    · have e2b : (c2 == 0) = true := by simpa using e2
      obtain ⟨o1, p1, rfl, r1⟩ := HV1.out e1
      obtain ⟨o2, p2, rfl, r2⟩ := HV2.out e2
      have r1 := r1.keep HB2.out
      obtain ⟨k0, k1, _, _⟩ := H2.out.1.cells
      obtain ⟨k2, k3, _, _⟩ := H2.out.2.1.cells
      by_cases hsu : s = u
      · have hh1 : chkT s D = 0 := HX.out.1.1.trans e1
        have hh2 : chkT u E = 0 := HX.out.1.2.trans e2
        have hlen : (runsM (signs s).length (isort ltS D)).length ≤ 1048576 := by
          rw [runs_seg hh1]
          have h1 := rle_len (alls D (signs s).length) [] 0
          rw [alls_len] at h1
          have h2 := signs_le s
          have h3 := (chkT_ok hh1).1
          simp at h1
          omega
        have HEq := hideS (requal_any _ _ o1 o2 p1 p2 hlen w2 r1 r2)
        have hfin : decide (runsM (signs s).length (isort ltS D) = runsM (signs u).length (isort ltS E)) = bb := by
          rw [← HX.out.2.2.2]
          unfold samB
          rw [decide_eq_decide]
          exact ⟨fun h => ⟨hh1, hh2, hsu, (sam_runs hh1 hh2).1 h⟩, fun h => (sam_runs hh1 hh2).2 h.2.2.2⟩
        rw [hfin] at HEq
        clear r1 r2 hfin hlen hh1 hh2 HV1 HV2
        generalize (runsM (signs s).length (isort ltS D)).length = L1 at *
        generalize (runsM (signs u).length (isort ltS E)).length = L2 at *
        subst hsu
        go_wp2_with fail
        refine HEq.out.mono ?_
        rintro e w3 ⟨rfl, b3⟩
        have H3 := hideS (bupS H2.out.2.2 b3)
        clear b3 HEq
        go_wp2_with fail
        go_ret
        exact ⟨rfl, H3.out⟩
      · have hbf : bb = false := by rw [← HX.out.2.2.2]; exact sam_no (fun h => hsu h.2.2)
        subst hbf
        have hq : ¬ s.toList = u.toList := ba_ne hsu
        clear r1 r2 HV1 HV2
        go_wp2_with fail
        go_ret
        exact ⟨rfl, H2.out.2.2⟩
    · have e2b : (c2 == 0) = false := by simpa using e2
      have hbf : bb = false := by rw [← HX.out.2.2.2]; exact sam_no (fun h => e2 (HX.out.1.2.symm.trans h.2.1))
      subst hbf
      go_wp2_with fail
      go_ret
      exact ⟨rfl, H2.out.2.2⟩
  · have e1b : (c1 == 0) = false := by simpa using e1
    have hbf : bb = false := by rw [← HX.out.2.2.2]; exact sam_no (fun h => e1 (HX.out.1.1.symm.trans h.1))
    subst hbf
    go_wp2_with fail
    go_ret
    exact ⟨rfl, H2.out.2.2⟩
end Go.Proofs.YtkamjlpnenldbaaGreatDoor

/- The reference's Runs; runs held against runs (P0703). -/
namespace Go.Proofs.YtkamjlpnenldbaaGreatDoor
open Go.RowKit Go.Shelf
attribute [local go_sem] Oper.semAt_some

end Go.Proofs.YtkamjlpnenldbaaGreatDoor

/- A text with spans that is handed in, opened (chapter 7). -/
namespace Go.Proofs.YtkamjlpnenldbaaGreatDoor
open Go.ChangeShapes Go.WideShapes Go.ChangeAt Go.RowKit Go.Joins

instance : Inhabited Sp := ⟨⟨0, 0, 0, 0⟩⟩
theorem cellsTx : Tryz.prog.cellsOf 24 = 2 := by kernel_rfl
theorem cellsSp : Tryz.prog.cellsOf 26 = 4 := by kernel_rfl
theorem bytesSp : Tryz.prog.bytesOf 26 = 32 := by kernel_rfl
theorem addrS_zero (a : Addr) : a.add 0 = a := by unfold Addr.add; rw [if_pos rfl]
theorem addrS_succ (a : Addr) (j : Nat) : a.add (j + 1) = ⟨a.block, a.off + (j + 1), none⟩ := by unfold Addr.add; rw [if_neg (by omega)]
set_option maxRecDepth 100000 in
theorem open_sp {H : Type} {enc : TypeId × Value → H} {W : World} {base : Nat} {spare : Nat → Bool} {held : Bool} {fuel : Nat} {v : Value} {x : DataW H × List MemPlace}
    (h : DataW.trod enc Tryz.prog W base spare held fuel 22 [v] = some x) :
    ∃ (D : List Sp) (o : Option Addr) (cap : Nat), v = .slice o D.length cap ∧ (D.length ≤ cap ∧ cap ≤ maxLen) ∧ (o = none → D = [] ∧ cap = 0) ∧ SpO W o D ∧
      ((x.1 = .nil ∧ D = []) ∨ ∃ el sp, x.1 = .slice el sp ∧ el.length = D.length) := by
  rcases Deep.open_slice Tryz.underlying22 h with ⟨hcs, hx⟩ | ⟨a, len, cap, m, n, E, Pl, hcs, hb, hl, hm, hmm, hx, hel⟩
  · simp at hcs
    subst hcs
    exact ⟨[], none, 0, rfl, ⟨by simp, by decide⟩, fun _ => ⟨rfl, rfl⟩, SpO.nil W none, .inl ⟨by rw [hx], rfl⟩⟩
  · simp at hcs
    subst hcs
    have hlm : len ≤ m := by rw [hmm]; split <;> omega
    have key : ∀ i, i < len → ∃ q : Sp, a.block < W.heap.size ∧
        W.cell? (a.add (i * 4)) = some (.int .i64 q.fr) ∧ W.cell? ⟨(a.add (i * 4)).block, (a.add (i * 4)).off + 1, none⟩ = some (.int .i64 q.tt) ∧ W.cell? ⟨(a.add (i * 4)).block, (a.add (i * 4)).off + 2, none⟩ = some (.int .i64 q.kd) ∧ W.cell? ⟨(a.add (i * 4)).block, (a.add (i * 4)).off + 3, none⟩ = some (.int .i64 q.vl) := by
      intro i hi
      obtain ⟨cs', h1, h2⟩ := hel i (by omega)
      rw [cellsSp] at h1
      have hbl := World.cells?_block h1 (by decide)
      rw [addrS_block] at hbl
      obtain ⟨_, hlen, hcell⟩ := World.cells?_some h1
      match cs', hlen with
      | [v0, v1, v2, v3], _ =>
        obtain ⟨y0, y1, y2, y3, k, _, _, t0, t1, t2, t3⟩ := trod_struct4 Tryz.underlying26 h2
        obtain ⟨k0, a0, _, w0⟩ := DataW.trod_int Tryz.underlying3 t0
        obtain ⟨k1, a1, _, w1⟩ := DataW.trod_int Tryz.underlying3 t1
        obtain ⟨k2, a2, _, w2⟩ := DataW.trod_int Tryz.underlying3 t2
        obtain ⟨k3, a3, _, w3⟩ := DataW.trod_int Tryz.underlying3 t3
        have c3 : Tryz.prog.cellsOf 3 = 1 := by kernel_rfl
        simp [c3] at a0 a1 a2 a3
        subst a0 a1 a2 a3
        have e0 := hcell 0 (by omega)
        have e1 := hcell 1 (by omega)
        have e2 := hcell 2 (by omega)
        have e3 := hcell 3 (by omega)
        rw [addrS_zero] at e0
        rw [addrS_succ] at e1 e2 e3
        exact ⟨⟨k0, k1, k2, k3⟩, hbl, e0, e1, e2, e3⟩
    obtain ⟨q, hq⟩ := Deep.choose_lt key
    refine ⟨(List.range len).map q, some a, cap, by simp, ⟨by simpa using hl, hm⟩, (fun e => nomatch e), fun i r hr => ?_, .inr ⟨_, _, by rw [hx], by simp⟩⟩
    have hi : i < len := by
      have := (List.getElem?_eq_some_iff.1 hr).1
      simpa using this
    have er : r = q i := by
      rw [List.getElem?_map, List.getElem?_range hi] at hr
      simpa using hr.symm
    rw [er]
    exact ⟨a, rfl, hq i hi⟩
set_option maxRecDepth 100000 in
theorem open_text {H : Type} {enc : TypeId × Value → H} {W : World} {r : Reach} {b0 base : Nat} {spare : Nat → Bool} {held : Bool} {v : Value} {d : DataW H} {p : List MemPlace}
    (hv : Value.okWide Tryz.prog W r b0 24 v) (h : DataW.Trod enc Tryz.prog W base spare held 24 v d p)
    (hsz : (DataW.weights Tryz.prog 24 d).all (· ≤ reachBytes) = true) :
    ∃ (s : ByteArray) (D : List Sp) (o : Option Addr) (cap : Nat), v = .agg #[.string s, .slice o D.length cap] ∧ (D.length ≤ cap ∧ cap ≤ maxLen) ∧ (o = none → D = [] ∧ cap = 0) ∧ SpO W o D ∧ s.size ≤ 140737488355328 ∧ D.length ≤ 4398046510976 := by
  obtain ⟨c0, c1, y0, y1, m, rfl, rfl, rfl, hy0, hy1⟩ := open_agg2 Tryz.underlying24 (by kernel_rfl) cellsTx hv h
  obtain ⟨s, e0, rfl, _⟩ := DataW.trod_string Tryz.underlying9 hy0
  simp at e0
  subst e0
  obtain ⟨D, o, cap, rfl, hc, hn, hR, hd⟩ := open_sp hy1
  have hu : Tryz.prog.underlying 24 = _ := Tryz.underlying24
  unfold DataW.weights at hsz
  rw [hu] at hsz
  simp only [List.map_cons, List.map_nil, DataW.weightsEach, List.all_append, Bool.and_eq_true, List.append_nil, reachBytes] at hsz
  obtain ⟨hs0, hs1⟩ := hsz
  refine ⟨s, D, o, cap, rfl, hc, hn, hR, ?_, ?_⟩
  · simp only [DataW.weights, List.all_cons, Bool.and_eq_true] at hs0
    have h1 := of_decide_eq_true (by first | exact hs0 | exact hs0.1 : decide _ = true)
    rw [Lib.size_eq]
    omega
  · rcases hd with ⟨_, rfl⟩ | ⟨el, sp, e, hl⟩
    · simp
    · rw [e] at hs1
      unfold DataW.weights at hs1
      have hv2 : Tryz.prog.underlying 22 = _ := Tryz.underlying22
      rw [hv2] at hs1
      simp only [List.all_cons, Bool.and_eq_true, bytesSp] at hs1
      have h1 := of_decide_eq_true hs1.1
      omega
end Go.Proofs.YtkamjlpnenldbaaGreatDoor
