/- Do spans cross: the program's way, by a stack of ends over spans in order, against all pairs (chapter 7). Mathematics alone. -/
import Derived.Test.YtbiodfeanngkdaaDoorSoA
namespace Go.Proofs.YtbiodfeanngkdaaDoor

/-- Two spans share a sign, and none is within the other. -/
def crS (a b : Sp) : Prop := a.fr < b.tt ∧ b.fr < a.tt ∧ ¬ (b.fr ≤ a.fr ∧ a.tt ≤ b.tt) ∧ ¬ (a.fr ≤ b.fr ∧ b.tt ≤ a.tt)
theorem crS_symm {a b : Sp} (h : crS a b) : crS b a := ⟨h.2.1, h.1, h.2.2.2, h.2.2.1⟩
theorem crS_irr (a : Sp) : ¬ crS a a := fun h => h.2.2.1 ⟨Int.le_refl _, Int.le_refl _⟩
/-- The ends that are not over at a place. -/
def popE (f : Int) : List Int → List Int
  | [] => []
  | t :: l => if t ≤ f then popE f l else t :: l
/-- The program's way: the stack's top stands first. -/
def crGo : List Int → List Sp → Bool
  | _, [] => false
  | st, x :: l => match popE x.fr st with
    | [] => crGo [x.tt] l
    | t :: m => if t < x.tt then true else crGo (x.tt :: t :: m) l
/-- Ends that rise from the top on. -/
def UpE : List Int → Prop
  | [] => True
  | t :: l => (∀ u ∈ l, t ≤ u) ∧ UpE l
theorem popE_sub (f : Int) : ∀ (l : List Int) (t : Int), t ∈ popE f l → t ∈ l
  | [], _, h => h
  | u :: l, t, h => by
    unfold popE at h
    split at h
    · exact List.mem_cons_of_mem _ (popE_sub f l t h)
    · exact h
theorem popE_up (f : Int) : ∀ (l : List Int), UpE l → UpE (popE f l)
  | [], h => h
  | u :: l, h => by
    unfold popE
    split
    · exact popE_up f l h.2
    · exact h
theorem popE_gt (f : Int) : ∀ (l : List Int), UpE l → ∀ t ∈ popE f l, f < t
  | [], _, _, ht => by cases ht
  | u :: l, h, t, ht => by
    unfold popE at ht
    split at ht
    · exact popE_gt f l h.2 t ht
    · rename_i hu
      rcases List.mem_cons.1 ht with rfl | ht
      · omega
      · have := h.1 t ht
        omega
theorem popE_keep (f : Int) : ∀ (l : List Int), ∀ t ∈ l, f < t → t ∈ popE f l
  | [], _, ht, _ => by cases ht
  | u :: l, t, ht, hf => by
    unfold popE
    split
    · rename_i hu
      rcases List.mem_cons.1 ht with rfl | ht
      · omega
      · exact popE_keep f l t ht hf
    · exact ht
/-- In order by From, then the longer one first. -/
def OrdS : List Sp → Prop
  | [] => True
  | x :: l => (∀ y ∈ l, x.fr < y.fr ∨ (x.fr = y.fr ∧ y.tt ≤ x.tt)) ∧ OrdS l
theorem crGo_iff : ∀ (l P : List Sp) (st : List Int), OrdS l → (∀ x ∈ l, x.fr < x.tt) → (∀ p ∈ P, ∀ x ∈ l, p.fr < x.fr ∨ (p.fr = x.fr ∧ x.tt ≤ p.tt)) → UpE st →
    (∀ t ∈ st, ∃ p ∈ P, p.tt = t) → (∀ p ∈ P, ∀ x ∈ l, x.fr < p.tt → p.tt ∈ st) → (crGo st l = true ↔ ∃ x ∈ l, ∃ y, (y ∈ P ∨ y ∈ l) ∧ crS y x)
  | [], _, _, _, _, _, _, _, _ => by simp [crGo]
  | x :: l, P, st, ho, hf, hP, hu, hs, hk => by
    have hx := hf x (List.mem_cons_self ..)
    have hup := popE_up x.fr st hu
    have hgt := popE_gt x.fr st hu
    have hsub := popE_sub x.fr st
    have hkeep := popE_keep x.fr st
    -- of x itself: it crosses one of P just if the top end is ahead of its own
    have key : (∃ y ∈ P, crS y x) ↔ ∃ t ∈ popE x.fr st, t < x.tt := by
      constructor
      · rintro ⟨y, hy, h1, h2, h3, h4⟩
        have := hP y hy x (List.mem_cons_self ..)
        exact ⟨y.tt, hkeep _ (hk y hy x (List.mem_cons_self ..) h2) h2, by omega⟩
      · rintro ⟨t, ht, hlt⟩
        obtain ⟨p, hp, rfl⟩ := hs t (hsub t ht)
        have h1 := hgt _ ht
        have h2 := hP p hp x (List.mem_cons_self ..)
        exact ⟨p, hp, by omega, by omega, by omega, by omega⟩
    have step : ∀ st', UpE st' → (∀ t ∈ st', ∃ p ∈ x :: P, p.tt = t) → (∀ p ∈ x :: P, ∀ y ∈ l, y.fr < p.tt → p.tt ∈ st') → (crGo st' l = true ↔ ∃ z ∈ l, ∃ y, (y ∈ x :: P ∨ y ∈ l) ∧ crS y z) := fun st' h1 h2 h3 =>
      crGo_iff l (x :: P) st' ho.2 (fun y hy => hf y (List.mem_cons_of_mem _ hy)) (fun p hp y hy => by
        rcases List.mem_cons.1 hp with rfl | hp
        · exact ho.1 y hy
        · exact hP p hp y (List.mem_cons_of_mem _ hy)) h1 h2 h3
    have tail : (¬ ∃ y ∈ P, crS y x) → ((∃ z ∈ l, ∃ y, (y ∈ x :: P ∨ y ∈ l) ∧ crS y z) ↔ ∃ z ∈ x :: l, ∃ y, (y ∈ P ∨ y ∈ x :: l) ∧ crS y z) := fun hno => by
      constructor
      · rintro ⟨z, hz, y, hy, hc⟩
        refine ⟨z, List.mem_cons_of_mem _ hz, y, ?_, hc⟩
        rcases hy with hy | hy
        · rcases List.mem_cons.1 hy with rfl | hy
          · exact .inr (List.mem_cons_self ..)
          · exact .inl hy
        · exact .inr (List.mem_cons_of_mem _ hy)
      · rintro ⟨z, hz, y, hy, hc⟩
        rcases List.mem_cons.1 hz with rfl | hz
        · rcases hy with hy | hy
          · exact absurd ⟨y, hy, hc⟩ hno
          · rcases List.mem_cons.1 hy with rfl | hy
            · exact absurd hc (crS_irr _)
            · exact ⟨y, hy, z, .inl (List.mem_cons_self ..), crS_symm hc⟩
        · refine ⟨z, hz, y, ?_, hc⟩
          rcases hy with hy | hy
          · exact .inl (List.mem_cons_of_mem _ hy)
          · rcases List.mem_cons.1 hy with rfl | hy
            · exact .inl (List.mem_cons_self ..)
            · exact .inr hy
    have hk2 : ∀ p ∈ x :: P, ∀ y ∈ l, y.fr < p.tt → p.tt ∈ x.tt :: popE x.fr st := fun p hp y hy hlt => by
      rcases List.mem_cons.1 hp with rfl | hp
      · exact List.mem_cons_self ..
      · have := ho.1 y hy
        exact List.mem_cons_of_mem _ (hkeep _ (hk p hp y (List.mem_cons_of_mem _ hy) hlt) (by omega))
    have hs2 : ∀ t ∈ x.tt :: popE x.fr st, ∃ p ∈ x :: P, p.tt = t := fun t ht => by
      rcases List.mem_cons.1 ht with rfl | ht
      · exact ⟨x, List.mem_cons_self .., rfl⟩
      · obtain ⟨p, hp, e⟩ := hs t (hsub t ht)
        exact ⟨p, List.mem_cons_of_mem _ hp, e⟩
    unfold crGo
    cases hq : popE x.fr st with
    | nil =>
      simp only
      rw [hq] at key hk2 hs2
      have hno : ¬ ∃ y ∈ P, crS y x := fun h => by obtain ⟨t, ht, _⟩ := key.1 h; cases ht
      rw [← tail hno]
      exact step _ ⟨fun u hu => (nomatch hu), trivial⟩ hs2 hk2
    | cons t m =>
      simp only
      rw [hq] at key hup hk2 hs2
      by_cases hlt : t < x.tt
      · rw [if_pos hlt]
        obtain ⟨y, hy, hc⟩ := key.2 ⟨t, List.mem_cons_self .., hlt⟩
        exact ⟨fun _ => ⟨x, List.mem_cons_self .., y, .inl hy, hc⟩, fun _ => rfl⟩
      · rw [if_neg hlt]
        have hno : ¬ ∃ y ∈ P, crS y x := fun h => by
          obtain ⟨u, hu, h2⟩ := key.1 h
          rcases List.mem_cons.1 hu with rfl | hu
          · exact hlt h2
          · have := hup.1 u hu
            omega
        rw [← tail hno]
        refine step _ ⟨fun u hu => ?_, hup⟩ hs2 hk2
        rcases List.mem_cons.1 hu with rfl | hu
        · omega
        · have := hup.1 u hu
          omega
theorem srt_ord : ∀ (l : List Sp), Srt ltS l → OrdS l
  | [], _ => trivial
  | x :: l, h => by
    obtain ⟨h1, h2⟩ := List.pairwise_cons.1 h
    refine ⟨fun y hy => ?_, srt_ord l h2⟩
    have := (ltS_false y x).1 (h1 y hy)
    omega
theorem isort_mem {α : Type} (lt : α → α → Bool) (z : α) : ∀ (r : List α), z ∈ isort lt r.reverse ↔ z ∈ r
  | [] => by simp [isort]
  | x :: r => by
    rw [List.reverse_cons, isort_snoc, mg_mem, isort_mem lt z r]
    rw [List.mem_singleton, List.mem_cons]
    exact Or.comm
theorem isort_mems {α : Type} (lt : α → α → Bool) (z : α) (l : List α) : z ∈ isort lt l ↔ z ∈ l := by
  have := isort_mem lt z l.reverse
  rw [List.reverse_reverse] at this
  rw [this, List.mem_reverse]
/-- Does the program find spans that cross? -/
def crB (D : List Sp) : Bool := crGo [] (isort ltS D)
theorem crB_iff (D : List Sp) (hf : ∀ x ∈ D, x.fr < x.tt) : crB D = true ↔ ∃ x ∈ D, ∃ y ∈ D, crS y x := by
  unfold crB
  rw [crGo_iff (isort ltS D) [] [] (srt_ord _ (isort_sorted swoS D)) (fun x hx => hf x ((isort_mems ltS x D).1 hx)) (fun p hp => by cases hp) trivial (fun t ht => by cases ht) (fun p hp => by cases hp)]
  constructor
  · rintro ⟨x, hx, y, hy, hc⟩
    rcases hy with hy | hy
    · cases hy
    · exact ⟨x, (isort_mems ltS x D).1 hx, y, (isort_mems ltS y D).1 hy, hc⟩
  · rintro ⟨x, hx, y, hy, hc⟩
    exact ⟨x, (isort_mems ltS x D).2 hx, y, .inr ((isort_mems ltS y D).2 hy), hc⟩
end Go.Proofs.YtbiodfeanngkdaaDoor
