/- Several texts, one behind the other. -/
import Derived.Test.YtaipdckakgohjaaGreatDoorGB
/- strings.Cut at one byte, and a text's last byte: mathematics. -/
namespace Go.Proofs.YtaipdckakgohjaaGreatDoor
open Go.RowKit Go.Shelf

theorem cutm_miss (t : List UInt8) (c : UInt8) (h : ¬ (Lib.cut t [c]).2.2 = true) : Lib.cut t [c] = (t, [], false) := by
  unfold Lib.cut at h ⊢
  by_cases h0 : 0 ≤ Lib.index t [c]
  · rw [if_pos h0] at h
    exact absurd rfl h
  · rw [if_neg h0]
theorem cutm_hit (t : List UInt8) (c : UInt8) (h : (Lib.cut t [c]).2.2 = true) : t = (Lib.cut t [c]).1 ++ c :: (Lib.cut t [c]).2.1 ∧ c ∉ (Lib.cut t [c]).1 := by
  rcases Lib.index_spec t [c] with ⟨h1, _⟩ | ⟨i, h1, h2, h3, h4⟩
  · unfold Lib.cut at h
    rw [h1] at h
    simp at h
  · unfold Lib.cut
    rw [h1, if_pos (by omega)]
    simp only [Int.toNat_natCast, List.length_cons, List.length_nil, Nat.zero_add]
    have occ : ∀ j, Lib.occAt t [c] j = true ↔ t[j]? = some c := by
      intro j
      unfold Lib.occAt
      rw [← List.head?_drop]
      cases t.drop j with
      | nil => simp
      | cons b m =>
        simp only [List.isPrefixOf_cons_cons, List.isPrefixOf_nil_left, Bool.and_true, beq_iff_eq, List.head?_cons, Option.some.injEq]
        exact eq_comm
    have hi := (occ i).1 h3
    have hil : i < t.length := by
      rcases Nat.lt_or_ge i t.length with h | h
      · exact h
      · rw [List.getElem?_eq_none h] at hi; cases hi
    constructor
    · conv => lhs; rw [← List.take_append_drop i t]
      rw [List.drop_eq_getElem_cons hil]
      rw [List.getElem?_eq_getElem hil] at hi
      rw [Option.some.inj hi]
    · intro hm
      obtain ⟨j, hj, e⟩ := List.mem_iff_getElem.1 hm
      rw [List.length_take] at hj
      rw [List.getElem_take] at e
      have := h4 j (by omega)
      rw [Bool.eq_false_iff] at this
      exact this ((occ j).2 (by rw [List.getElem?_eq_getElem (by omega), e]))
theorem appm_uniq {c : UInt8} : ∀ {a a' b b' : List UInt8}, c ∉ a → c ∉ a' → a ++ c :: b = a' ++ c :: b' → a = a' ∧ b = b'
  | [], [], _, _, _, _, h => by simp at h; exact ⟨rfl, h⟩
  | [], x :: a', _, _, _, h2, h => by simp at h; exact absurd (by rw [h.1]; simp) h2
  | x :: a, [], _, _, h1, _, h => by simp at h; exact absurd (by rw [h.1]; simp) h1
  | x :: a, y :: a', b, b', h1, h2, h => by
    simp only [List.cons_append, List.cons.injEq] at h
    obtain ⟨e1, e2⟩ := appm_uniq (a := a) (a' := a') (fun m => h1 (List.mem_cons_of_mem _ m)) (fun m => h2 (List.mem_cons_of_mem _ m)) h.2
    exact ⟨by rw [h.1, e1], e2⟩
theorem cutm_gone (t : List UInt8) (c : UInt8) (h : c ∉ t) : Lib.cut t [c] = (t, [], false) := by
  apply cutm_miss
  intro hc
  obtain ⟨e, _⟩ := cutm_hit t c hc
  exact h (by rw [e]; simp)
theorem cutm_at (a b : List UInt8) (c : UInt8) (h : c ∉ a) : Lib.cut (a ++ c :: b) [c] = (a, b, true) := by
  by_cases hc : (Lib.cut (a ++ c :: b) [c]).2.2 = true
  · obtain ⟨e, n⟩ := cutm_hit _ c hc
    obtain ⟨e1, e2⟩ := appm_uniq h n e
    exact Prod.ext e1.symm (Prod.ext e2.symm hc)
  · have e := cutm_miss _ c hc
    rcases Lib.index_spec (a ++ c :: b) [c] with ⟨_, h2⟩ | ⟨i, h1, _⟩
    · have := h2 a.length (by simp)
      unfold Lib.occAt at this
      rw [List.drop_left] at this
      simp at this
    · unfold Lib.cut at e
      rw [h1, if_pos (by omega)] at e
      simp at e
theorem suf_has (a : List UInt8) (c : UInt8) : Lib.hasSuffix (a ++ [c]) [c] = true ∧ Lib.trimSuffix (a ++ [c]) [c] = a := by
  have h : Lib.hasSuffix (a ++ [c]) [c] = true := by
    unfold Lib.hasSuffix
    rw [List.isSuffixOf_iff_suffix]
    exact List.suffix_append _ _
  refine ⟨h, ?_⟩
  unfold Lib.trimSuffix
  rw [if_pos h]
  simp
theorem suf_of (l : List UInt8) (c : UInt8) (h : Lib.hasSuffix l [c] = true) : l = Lib.trimSuffix l [c] ++ [c] := by
  have h1 := h
  unfold Lib.hasSuffix at h1
  rw [List.isSuffixOf_iff_suffix] at h1
  obtain ⟨a, rfl⟩ := h1
  rw [(suf_has a c).2]
theorem suf_not (l : List UInt8) (c : UInt8) (h : l.getLast? ≠ some c) : Lib.hasSuffix l [c] = false ∧ Lib.trimSuffix l [c] = l := by
  have h1 : Lib.hasSuffix l [c] = false := by
    rw [Bool.eq_false_iff]
    intro x
    refine h ?_
    rw [suf_of l c x]
    simp
  refine ⟨h1, ?_⟩
  unfold Lib.trimSuffix
  rw [if_neg (by rw [h1]; simp)]
theorem suf_no (l : List UInt8) (c : UInt8) (h : Lib.hasSuffix l [c] = false) : Lib.trimSuffix l [c] = l := by
  unfold Lib.trimSuffix
  rw [if_neg (by rw [h]; simp)]
theorem dig_not (q : List UInt8) (c : UInt8) (h : q.all isDig = true) (hc : isDig c = false) : c ∉ q := fun m => by
  have := List.all_eq_true.1 h c m
  rw [hc] at this
  cases this

/-! ### Whole numbers of one to nine digits -/
structure WhL (q : List UInt8) : Prop where
  d : q.all isDig = true
  l1 : 1 ≤ q.length
  l2 : q.length ≤ 9
  z : 1 < q.length → q.head? ≠ some 48
/-- What code.whole reads. -/
def whlA (q : List UInt8) : Int × Bool := if q = [] ∨ 9 < q.length ∨ (1 < q.length ∧ q.head? = some 48) then (0, false) else digA q
theorem whl_at {q : List UInt8} (h : WhL q) : whlA q = (((valN q : Nat) : Int), true) := by
  unfold whlA digA
  rw [if_neg, if_pos h.d]
  rintro (x | x | ⟨x, y⟩)
  · have := h.l1
    rw [x] at this
    simp at this
  · have := h.l2
    omega
  · exact h.z x y
theorem whl_of {q : List UInt8} (h : (whlA q).2 = true) : WhL q := by
  unfold whlA at h
  by_cases c : q = [] ∨ 9 < q.length ∨ (1 < q.length ∧ q.head? = some 48)
  · rw [if_pos c] at h
    cases h
  · rw [if_neg c] at h
    obtain ⟨d, _⟩ := dig_of_true q h
    refine ⟨d, ?_, ?_, ?_⟩
    · rcases Nat.eq_zero_or_pos q.length with x | x
      · exact absurd (.inl (List.length_eq_zero_iff.1 x)) c
      · exact x
    · exact Nat.le_of_not_lt fun x => c (.inr (.inl x))
    · exact fun x y => c (.inr (.inr ⟨x, y⟩))
theorem whl_bound (q : List UInt8) : 0 ≤ (whlA q).1 ∧ (whlA q).1 < 1000000000 := by
  by_cases h : (whlA q).2 = true
  · have W := whl_of h
    rw [whl_at W]
    have hv := valN_lt q W.d q.length (Nat.le_refl _)
    rw [List.take_length] at hv
    have : (10 : Nat) ^ q.length ≤ 10 ^ 9 := Nat.pow_le_pow_right (by omega) W.l2
    simp only
    omega
  · unfold whlA at h ⊢
    split
    · exact ⟨Int.le_refl _, by decide⟩
    · rename_i c
      rw [if_neg c] at h
      unfold digA at h ⊢
      split
      · rename_i c2
        rw [if_pos c2] at h
        exact absurd rfl h
      · exact ⟨Int.le_refl _, by decide⟩
theorem runC_tail (q t : List UInt8) (h : q.all isDig = true) (ht : t = [] ∨ ∃ c u, t = c :: u ∧ isDig c = false) : runC (q ++ t) = q.length := by
  rcases ht with rfl | ⟨c, u, rfl, hc⟩
  · have := runC_all q [] h
    have := runC_le (q ++ [])
    simp at this
    simp only [List.append_nil] at *
    omega
  · exact runC_stop q u c h hc
/-- A whole number, read from the left. -/
def plS (l : List UInt8) (k : Nat) (b : Bool) : Int × Nat × Bool :=
  if runC (l.drop k) < 1 ∨ 9 < runC (l.drop k) ∨ (1 < runC (l.drop k) ∧ l[k]? = some 48) then (0, k, true) else ((valN ((l.drop k).take (runC (l.drop k))) : Nat), k + runC (l.drop k), b)
theorem pl_at (l q t : List UInt8) (k : Nat) (b : Bool) (hd : l.drop k = q ++ t) (hq : WhL q) (ht : t = [] ∨ ∃ c u, t = c :: u ∧ isDig c = false) : plS l k b = (((valN q : Nat) : Int), k + q.length, b) ∧ l.drop (k + q.length) = t := by
  have r := runC_tail q t hq.d ht
  have h1 := hq.l1
  have h2 := hq.l2
  unfold plS
  rw [hd, r, if_neg, List.take_left' rfl]
  · refine ⟨rfl, ?_⟩
    rw [← List.drop_drop, hd, List.drop_left]
  · rintro (x | x | ⟨x, y⟩)
    · omega
    · omega
    · refine hq.z x ?_
      rw [← List.head?_drop, hd] at y
      cases q with
      | nil => simp at h1
      | cons c q => exact y
theorem pl_of (l : List UInt8) (k : Nat) (b : Bool) (h : (plS l k b).2.2 = false) : b = false ∧ ∃ q, WhL q ∧ l.drop k = q ++ l.drop (k + q.length) ∧ plS l k b = (((valN q : Nat) : Int), k + q.length, false) := by
  unfold plS at h ⊢
  by_cases c : runC (l.drop k) < 1 ∨ 9 < runC (l.drop k) ∨ (1 < runC (l.drop k) ∧ l[k]? = some 48)
  · rw [if_pos c] at h
    cases h
  · rw [if_neg c] at h ⊢
    simp only at h
    subst h
    obtain ⟨d1, d2⟩ := runC_dig (l.drop k) _ (Nat.le_refl _)
    generalize hr : runC (l.drop k) = r at *
    refine ⟨rfl, (l.drop k).take r, ⟨d1, by rw [d2]; omega, by rw [d2]; omega, ?_⟩, ?_, ?_⟩
    · rw [d2]
      intro x y
      refine c (.inr (.inr ⟨x, ?_⟩))
      rw [← List.head?_drop]
      cases hl : l.drop k with
      | nil => rw [hl] at y; simp at y
      | cons a m =>
        rw [hl] at y
        obtain ⟨r, rfl⟩ : ∃ s, r = s + 1 := ⟨r - 1, by omega⟩
        exact y
    · rw [d2, ← List.drop_drop, List.take_append_drop]
    · rw [d2]
theorem pl_le (l : List UInt8) (k : Nat) (b : Bool) (h : k ≤ l.length) : (plS l k b).2.1 ≤ l.length := by
  have := runC_le (l.drop k)
  rw [List.length_drop] at this
  unfold plS
  split <;> simp only <;> omega

/-! ### Rates -/
/-- What code.readRate reads. -/
def rateA (l : List UInt8) : (Int × Int × Bool) × Bool :=
  if (whlA (Lib.cut (Lib.trimSuffix l [100]) [47]).1).2 = true ∧ (Lib.cut (Lib.trimSuffix l [100]) [47]).2.2 = true then
    (((whlA (Lib.cut (Lib.trimSuffix l [100]) [47]).1).1, (whlA (Lib.cut (Lib.trimSuffix l [100]) [47]).2.1).1, Lib.hasSuffix l [100]), (whlA (Lib.cut (Lib.trimSuffix l [100]) [47]).2.1).2 && ((whlA (Lib.cut (Lib.trimSuffix l [100]) [47]).2.1).1 != 1))
  else (((whlA (Lib.cut (Lib.trimSuffix l [100]) [47]).1).1, 1, Lib.hasSuffix l [100]), (whlA (Lib.cut (Lib.trimSuffix l [100]) [47]).1).2)
/-- From the left: the second number, where the reader stands, whether it is bad; then the mark of Drop. -/
def denS (l : List UInt8) (c : Int × Nat × Bool) : Int × Nat × Bool :=
  if c.2.2 = false ∧ l[c.2.1]? = some 47 then ((plS l (c.2.1 + 1) false).1, (plS l (c.2.1 + 1) false).2.1, (plS l (c.2.1 + 1) false).2.2 || ((plS l (c.2.1 + 1) false).1 == 1)) else (1, c.2.1, c.2.2)
def dropS (l : List UInt8) (c : Int × Nat × Bool) : Bool × Nat := if c.2.2 = false ∧ l[c.2.1]? = some 100 then (true, c.2.1 + 1) else (false, c.2.1)
def tailR : Option (List UInt8) → List UInt8
  | none => []
  | some b => 47 :: b
def denR : Option (List UInt8) → Int
  | none => 1
  | some b => ((valN b : Nat) : Int)
def lastR (dr : Bool) : List UInt8 := if dr = true then [100] else []
structure FormR (l a : List UInt8) (ob : Option (List UInt8)) (dr : Bool) : Prop where
  eq : l = a ++ (tailR ob ++ lastR dr)
  a1 : WhL a
  b1 : ∀ b, ob = some b → WhL b ∧ ((valN b : Nat) : Int) ≠ 1
theorem last_stop (dr : Bool) : lastR dr = [] ∨ ∃ c u, lastR dr = c :: u ∧ isDig c = false := by
  cases dr
  · exact .inl rfl
  · exact .inr ⟨100, [], rfl, rfl⟩
theorem get_drop (l : List UInt8) (k : Nat) : l[k]? = (l.drop k).head? := by rw [List.head?_drop]
theorem formR_left {l a : List UInt8} {ob : Option (List UInt8)} {dr : Bool} (F : FormR l a ob dr) :
    plS l 0 false = (((valN a : Nat) : Int), a.length, false) ∧ (denS l (plS l 0 false)).1 = denR ob ∧ (denS l (plS l 0 false)).2.2 = false ∧ dropS l (denS l (plS l 0 false)) = (dr, l.length) := by
  have fe := F.eq
  cases ob with
  | none =>
    have st := last_stop dr
    obtain ⟨e1, n1⟩ := pl_at l a (lastR dr) 0 false (by rw [List.drop_zero]; exact fe) F.a1 st
    rw [Nat.zero_add] at e1 n1
    have e2 : denS l (plS l 0 false) = (1, a.length, false) := by
      unfold denS
      rw [e1, if_neg]
      rintro ⟨_, y⟩
      simp only at y
      rw [get_drop, n1] at y
      cases dr <;> simp [lastR] at y
    refine ⟨e1, by rw [e2]; rfl, by rw [e2], ?_⟩
    rw [e2]
    unfold dropS
    simp only
    rw [get_drop, n1]
    have hl := congrArg List.length fe
    cases dr
    · simp [lastR, tailR] at hl ⊢
      omega
    · simp [lastR, tailR] at hl ⊢
      omega
  | some b =>
    obtain ⟨hb, hb1⟩ := F.b1 b rfl
    have st := last_stop dr
    obtain ⟨e1, n1⟩ := pl_at l a (47 :: (b ++ lastR dr)) 0 false (by rw [List.drop_zero]; exact fe) F.a1 (.inr ⟨47, _, rfl, rfl⟩)
    rw [Nat.zero_add] at e1 n1
    obtain ⟨e3, n3⟩ := pl_at l b (lastR dr) (a.length + 1) false (by rw [← List.drop_drop, n1]; rfl) hb st
    have e2 : denS l (plS l 0 false) = (((valN b : Nat) : Int), a.length + 1 + b.length, false) := by
      unfold denS
      rw [e1, if_pos ⟨rfl, by simp only; rw [get_drop, n1]; rfl⟩, e3]
      have : (((valN b : Nat) : Int) == 1) = false := by rw [beq_eq_false_iff_ne]; exact hb1
      simp only [this]
      rfl
    refine ⟨e1, by rw [e2]; rfl, by rw [e2], ?_⟩
    rw [e2]
    unfold dropS
    simp only
    rw [get_drop, n3]
    have hl := congrArg List.length fe
    cases dr
    · simp [lastR, tailR] at hl ⊢
      omega
    · simp [lastR, tailR] at hl ⊢
      omega
theorem left_formR {l : List UInt8} (h1 : (denS l (plS l 0 false)).2.2 = false) (h2 : (dropS l (denS l (plS l 0 false))).2 = l.length) : ∃ a ob, FormR l a ob (dropS l (denS l (plS l 0 false))).1 := by
  have key : ∀ (k : Nat) (d : Int), (dropS l (d, k, false)).2 = l.length → l.drop k = lastR (dropS l (d, k, false)).1 := by
    intro k d hk
    unfold dropS at hk ⊢
    simp only at hk ⊢
    rw [get_drop] at hk ⊢
    by_cases c : (l.drop k).head? = some 100
    · rw [if_pos ⟨by trivial, c⟩] at hk ⊢
      simp only at hk
      have hz : (l.drop k).length = 1 := by rw [List.length_drop]; omega
      obtain ⟨x, hx⟩ := List.length_eq_one_iff.1 hz
      rw [hx] at c ⊢
      simp at c
      rw [c]
      rfl
    · rw [if_neg (fun x => c x.2)] at hk ⊢
      simp only at hk
      rw [hk, List.drop_length]
      rfl
  have p1 : (plS l 0 false).2.2 = false := by
    unfold denS at h1
    by_cases c : (plS l 0 false).2.2 = false ∧ l[(plS l 0 false).2.1]? = some 47
    · exact c.1
    · rw [if_neg c] at h1
      exact h1
  obtain ⟨_, a, A, ha, e1⟩ := pl_of l 0 false p1
  rw [List.drop_zero, Nat.zero_add] at ha
  rw [Nat.zero_add] at e1
  rw [e1] at h1 h2 ⊢
  unfold denS at h1 h2 ⊢
  simp only at h1 h2 ⊢
  by_cases c : l[a.length]? = some 47
  · rw [if_pos ⟨by trivial, c⟩] at h1 h2 ⊢
    simp only [Bool.or_eq_false_iff] at h1
    obtain ⟨_, b, Bb, hb, e2⟩ := pl_of l (a.length + 1) false h1.1
    rw [e2] at h1 h2 ⊢
    simp only at h1 h2 ⊢
    have n1 := beq_eq_false_iff_ne.1 h1.2
    rw [h1.2] at h2 ⊢
    simp only [Bool.or_false] at h2 ⊢
    have ht := key _ _ h2
    refine ⟨a, some b, ?_, A, ?_⟩
    · rw [← ht]
      conv => lhs; rw [ha]
      congr 1
      rw [get_drop] at c
      cases hd : l.drop a.length with
      | nil => rw [hd] at c; simp at c
      | cons x m =>
        rw [hd] at c
        simp at c
        subst c
        have hm : l.drop (a.length + 1) = m := by rw [← List.drop_drop, hd]; rfl
        rw [hm] at hb
        show (47 : UInt8) :: m = 47 :: (b ++ l.drop (a.length + 1 + b.length))
        rw [← hb]
    · rintro b' hb'
      obtain rfl := Option.some.inj hb'
      exact ⟨Bb, n1⟩
  · rw [if_neg (fun x => c x.2)] at h1 h2 ⊢
    have ht := key _ _ h2
    refine ⟨a, none, ?_, A, fun _ x => by cases x⟩
    rw [← ht]
    exact ha
theorem last_dig {q : List UInt8} (h : q.all isDig = true) (t : List UInt8) (c : UInt8) (hc : isDig c = false) (hq : 1 ≤ q.length) : (t ++ q).getLast? ≠ some c := by
  intro x
  have hn : q ≠ [] := fun e => by rw [e] at hq; simp at hq
  rw [List.getLast?_append, List.getLast?_eq_some_getLast hn, Option.some_or] at x
  exact dig_not q c h hc (Option.some.inj x ▸ List.getLast_mem hn)
theorem formR_code {l a : List UInt8} {ob : Option (List UInt8)} {dr : Bool} (F : FormR l a ob dr) : rateA l = ((((valN a : Nat) : Int), denR ob, dr), true) := by
  have tl : Lib.trimSuffix l [100] = a ++ tailR ob ∧ Lib.hasSuffix l [100] = dr := by
    cases dr
    · have e : l = a ++ tailR ob := by rw [F.eq]; simp [lastR]
      have hn : l.getLast? ≠ some 100 := by
        rw [e]
        cases ob with
        | none =>
          have := last_dig F.a1.d [] 100 rfl F.a1.l1
          simpa [tailR] using this
        | some b =>
          have := last_dig (F.b1 b rfl).1.d (a ++ [47]) 100 rfl (F.b1 b rfl).1.l1
          simpa [tailR] using this
      obtain ⟨s1, s2⟩ := suf_not l 100 hn
      exact ⟨s2.trans e, s1⟩
    · have e : l = (a ++ tailR ob) ++ [100] := by rw [F.eq]; simp [lastR]
      rw [e]
      exact ⟨(suf_has _ _).2, (suf_has _ _).1⟩
  unfold rateA
  rw [tl.1, tl.2]
  cases ob with
  | none =>
    have e : Lib.cut (a ++ tailR none) [47] = (a, [], false) := by
      simp only [tailR, List.append_nil]
      exact cutm_gone a 47 (dig_not a 47 F.a1.d rfl)
    rw [e, whl_at F.a1, if_neg (by simp)]
    rfl
  | some b =>
    have e : Lib.cut (a ++ tailR (some b)) [47] = (a, b, true) := cutm_at a b 47 (dig_not a 47 F.a1.d rfl)
    obtain ⟨hb, hb1⟩ := F.b1 b rfl
    rw [e, whl_at F.a1, whl_at hb, if_pos ⟨rfl, rfl⟩]
    have : (((valN b : Nat) : Int) != 1) = true := by rw [bne_iff_ne]; exact hb1
    simp only [this]
    rfl
theorem code_formR {l : List UInt8} (h : (rateA l).2 = true) : ∃ a ob dr, FormR l a ob dr := by
  have hl : l = Lib.trimSuffix l [100] ++ lastR (Lib.hasSuffix l [100]) := by
    cases hs : Lib.hasSuffix l [100]
    · rw [suf_no l 100 hs]
      simp [lastR]
    · conv => lhs; rw [suf_of l 100 hs]
      rfl
  unfold rateA at h
  generalize Lib.trimSuffix l [100] = t at *
  generalize Lib.hasSuffix l [100] = dr at *
  by_cases hc : (Lib.cut t [47]).2.2 = true
  · obtain ⟨e, _⟩ := cutm_hit t 47 hc
    by_cases ha : (whlA (Lib.cut t [47]).1).2 = true
    · rw [if_pos ⟨ha, hc⟩] at h
      simp only [Bool.and_eq_true] at h
      have A := whl_of ha
      have Bb := whl_of h.1
      refine ⟨(Lib.cut t [47]).1, some (Lib.cut t [47]).2.1, dr, ?_, A, ?_⟩
      · rw [← List.append_assoc]
        show l = ((Lib.cut t [47]).1 ++ 47 :: (Lib.cut t [47]).2.1) ++ lastR dr
        rw [← e]
        exact hl
      · rintro b hb
        obtain rfl := Option.some.inj hb
        refine ⟨Bb, ?_⟩
        have := h.2
        rw [whl_at Bb, bne_iff_ne] at this
        exact this
    · rw [if_neg (fun x => ha x.1)] at h
      exact absurd h ha
  · rw [if_neg (fun x => hc x.2)] at h
    have e := cutm_miss t 47 hc
    rw [e] at h
    exact ⟨t, none, dr, by rw [show tailR none ++ lastR dr = lastR dr from rfl]; exact hl, whl_of h, fun _ x => by cases x⟩
/-- Read from the left and by cutting: the same. -/
theorem rate_same (l : List UInt8) : if (denS l (plS l 0 false)).2.2 = false ∧ (dropS l (denS l (plS l 0 false))).2 = l.length then rateA l = (((plS l 0 false).1, (denS l (plS l 0 false)).1, (dropS l (denS l (plS l 0 false))).1), true) else (rateA l).2 = false := by
  by_cases c : (denS l (plS l 0 false)).2.2 = false ∧ (dropS l (denS l (plS l 0 false))).2 = l.length
  · rw [if_pos c]
    obtain ⟨a, ob, F⟩ := left_formR c.1 c.2
    obtain ⟨e1, e2, _, e4⟩ := formR_left F
    rw [formR_code F, e2, e1]
  · rw [if_neg c, Bool.eq_false_iff]
    intro x
    obtain ⟨a, ob, dr, F⟩ := code_formR x
    obtain ⟨_, _, e3, e4⟩ := formR_left F
    exact c ⟨e3, by rw [e4]⟩
/-- What Rate tells. -/
def rateF (l : List UInt8) : (Int × Int × Bool) × Int :=
  if (rateA l).2 = true then (if checkI (rateA l).1.1 (rateA l).1.2.1 (rateA l).1.2.2 = 0 then ((rateA l).1, 0) else ((0, 0, false), 14)) else ((0, 0, false), 13)
theorem rateA_bound (l : List UInt8) : I64 (rateA l).1.1 ∧ I64 (rateA l).1.2.1 := by
  have h1 := whl_bound (Lib.cut (Lib.trimSuffix l [100]) [47]).1
  have h2 := whl_bound (Lib.cut (Lib.trimSuffix l [100]) [47]).2.1
  unfold rateA
  split
  · exact ⟨⟨by simp only; omega, by simp only; omega⟩, ⟨by simp only; omega, by simp only; omega⟩⟩
  · exact ⟨⟨by simp only; omega, by simp only; omega⟩, ⟨by simp, by simp⟩⟩
end Go.Proofs.YtaipdckakgohjaaGreatDoor
