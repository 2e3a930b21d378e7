/- Several texts, one behind the other. -/
import Derived.RangeFuncNested
import Derived.RangeFuncBound
import Derived.RangeFuncCalls
import Derived.RangeFuncLeaves
import Derived.Test.YtaipdckakgohjaaGreatDoorCRefG
import Derived.Test.YtaipdckakgohjaaGreatDoorCdS
import Derived.Test.YtaipdckakgohjaaGreatDoorGB
/- strings.Cut at one byte, and a text's last byte: mathematics. -/
namespace Go.Proofs.YtaipdckakgohjaaGreatDoor
open Go.RowKit Go.Shelf

theorem cutm_miss (t : List UInt8) (c : UInt8) (h : ¬ (Lib.cut t [c]).2.2 = true) : Lib.cut t [c] = (t, [], false) := by
  unfold Lib.cut at h ⊢
  by_cases h0 : 0 ≤ Lib.index t [c]
  · rw [if_pos h0] at h
    exact absurd rfl h
  · rw [if_neg h0]
theorem cutm_hit (t : List UInt8) (c : UInt8) (h : (Lib.cut t [c]).2.2 = true) : t = (Lib.cut t [c]).1 ++ c :: (Lib.cut t [c]).2.1 ∧ c ∉ (Lib.cut t [c]).1 := by
  rcases Lib.index_spec t [c] with ⟨h1, _⟩ | ⟨i, h1, h2, h3, h4⟩
  · unfold Lib.cut at h
    rw [h1] at h
    simp at h
  · unfold Lib.cut
    rw [h1, if_pos (by omega)]
    simp only [Int.toNat_natCast, List.length_cons, List.length_nil, Nat.zero_add]
    have occ : ∀ j, Lib.occAt t [c] j = true ↔ t[j]? = some c := by
      intro j
      unfold Lib.occAt
      rw [← List.head?_drop]
      cases t.drop j with
      | nil => simp
      | cons b m =>
        simp only [List.isPrefixOf_cons_cons, List.isPrefixOf_nil_left, Bool.and_true, beq_iff_eq, List.head?_cons, Option.some.injEq]
        exact eq_comm
    have hi := (occ i).1 h3
    have hil : i < t.length := by
      rcases Nat.lt_or_ge i t.length with h | h
      · exact h
      · rw [List.getElem?_eq_none h] at hi; cases hi
    constructor
    · conv => lhs; rw [← List.take_append_drop i t]
      rw [List.drop_eq_getElem_cons hil]
      rw [List.getElem?_eq_getElem hil] at hi
      rw [Option.some.inj hi]
    · intro hm
      obtain ⟨j, hj, e⟩ := List.mem_iff_getElem.1 hm
      rw [List.length_take] at hj
      rw [List.getElem_take] at e
      have := h4 j (by omega)
      rw [Bool.eq_false_iff] at this
      exact this ((occ j).2 (by rw [List.getElem?_eq_getElem (by omega), e]))
theorem appm_uniq {c : UInt8} : ∀ {a a' b b' : List UInt8}, c ∉ a → c ∉ a' → a ++ c :: b = a' ++ c :: b' → a = a' ∧ b = b'
  | [], [], _, _, _, _, h => by simp at h; exact ⟨rfl, h⟩
  | [], x :: a', _, _, _, h2, h => by simp at h; exact absurd (by rw [h.1]; simp) h2
  | x :: a, [], _, _, h1, _, h => by simp at h; exact absurd (by rw [h.1]; simp) h1
  | x :: a, y :: a', b, b', h1, h2, h => by
    simp only [List.cons_append, List.cons.injEq] at h
    obtain ⟨e1, e2⟩ := appm_uniq (a := a) (a' := a') (fun m => h1 (List.mem_cons_of_mem _ m)) (fun m => h2 (List.mem_cons_of_mem _ m)) h.2
    exact ⟨by rw [h.1, e1], e2⟩
theorem cutm_gone (t : List UInt8) (c : UInt8) (h : c ∉ t) : Lib.cut t [c] = (t, [], false) := by
  apply cutm_miss
  intro hc
  obtain ⟨e, _⟩ := cutm_hit t c hc
  exact h (by rw [e]; simp)
theorem cutm_at (a b : List UInt8) (c : UInt8) (h : c ∉ a) : Lib.cut (a ++ c :: b) [c] = (a, b, true) := by
  by_cases hc : (Lib.cut (a ++ c :: b) [c]).2.2 = true
  · obtain ⟨e, n⟩ := cutm_hit _ c hc
    obtain ⟨e1, e2⟩ := appm_uniq h n e
    exact Prod.ext e1.symm (Prod.ext e2.symm hc)
  · have e := cutm_miss _ c hc
    rcases Lib.index_spec (a ++ c :: b) [c] with ⟨_, h2⟩ | ⟨i, h1, _⟩
    · have := h2 a.length (by simp)
      unfold Lib.occAt at this
      rw [List.drop_left] at this
      simp at this
    · unfold Lib.cut at e
      rw [h1, if_pos (by omega)] at e
      simp at e
theorem suf_has (a : List UInt8) (c : UInt8) : Lib.hasSuffix (a ++ [c]) [c] = true ∧ Lib.trimSuffix (a ++ [c]) [c] = a := by
  have h : Lib.hasSuffix (a ++ [c]) [c] = true := by
    unfold Lib.hasSuffix
    rw [List.isSuffixOf_iff_suffix]
    exact List.suffix_append _ _
  refine ⟨h, ?_⟩
  unfold Lib.trimSuffix
  rw [if_pos h]
  simp
theorem suf_of (l : List UInt8) (c : UInt8) (h : Lib.hasSuffix l [c] = true) : l = Lib.trimSuffix l [c] ++ [c] := by
  have h1 := h
  unfold Lib.hasSuffix at h1
  rw [List.isSuffixOf_iff_suffix] at h1
  obtain ⟨a, rfl⟩ := h1
  rw [(suf_has a c).2]
theorem suf_not (l : List UInt8) (c : UInt8) (h : l.getLast? ≠ some c) : Lib.hasSuffix l [c] = false ∧ Lib.trimSuffix l [c] = l := by
  have h1 : Lib.hasSuffix l [c] = false := by
    rw [Bool.eq_false_iff]
    intro x
    refine h ?_
    rw [suf_of l c x]
    simp
  refine ⟨h1, ?_⟩
  unfold Lib.trimSuffix
  rw [if_neg (by rw [h1]; simp)]
theorem suf_no (l : List UInt8) (c : UInt8) (h : Lib.hasSuffix l [c] = false) : Lib.trimSuffix l [c] = l := by
  unfold Lib.trimSuffix
  rw [if_neg (by rw [h]; simp)]
theorem dig_not (q : List UInt8) (c : UInt8) (h : q.all isDig = true) (hc : isDig c = false) : c ∉ q := fun m => by
  have := List.all_eq_true.1 h c m
  rw [hc] at this
  cases this

/-! ### Whole numbers of one to nine digits -/
structure WhL (q : List UInt8) : Prop where
  d : q.all isDig = true
  l1 : 1 ≤ q.length
  l2 : q.length ≤ 9
  z : 1 < q.length → q.head? ≠ some 48
/-- What code.whole reads. -/
def whlA (q : List UInt8) : Int × Bool := if q = [] ∨ 9 < q.length ∨ (1 < q.length ∧ q.head? = some 48) then (0, false) else digA q
theorem whl_at {q : List UInt8} (h : WhL q) : whlA q = (((valN q : Nat) : Int), true) := by
  unfold whlA digA
  rw [if_neg, if_pos h.d]
  rintro (x | x | ⟨x, y⟩)
  · have := h.l1
    rw [x] at this
    simp at this
  · have := h.l2
    omega
  · exact h.z x y
theorem whl_of {q : List UInt8} (h : (whlA q).2 = true) : WhL q := by
  unfold whlA at h
  by_cases c : q = [] ∨ 9 < q.length ∨ (1 < q.length ∧ q.head? = some 48)
  · rw [if_pos c] at h
    cases h
  · rw [if_neg c] at h
    obtain ⟨d, _⟩ := dig_of_true q h
    refine ⟨d, ?_, ?_, ?_⟩
    · rcases Nat.eq_zero_or_pos q.length with x | x
      · exact absurd (.inl (List.length_eq_zero_iff.1 x)) c
      · exact x
    · exact Nat.le_of_not_lt fun x => c (.inr (.inl x))
    · exact fun x y => c (.inr (.inr ⟨x, y⟩))
theorem whl_bound (q : List UInt8) : 0 ≤ (whlA q).1 ∧ (whlA q).1 < 1000000000 := by
  by_cases h : (whlA q).2 = true
  · have W := whl_of h
    rw [whl_at W]
    have hv := valN_lt q W.d q.length (Nat.le_refl _)
    rw [List.take_length] at hv
    have : (10 : Nat) ^ q.length ≤ 10 ^ 9 := Nat.pow_le_pow_right (by omega) W.l2
    simp only
    omega
  · unfold whlA at h ⊢
    split
    · exact ⟨Int.le_refl _, by decide⟩
    · rename_i c
      rw [if_neg c] at h
      unfold digA at h ⊢
      split
      · rename_i c2
        rw [if_pos c2] at h
        exact absurd rfl h
      · exact ⟨Int.le_refl _, by decide⟩
theorem runC_tail (q t : List UInt8) (h : q.all isDig = true) (ht : t = [] ∨ ∃ c u, t = c :: u ∧ isDig c = false) : runC (q ++ t) = q.length := by
  rcases ht with rfl | ⟨c, u, rfl, hc⟩
  · have := runC_all q [] h
    have := runC_le (q ++ [])
    simp at this
    simp only [List.append_nil] at *
    omega
  · exact runC_stop q u c h hc
/-- A whole number, read from the left. -/
def plS (l : List UInt8) (k : Nat) (b : Bool) : Int × Nat × Bool :=
  if runC (l.drop k) < 1 ∨ 9 < runC (l.drop k) ∨ (1 < runC (l.drop k) ∧ l[k]? = some 48) then (0, k, true) else ((valN ((l.drop k).take (runC (l.drop k))) : Nat), k + runC (l.drop k), b)
theorem pl_at (l q t : List UInt8) (k : Nat) (b : Bool) (hd : l.drop k = q ++ t) (hq : WhL q) (ht : t = [] ∨ ∃ c u, t = c :: u ∧ isDig c = false) : plS l k b = (((valN q : Nat) : Int), k + q.length, b) ∧ l.drop (k + q.length) = t := by
  have r := runC_tail q t hq.d ht
  have h1 := hq.l1
  have h2 := hq.l2
  unfold plS
  rw [hd, r, if_neg, List.take_left' rfl]
  · refine ⟨rfl, ?_⟩
    rw [← List.drop_drop, hd, List.drop_left]
  · rintro (x | x | ⟨x, y⟩)
    · omega
    · omega
    · refine hq.z x ?_
      rw [← List.head?_drop, hd] at y
      cases q with
      | nil => simp at h1
      | cons c q => exact y
theorem pl_of (l : List UInt8) (k : Nat) (b : Bool) (h : (plS l k b).2.2 = false) : b = false ∧ ∃ q, WhL q ∧ l.drop k = q ++ l.drop (k + q.length) ∧ plS l k b = (((valN q : Nat) : Int), k + q.length, false) := by
  unfold plS at h ⊢
  by_cases c : runC (l.drop k) < 1 ∨ 9 < runC (l.drop k) ∨ (1 < runC (l.drop k) ∧ l[k]? = some 48)
  · rw [if_pos c] at h
    cases h
  · rw [if_neg c] at h ⊢
    simp only at h
    subst h
    obtain ⟨d1, d2⟩ := runC_dig (l.drop k) _ (Nat.le_refl _)
    generalize hr : runC (l.drop k) = r at *
    refine ⟨rfl, (l.drop k).take r, ⟨d1, by rw [d2]; omega, by rw [d2]; omega, ?_⟩, ?_, ?_⟩
    · rw [d2]
      intro x y
      refine c (.inr (.inr ⟨x, ?_⟩))
      rw [← List.head?_drop]
      cases hl : l.drop k with
      | nil => rw [hl] at y; simp at y
      | cons a m =>
        rw [hl] at y
        obtain ⟨r, rfl⟩ : ∃ s, r = s + 1 := ⟨r - 1, by omega⟩
        exact y
    · rw [d2, ← List.drop_drop, List.take_append_drop]
    · rw [d2]
theorem pl_le (l : List UInt8) (k : Nat) (b : Bool) (h : k ≤ l.length) : (plS l k b).2.1 ≤ l.length := by
  have := runC_le (l.drop k)
  rw [List.length_drop] at this
  unfold plS
  split <;> simp only <;> omega

/-! ### Rates -/
/-- What code.readRate reads. -/
def rateA (l : List UInt8) : (Int × Int × Bool) × Bool :=
  if (whlA (Lib.cut (Lib.trimSuffix l [100]) [47]).1).2 = true ∧ (Lib.cut (Lib.trimSuffix l [100]) [47]).2.2 = true then
    (((whlA (Lib.cut (Lib.trimSuffix l [100]) [47]).1).1, (whlA (Lib.cut (Lib.trimSuffix l [100]) [47]).2.1).1, Lib.hasSuffix l [100]), (whlA (Lib.cut (Lib.trimSuffix l [100]) [47]).2.1).2 && ((whlA (Lib.cut (Lib.trimSuffix l [100]) [47]).2.1).1 != 1))
  else (((whlA (Lib.cut (Lib.trimSuffix l [100]) [47]).1).1, 1, Lib.hasSuffix l [100]), (whlA (Lib.cut (Lib.trimSuffix l [100]) [47]).1).2)
/-- From the left: the second number, where the reader stands, whether it is bad; then the mark of Drop. -/
def denS (l : List UInt8) (c : Int × Nat × Bool) : Int × Nat × Bool :=
  if c.2.2 = false ∧ l[c.2.1]? = some 47 then ((plS l (c.2.1 + 1) false).1, (plS l (c.2.1 + 1) false).2.1, (plS l (c.2.1 + 1) false).2.2 || ((plS l (c.2.1 + 1) false).1 == 1)) else (1, c.2.1, c.2.2)
def dropS (l : List UInt8) (c : Int × Nat × Bool) : Bool × Nat := if c.2.2 = false ∧ l[c.2.1]? = some 100 then (true, c.2.1 + 1) else (false, c.2.1)
def tailR : Option (List UInt8) → List UInt8
  | none => []
  | some b => 47 :: b
def denR : Option (List UInt8) → Int
  | none => 1
  | some b => ((valN b : Nat) : Int)
def lastR (dr : Bool) : List UInt8 := if dr = true then [100] else []
structure FormR (l a : List UInt8) (ob : Option (List UInt8)) (dr : Bool) : Prop where
  eq : l = a ++ (tailR ob ++ lastR dr)
  a1 : WhL a
  b1 : ∀ b, ob = some b → WhL b ∧ ((valN b : Nat) : Int) ≠ 1
theorem last_stop (dr : Bool) : lastR dr = [] ∨ ∃ c u, lastR dr = c :: u ∧ isDig c = false := by
  cases dr
  · exact .inl rfl
  · exact .inr ⟨100, [], rfl, rfl⟩
theorem get_drop (l : List UInt8) (k : Nat) : l[k]? = (l.drop k).head? := by rw [List.head?_drop]
theorem formR_left {l a : List UInt8} {ob : Option (List UInt8)} {dr : Bool} (F : FormR l a ob dr) :
    plS l 0 false = (((valN a : Nat) : Int), a.length, false) ∧ (denS l (plS l 0 false)).1 = denR ob ∧ (denS l (plS l 0 false)).2.2 = false ∧ dropS l (denS l (plS l 0 false)) = (dr, l.length) := by
  have fe := F.eq
  cases ob with
  | none =>
    have st := last_stop dr
    obtain ⟨e1, n1⟩ := pl_at l a (lastR dr) 0 false (by rw [List.drop_zero]; exact fe) F.a1 st
    rw [Nat.zero_add] at e1 n1
    have e2 : denS l (plS l 0 false) = (1, a.length, false) := by
      unfold denS
      rw [e1, if_neg]
      rintro ⟨_, y⟩
      simp only at y
      rw [get_drop, n1] at y
      cases dr <;> simp [lastR] at y
    refine ⟨e1, by rw [e2]; rfl, by rw [e2], ?_⟩
    rw [e2]
    unfold dropS
    simp only
    rw [get_drop, n1]
    have hl := congrArg List.length fe
    cases dr
    · simp [lastR, tailR] at hl ⊢
      omega
    · simp [lastR, tailR] at hl ⊢
      omega
  | some b =>
    obtain ⟨hb, hb1⟩ := F.b1 b rfl
    have st := last_stop dr
    obtain ⟨e1, n1⟩ := pl_at l a (47 :: (b ++ lastR dr)) 0 false (by rw [List.drop_zero]; exact fe) F.a1 (.inr ⟨47, _, rfl, rfl⟩)
    rw [Nat.zero_add] at e1 n1
    obtain ⟨e3, n3⟩ := pl_at l b (lastR dr) (a.length + 1) false (by rw [← List.drop_drop, n1]; rfl) hb st
    have e2 : denS l (plS l 0 false) = (((valN b : Nat) : Int), a.length + 1 + b.length, false) := by
      unfold denS
      rw [e1, if_pos ⟨rfl, by simp only; rw [get_drop, n1]; rfl⟩, e3]
      have : (((valN b : Nat) : Int) == 1) = false := by rw [beq_eq_false_iff_ne]; exact hb1
      simp only [this]
      rfl
    refine ⟨e1, by rw [e2]; rfl, by rw [e2], ?_⟩
    rw [e2]
    unfold dropS
    simp only
    rw [get_drop, n3]
    have hl := congrArg List.length fe
    cases dr
    · simp [lastR, tailR] at hl ⊢
      omega
    · simp [lastR, tailR] at hl ⊢
      omega
theorem left_formR {l : List UInt8} (h1 : (denS l (plS l 0 false)).2.2 = false) (h2 : (dropS l (denS l (plS l 0 false))).2 = l.length) : ∃ a ob, FormR l a ob (dropS l (denS l (plS l 0 false))).1 := by
  have key : ∀ (k : Nat) (d : Int), (dropS l (d, k, false)).2 = l.length → l.drop k = lastR (dropS l (d, k, false)).1 := by
    intro k d hk
    unfold dropS at hk ⊢
    simp only at hk ⊢
    rw [get_drop] at hk ⊢
    by_cases c : (l.drop k).head? = some 100
    · rw [if_pos ⟨by trivial, c⟩] at hk ⊢
      simp only at hk
      have hz : (l.drop k).length = 1 := by rw [List.length_drop]; omega
      obtain ⟨x, hx⟩ := List.length_eq_one_iff.1 hz
      rw [hx] at c ⊢
      simp at c
      rw [c]
      rfl
    · rw [if_neg (fun x => c x.2)] at hk ⊢
      simp only at hk
      rw [hk, List.drop_length]
      rfl
  have p1 : (plS l 0 false).2.2 = false := by
    unfold denS at h1
    by_cases c : (plS l 0 false).2.2 = false ∧ l[(plS l 0 false).2.1]? = some 47
    · exact c.1
    · rw [if_neg c] at h1
      exact h1
  obtain ⟨_, a, A, ha, e1⟩ := pl_of l 0 false p1
  rw [List.drop_zero, Nat.zero_add] at ha
  rw [Nat.zero_add] at e1
  rw [e1] at h1 h2 ⊢
  unfold denS at h1 h2 ⊢
  simp only at h1 h2 ⊢
  by_cases c : l[a.length]? = some 47
  · rw [if_pos ⟨by trivial, c⟩] at h1 h2 ⊢
    simp only [Bool.or_eq_false_iff] at h1
    obtain ⟨_, b, Bb, hb, e2⟩ := pl_of l (a.length + 1) false h1.1
    rw [e2] at h1 h2 ⊢
    simp only at h1 h2 ⊢
    have n1 := beq_eq_false_iff_ne.1 h1.2
    rw [h1.2] at h2 ⊢
    simp only [Bool.or_false] at h2 ⊢
    have ht := key _ _ h2
    refine ⟨a, some b, ?_, A, ?_⟩
    · rw [← ht]
      conv => lhs; rw [ha]
      congr 1
      rw [get_drop] at c
      cases hd : l.drop a.length with
      | nil => rw [hd] at c; simp at c
      | cons x m =>
        rw [hd] at c
        simp at c
        subst c
        have hm : l.drop (a.length + 1) = m := by rw [← List.drop_drop, hd]; rfl
        rw [hm] at hb
        show (47 : UInt8) :: m = 47 :: (b ++ l.drop (a.length + 1 + b.length))
        rw [← hb]
    · rintro b' hb'
      obtain rfl := Option.some.inj hb'
      exact ⟨Bb, n1⟩
  · rw [if_neg (fun x => c x.2)] at h1 h2 ⊢
    have ht := key _ _ h2
    refine ⟨a, none, ?_, A, fun _ x => by cases x⟩
    rw [← ht]
    exact ha
theorem last_dig {q : List UInt8} (h : q.all isDig = true) (t : List UInt8) (c : UInt8) (hc : isDig c = false) (hq : 1 ≤ q.length) : (t ++ q).getLast? ≠ some c := by
  intro x
  have hn : q ≠ [] := fun e => by rw [e] at hq; simp at hq
  rw [List.getLast?_append, List.getLast?_eq_some_getLast hn, Option.some_or] at x
  exact dig_not q c h hc (Option.some.inj x ▸ List.getLast_mem hn)
theorem formR_code {l a : List UInt8} {ob : Option (List UInt8)} {dr : Bool} (F : FormR l a ob dr) : rateA l = ((((valN a : Nat) : Int), denR ob, dr), true) := by
  have tl : Lib.trimSuffix l [100] = a ++ tailR ob ∧ Lib.hasSuffix l [100] = dr := by
    cases dr
    · have e : l = a ++ tailR ob := by rw [F.eq]; simp [lastR]
      have hn : l.getLast? ≠ some 100 := by
        rw [e]
        cases ob with
        | none =>
          have := last_dig F.a1.d [] 100 rfl F.a1.l1
          simpa [tailR] using this
        | some b =>
          have := last_dig (F.b1 b rfl).1.d (a ++ [47]) 100 rfl (F.b1 b rfl).1.l1
          simpa [tailR] using this
      obtain ⟨s1, s2⟩ := suf_not l 100 hn
      exact ⟨s2.trans e, s1⟩
    · have e : l = (a ++ tailR ob) ++ [100] := by rw [F.eq]; simp [lastR]
      rw [e]
      exact ⟨(suf_has _ _).2, (suf_has _ _).1⟩
  unfold rateA
  rw [tl.1, tl.2]
  cases ob with
  | none =>
    have e : Lib.cut (a ++ tailR none) [47] = (a, [], false) := by
      simp only [tailR, List.append_nil]
      exact cutm_gone a 47 (dig_not a 47 F.a1.d rfl)
    rw [e, whl_at F.a1, if_neg (by simp)]
    rfl
  | some b =>
    have e : Lib.cut (a ++ tailR (some b)) [47] = (a, b, true) := cutm_at a b 47 (dig_not a 47 F.a1.d rfl)
    obtain ⟨hb, hb1⟩ := F.b1 b rfl
    rw [e, whl_at F.a1, whl_at hb, if_pos ⟨rfl, rfl⟩]
    have : (((valN b : Nat) : Int) != 1) = true := by rw [bne_iff_ne]; exact hb1
    simp only [this]
    rfl
theorem code_formR {l : List UInt8} (h : (rateA l).2 = true) : ∃ a ob dr, FormR l a ob dr := by
  have hl : l = Lib.trimSuffix l [100] ++ lastR (Lib.hasSuffix l [100]) := by
    cases hs : Lib.hasSuffix l [100]
    · rw [suf_no l 100 hs]
      simp [lastR]
    · conv => lhs; rw [suf_of l 100 hs]
      rfl
  unfold rateA at h
  generalize Lib.trimSuffix l [100] = t at *
  generalize Lib.hasSuffix l [100] = dr at *
  by_cases hc : (Lib.cut t [47]).2.2 = true
  · obtain ⟨e, _⟩ := cutm_hit t 47 hc
    by_cases ha : (whlA (Lib.cut t [47]).1).2 = true
    · rw [if_pos ⟨ha, hc⟩] at h
      simp only [Bool.and_eq_true] at h
      have A := whl_of ha
      have Bb := whl_of h.1
      refine ⟨(Lib.cut t [47]).1, some (Lib.cut t [47]).2.1, dr, ?_, A, ?_⟩
      · rw [← List.append_assoc]
        show l = ((Lib.cut t [47]).1 ++ 47 :: (Lib.cut t [47]).2.1) ++ lastR dr
        rw [← e]
        exact hl
      · rintro b hb
        obtain rfl := Option.some.inj hb
        refine ⟨Bb, ?_⟩
        have := h.2
        rw [whl_at Bb, bne_iff_ne] at this
        exact this
    · rw [if_neg (fun x => ha x.1)] at h
      exact absurd h ha
  · rw [if_neg (fun x => hc x.2)] at h
    have e := cutm_miss t 47 hc
    rw [e] at h
    exact ⟨t, none, dr, by rw [show tailR none ++ lastR dr = lastR dr from rfl]; exact hl, whl_of h, fun _ x => by cases x⟩
/-- Read from the left and by cutting: the same. -/
theorem rate_same (l : List UInt8) : if (denS l (plS l 0 false)).2.2 = false ∧ (dropS l (denS l (plS l 0 false))).2 = l.length then rateA l = (((plS l 0 false).1, (denS l (plS l 0 false)).1, (dropS l (denS l (plS l 0 false))).1), true) else (rateA l).2 = false := by
  by_cases c : (denS l (plS l 0 false)).2.2 = false ∧ (dropS l (denS l (plS l 0 false))).2 = l.length
  · rw [if_pos c]
    obtain ⟨a, ob, F⟩ := left_formR c.1 c.2
    obtain ⟨e1, e2, _, e4⟩ := formR_left F
    rw [formR_code F, e2, e1]
  · rw [if_neg c, Bool.eq_false_iff]
    intro x
    obtain ⟨a, ob, dr, F⟩ := code_formR x
    obtain ⟨_, _, e3, e4⟩ := formR_left F
    exact c ⟨e3, by rw [e4]⟩
/-- What Rate tells. -/
def rateF (l : List UInt8) : (Int × Int × Bool) × Int :=
  if (rateA l).2 = true then (if checkI (rateA l).1.1 (rateA l).1.2.1 (rateA l).1.2.2 = 0 then ((rateA l).1, 0) else ((0, 0, false), 14)) else ((0, 0, false), 13)
theorem rateA_bound (l : List UInt8) : I64 (rateA l).1.1 ∧ I64 (rateA l).1.2.1 := by
  have h1 := whl_bound (Lib.cut (Lib.trimSuffix l [100]) [47]).1
  have h2 := whl_bound (Lib.cut (Lib.trimSuffix l [100]) [47]).2.1
  unfold rateA
  split
  · exact ⟨⟨by simp only; omega, by simp only; omega⟩, ⟨by simp only; omega, by simp only; omega⟩⟩
  · exact ⟨⟨by simp only; omega, by simp only; omega⟩, ⟨by simp, by simp⟩⟩
end Go.Proofs.YtaipdckakgohjaaGreatDoor

/- A law of range-over-func loops whose sequence keeps state of its own in new memory and tells a known list, and whose rounds write boxes of the caller's own. -/
namespace Go.Proofs.YtaipdckakgohjaaGreatDoor
open Go.RowKit

/-- Everything but the blocks of M stands. -/
structure But (M : Nat → Prop) (A B : World) : Prop where
  os : B.os = A.os
  tape : B.tape = A.tape
  output : B.output = A.output
  size : A.heap.size ≤ B.heap.size
  same : ∀ k, k < A.heap.size → ¬ M k → B.heap[k]? = A.heap[k]?
theorem But.refl (M : Nat → Prop) (A : World) : But M A A := ⟨rfl, rfl, rfl, Nat.le_refl _, fun _ _ _ => rfl⟩
theorem But.trans {M : Nat → Prop} {A B C : World} (h : But M A B) (k : But M B C) : But M A C :=
  ⟨k.os.trans h.os, k.tape.trans h.tape, k.output.trans h.output, Nat.le_trans h.size k.size, fun i hi hm => (k.same i (Nat.lt_of_lt_of_le hi h.size) hm).trans (h.same i hi hm)⟩
theorem But.mono {M N : Nat → Prop} {A B : World} (h : But M A B) (hm : ∀ k, k < A.heap.size → M k → N k) : But N A B := ⟨h.os, h.tape, h.output, h.size, fun k hk hn => h.same k hk (fun e => hn (hm k hk e))⟩
theorem But.of_below {M : Nat → Prop} {m : Nat} {A B : World} (h : Below m A B) (hm : ∀ k, k < A.heap.size → m ≤ k → M k) : But M A B :=
  ⟨h.os, h.tape, h.output, h.size, fun k hk hn => h.block k (Nat.lt_of_not_le fun e => hn (hm k hk e))⟩
theorem But.below {M : Nat → Prop} {m : Nat} {A B : World} (h : But M A B) (hz : m ≤ A.heap.size) (hm : ∀ k, M k → m ≤ k) : Below m A B :=
  ⟨h.os, h.tape, h.output, h.size, fun k hk => h.same k (by omega) (fun e => by have := hm k e; omega)⟩
theorem But.grown {M : Nat → Prop} {A B : World} (h : Below A.heap.size A B) : But M A B := ⟨h.os, h.tape, h.output, h.size, fun k hk _ => h.block k hk⟩
theorem But.set {M : Nat → Prop} (A : World) (p : Addr) (v : Value) (hp : M p.block) : But M A (A.setCell p v) :=
  ⟨rfl, rfl, rfl, by show _ ≤ (A.heap.modify _ _).size; rw [Array.size_modify]; exact Nat.le_refl _, fun k _ hk => Below.heap_setCell A _ _ k (fun e => hk (e ▸ hp))⟩
theorem But.setCell {M : Nat → Prop} {A W : World} (h : But M A W) {p : Addr} (hp : M p.block) (v : Value) : But M A (W.setCell p v) := h.trans (But.set W p v hp)
theorem But.alloc {M : Nat → Prop} {A W : World} (h : But M A W) (o : Obj) : But M A (W.alloc o) := h.trans (But.grown ((Below.refl W.heap.size W).alloc (Nat.le_refl _) o))
theorem But.below_trans {M : Nat → Prop} {A W V : World} (h : But M A W) (k : Below W.heap.size W V) : But M A V := h.trans (But.grown k)
theorem putObj_belowL (W : World) (l : Nat) (o : Obj) : Below l W (W.putObj l o) := ⟨rfl, rfl, rfl, by simp, fun _ hk => World.putObj_heap_other (by omega)⟩
theorem But.put {M : Nat → Prop} (A : World) (l : Nat) (o : Obj) (hl : M l) : But M A (A.putObj l o) :=
  ⟨rfl, rfl, rfl, by simp, fun _ _ hk => World.putObj_heap_other (fun e => hk (e ▸ hl))⟩
/-- Everything but what lies from m up to b stands. -/
structure Keeps (m b : Nat) (A B : World) : Prop where
  os : B.os = A.os
  tape : B.tape = A.tape
  output : B.output = A.output
  size : A.heap.size ≤ B.heap.size
  same : ∀ k, k < A.heap.size → (k < m ∨ b ≤ k) → B.heap[k]? = A.heap[k]?
theorem Keeps.of_below {m b : Nat} {A B : World} (h : Below A.heap.size A B) : Keeps m b A B := ⟨h.os, h.tape, h.output, h.size, fun k hk _ => h.block k hk⟩
theorem Keeps.of_but {m b : Nat} {M : Nat → Prop} {A B : World} (h : But M A B) (hM : ∀ k, M k → m ≤ k ∧ k < b) : Keeps m b A B :=
  ⟨h.os, h.tape, h.output, h.size, fun k hk ho => h.same k hk (fun e => by have := hM k e; omega)⟩
theorem Keeps.put {m b : Nat} (A : World) (l : Nat) (o : Obj) (h1 : m ≤ l) (h2 : l < b) : Keeps m b A (A.putObj l o) := Keeps.of_but (But.put (M := fun k => k = l) A l o rfl) (fun k e => by omega)
theorem Keeps.mono {m b m' b' : Nat} {A B : World} (h : Keeps m b A B) (h1 : m' ≤ m) (h2 : b ≤ b') : Keeps m' b' A B := ⟨h.os, h.tape, h.output, h.size, fun k hk ho => h.same k hk (by omega)⟩
/-- What holds of the memory outside of m up to b. -/
def CalmL (m b : Nat) {α : Type} (J : List α → World → Prop) : Prop := ∀ pre A B, J pre A → Keeps m b A B → J pre B

/-- A sequence that tells the list L, keeps state of its own in the first d blocks that it makes, and leans on no block that is Free. -/
def SeqL {α : Type} (n d : Nat) (P : Program) (g : Nat) (lb : Array Value) (encs : α → Array Value) (L : List α) (Free : Nat → Prop) (w : World) : Prop :=
  ∀ (M : Nat → Prop) (l : Nat) (J Jx : List α → World → Prop) (W : World), (∀ k, M k → k < w.heap.size ∧ Free k) → Below w.heap.size w W → w.heap.size < l → l < W.heap.size → CalmL W.heap.size (W.heap.size + d) J →
    (∀ pre x W1, J pre W1 → W.heap.size + d ≤ W1.heap.size → pre ++ [x] <+: L → YieldAt Fence.wide (n - 1) P l (encs x) W1 fun e W' =>
      (e = .returned (.bool true) ∧ J (pre ++ [x]) W' ∧ But (fun k => M k ∨ k = l ∨ W.heap.size + d ≤ k) W1 W') ∨ (e = .returned (.bool false) ∧ Jx (pre ++ [x]) W')) →
    J [] W →
    CallsIn Fence.wide n P g (#[.func (.yield l) #[] #[]] ++ lb) W fun e W' => (∃ v, e = .returned v) ∧ (J L W' ∨ ∃ pre, pre <+: L ∧ Jx pre W')

/-- How a round may end: it turns none but the caller's boxes, and what was made in rounds. -/
def boxPost {α : Type} (hi : Nat) (M : Nat → Prop) (I : List α → World → Prop) (Ix : Code → List α → World → Prop) (xs : List α) (W : World) : Exit → Act → World → Prop
  | .normal, _, W' => But (fun k => M k ∨ hi ≤ k) W W' ∧ I xs W'
  | .ret, _, W' => But (fun k => M k ∨ hi ≤ k) W W' ∧ Ix .ret xs W'
  | .exit id, _, W' => But (fun k => M k ∨ hi ≤ k) W W' ∧ Ix (.exit id) xs W'
  | _, _, _ => False

theorem rangeFunc_box {P : Program} {α : Type} {g : Operand} {ps : Array Tmp} {assign body : Code} {Q : Exit → Act → World → Prop} {a : Act} {w : World} {n : Nat} (h1 : 1 ≤ n)
    {gf : Nat} {lb : Array Value} (hg : a.eval g = .func (.func gf) #[] lb) (eg : ∀ args w, (callFunc gf args).run P w = .ok (.enter gf args) w)
    {encs : α → Array Value} {L : List α} {Free : Nat → Prop} {d : Nat} (hseq : SeqL (n - 1) d P gf lb encs L Free w) (hps : ∀ x, (encs x).size = ps.size)
    (M : Nat → Prop) (hM : ∀ k, M k → k < w.heap.size ∧ Free k)
    (I : List α → World → Prop) (Ix : Code → List α → World → Prop) (hI : CalmL w.heap.size (w.heap.size + 2 + d) I) (hIx : ∀ c, CalmL w.heap.size (w.heap.size + 2 + d) (Ix c)) (h0 : I [] w)
    (hround : ∀ (l : Nat) (pre : List α) (x : α) (W : World) (K : Act → World → Prop), w.heap.size < l → l < W.heap.size → w.heap.size + 2 + d ≤ W.heap.size → l < w.heap.size + 2 + d → But M w W → I pre W → pre ++ [x] <+: L →
      (∀ a' Wa, Below W.heap.size W Wa → (∀ W2, But (fun k => k = l) Wa W2 → W2.heap.size = Wa.heap.size → But M w W2 → I pre W2 → body.wpIn (Fence.wide.inRound l) (n - 1 - 1) P (boxPost (w.heap.size + 2 + d) M I Ix (pre ++ [x]) W2) a' W2) → K a' Wa) →
      assign.wpIn (Fence.wide.inRound l) (n - 1 - 1) P (Exit.then K (fun _ _ _ => False)) { tmps := (ps.zip (encs x)).foldl (fun t (p, v) => t.setIfInBounds p v) a.tmps, defers := [] } W)
    (hdone : ∀ (D : Nat) (W : World), w.heap.size ≤ D → I L W → But M w W → W.heap[D]? = some (.deferred (some [])) → Q .normal { a with defers := { target := .collected D, args := #[] } :: a.defers } W)
    (hstop : ∀ (D : Nat) (c : Code) (pre : List α) (W : World), w.heap.size ≤ D → pre <+: L → Ix c pre W → But M w W → W.heap[D]? = some (.deferred (some [])) → c.wpIn Fence.wide n P Q { a with defers := { target := .collected D, args := #[] } :: a.defers } W) :
    (Code.rangeFunc g ps assign body).wpIn Fence.wide n P Q a w := by
  refine wpIn_rangeFunc ?_
  intro fn hfn
  obtain ⟨rec, hrec⟩ : ∃ rec : LoopState → Option Code → Loop, rec = fun st pe => { state := st, pending := pe, fn, tmps := a.tmps, params := ps, assign, body, defers := w.heap.size } := ⟨_, rfl⟩
  generalize hV : (w.alloc (.deferred (some []))).alloc (.loop (rec .ready none)) = V
  have hVz : V.heap.size = w.heap.size + 2 := by rw [← hV]; simp
  have hVb : Below w.heap.size w V := by rw [← hV]; exact ((Below.refl _ w).alloc (Nat.le_refl _) _).alloc (by simp) _
  have hVl : V.heap[w.heap.size + 1]? = some (.loop (rec .ready none)) := by
    rw [← hV]; have := World.alloc_heap_new (w.alloc (.deferred (some []))) (.loop (rec .ready none)); rwa [World.size_alloc] at this
  have hVd : V.heap[w.heap.size]? = some (.deferred (some [])) := by
    rw [← hV]; exact (Below.heap_alloc _ _ _ (by simp)).trans (World.alloc_heap_new w _)
  have hML : ∀ k, M k → k < w.heap.size := fun k h => (hM k h).1
  refine ⟨w.heap.size + 1, [{ target := .collected w.heap.size, args := #[] }], V, { target := .fn (.func gf) lb, args := #[.func (.yield (w.heap.size + 1)) #[] #[]] }, V, gf,
    #[.func (.yield (w.heap.size + 1)) #[] #[]] ++ lb, V, ?_, ?_, fun _ _ => trivial, ?_, fun _ => h1, ?_⟩
  · rw [← hV, hrec]; exact run_enterLoop_outer _ _ _ _ _
  · simp only [resolve, hg]
    simp [go_sem]
  · simp [invoke, go_sem, eg]
  have bK : ∀ {A B : World}, But M w A → Keeps V.heap.size (V.heap.size + d) A B → But M w B := fun h k =>
    ⟨k.os.trans h.os, k.tape.trans h.tape, k.output.trans h.output, Nat.le_trans h.size k.size, fun i hi hm => (k.same i (Nat.lt_of_lt_of_le hi h.size) (by omega)).trans (h.same i hi hm)⟩
  have bP : ∀ {A : World} (o : Obj), But M w A → But M w (A.putObj (w.heap.size + 1) o) := fun o h3 =>
    ⟨h3.os, h3.tape, h3.output, by have := h3.size; simp; omega, fun k hk hm => (World.putObj_heap_other (by omega)).trans (h3.same k hk hm)⟩
  have iP : ∀ {pre : List α} {A : World} (o : Obj), I pre A → I pre (A.putObj (w.heap.size + 1) o) := fun o h => hI _ _ _ h (Keeps.put _ _ _ (by omega) (by omega))
  have xP : ∀ {c : Code} {pre : List α} {A : World} (o : Obj), Ix c pre A → Ix c pre (A.putObj (w.heap.size + 1) o) := fun o h => hIx _ _ _ _ h (Keeps.put _ _ _ (by omega) (by omega))
  refine (hseq M (w.heap.size + 1)
    (fun pre W => (But M w W ∧ I pre W) ∧ W.heap[w.heap.size + 1]? = some (.loop (rec .ready none)) ∧ W.heap[w.heap.size]? = some (.deferred (some [])))
    (fun pre W => ∃ c, (But M w W ∧ Ix c pre W) ∧ W.heap[w.heap.size + 1]? = some (.loop (rec .done (some c))) ∧ W.heap[w.heap.size]? = some (.deferred (some [])))
    V hM hVb (by omega) (by omega)
    (fun pre A B hs hb => ⟨⟨bK hs.1.1 hb, hI _ _ _ hs.1.2 (hb.mono (by omega) (by omega))⟩, (hb.same _ (Array.getElem?_eq_some_iff.1 hs.2.1).1 (by omega)).trans hs.2.1, (hb.same _ (Array.getElem?_eq_some_iff.1 hs.2.2).1 (by omega)).trans hs.2.2⟩)
    ?_ ⟨⟨But.grown hVb, hI _ _ _ h0 (Keeps.of_below hVb)⟩, hVl, hVd⟩).mono ?_
  · rintro pre x W ⟨⟨hB, hip⟩, hl, hd⟩ hWd hpx
    have hlt : w.heap.size + 1 < W.heap.size := (Array.getElem?_eq_some_iff.1 hl).1
    have hy := run_yield (P := P) (args := encs x) hl (by rw [hrec]; exact hps x)
    rw [hrec] at hy
    refine ⟨fn, _, assign, body, hy, roundIn_of_wpIn hfn (hround _ pre x W _ (by omega) hlt (by omega) (by omega) hB hip hpx ?_)⟩
    clear hy
    intro a' Wa hWa hbody
    have hla := (hWa.block _ hlt).trans hl
    have hda := (hWa.block w.heap.size (by omega)).trans hd
    have hlta : w.heap.size + 1 < Wa.heap.size := (Array.getElem?_eq_some_iff.1 hla).1
    refine ⟨_, run_beginRound hla (by rw [hrec]), ?_⟩
    generalize hU : Wa.putObj (w.heap.size + 1) (.loop { rec .ready none with state := .busy }) = U
    have hUl : U.heap[w.heap.size + 1]? = some (.loop { rec .ready none with state := .busy }) := by rw [← hU]; exact World.putObj_heap_same hlta
    have hUo : ∀ k, k ≠ w.heap.size + 1 → U.heap[k]? = Wa.heap[k]? := fun k hk => by rw [← hU]; exact World.putObj_heap_other hk
    have hUz : U.heap.size = Wa.heap.size := by rw [← hU]; simp
    have hUf : U.os = Wa.os ∧ U.tape = Wa.tape ∧ U.output = Wa.output := by rw [← hU]; exact ⟨rfl, rfl, rfl⟩
    have hBU : But M w U := by rw [← hU]; exact bP _ (hB.trans (But.grown hWa))
    have hIU : I pre U := by rw [← hU]; exact iP _ (hI _ _ _ hip (Keeps.of_below hWa))
    have hWz := hWa.size
    refine wpIn_mono (hbody U (by rw [← hU]; exact But.put _ _ _ rfl) hUz hBU hIU) ?_
    rintro e a3 X hp
    have shut : ∀ jump : Option Code, But (fun k => M k ∨ w.heap.size + 2 + d ≤ k) U X →
        (Instr.endRound (w.heap.size + 1) jump).run P X = .ok (.bool jump.isNone) (X.putObj (w.heap.size + 1) (.loop (rec (if jump.isNone then .ready else .done) jump))) ∧
        (X.putObj (w.heap.size + 1) (.loop (rec (if jump.isNone then .ready else .done) jump))).heap[w.heap.size + 1]? = some (.loop (rec (if jump.isNone then .ready else .done) jump)) ∧
        (X.putObj (w.heap.size + 1) (.loop (rec (if jump.isNone then .ready else .done) jump))).heap[w.heap.size]? = some (.deferred (some [])) := fun jump hf => by
      have hXl := (hf.same (w.heap.size + 1) (by omega) (by rintro (e | e); · have := hML _ e; omega
                                                            · omega)).trans hUl
      have hXd : X.heap[w.heap.size]? = some (.deferred (some [])) := (hf.same w.heap.size (by omega) (by rintro (e | e); · have := hML _ e; omega
                                                                                                          · omega)).trans ((hUo _ (by omega)).trans hda)
      have := run_endRound (P := P) jump hXl
      rw [hrec] at this ⊢
      exact ⟨this, World.putObj_heap_same (Array.getElem?_eq_some_iff.1 hXl).1, (World.putObj_heap_other (by omega)).trans hXd⟩
    have end1 : ∀ o, But (fun k => M k ∨ w.heap.size + 2 + d ≤ k) U X → But (fun k => M k ∨ k = w.heap.size + 1 ∨ V.heap.size + d ≤ k) W (X.putObj (w.heap.size + 1) o) := fun o hf => by
      refine ⟨hf.os.trans (hUf.1.trans hWa.os), hf.tape.trans (hUf.2.1.trans hWa.tape), hf.output.trans (hUf.2.2.trans hWa.output), ?_, fun k hk hm => ?_⟩
      · have := hf.size
        simp; omega
      · exact (World.putObj_heap_other (fun e => hm (.inr (.inl e)))).trans ((hf.same k (by omega) (by rintro (e | e); · exact hm (.inl e)
                                                                                                       · exact hm (.inr (.inr (by omega))))).trans ((hUo k (fun e => hm (.inr (.inl e)))).trans (hWa.block k hk)))
    have end2 : ∀ o, But (fun k => M k ∨ w.heap.size + 2 + d ≤ k) U X → But M w (X.putObj (w.heap.size + 1) o) := fun o hf => by
      refine bP _ ⟨hf.os.trans hBU.os, hf.tape.trans hBU.tape, hf.output.trans hBU.output, Nat.le_trans hBU.size hf.size, fun k hk hm => ?_⟩
      exact (hf.same k (Nat.lt_of_lt_of_le hk hBU.size) (by rintro (e | e); · exact hm e
                                                            · omega)).trans (hBU.same k hk hm)
    cases e with
    | normal =>
      obtain ⟨hbx, hipx⟩ := hp
      obtain ⟨hr, hl4, hd4⟩ := shut none hbx
      exact ⟨_, _, hr, .inl ⟨rfl, ⟨⟨end2 _ hbx, iP _ hipx⟩, hl4, hd4⟩, end1 _ hbx⟩⟩
    | ret =>
      obtain ⟨hbx, hix⟩ := hp
      obtain ⟨hr, hl4, hd4⟩ := shut (some .ret) hbx
      exact ⟨_, _, hr, .inr ⟨rfl, ⟨_, ⟨end2 _ hbx, xP _ hix⟩, hl4, hd4⟩⟩⟩
    | exit id =>
      obtain ⟨hbx, hix⟩ := hp
      obtain ⟨hr, hl4, hd4⟩ := shut (some (.exit id)) hbx
      exact ⟨_, _, hr, .inr ⟨rfl, ⟨_, ⟨end2 _ hbx, xP _ hix⟩, hl4, hd4⟩⟩⟩
    | goto t => exact hp.elim
    | panic ch => exact hp.elim
    | outgrown => exact hp.elim
  · rintro e X ⟨⟨v, rfl⟩, (⟨⟨hB, hip⟩, hl, hd⟩ | ⟨pre, hSp, c, ⟨hB, hi⟩, hl, hd⟩)⟩
    · exact ⟨none, _, by have := run_endLoop (P := P) hl (by rw [hrec]; simp); rw [hrec] at this; exact this,
        hdone _ _ (Nat.le_refl _) (iP _ hip) (bP _ hB) ((World.putObj_heap_other (by omega)).trans hd)⟩
    · exact ⟨some c, _, by have := run_endLoop (P := P) hl (by rw [hrec]; simp); rw [hrec] at this; exact this,
        hstop _ c pre _ (Nat.le_refl _) hSp (xP _ hi) (bP _ hB) ((World.putObj_heap_other (by omega)).trans hd)⟩

end Go.Proofs.YtaipdckakgohjaaGreatDoor

/- surtitleref5's reader: numbers of up to nine digits; plain. -/
namespace Go.Proofs.YtaipdckakgohjaaGreatDoor
open Go.RowKit Go.Shelf
attribute [local go_sem] Oper.semAt_some

theorem RdAt.at {V : World} {B B2 : Nat} {l : List UInt8} {k : Nat} {b : Bool} (h : RdAt V B l k b) (e : B = B2) : RdAt V B2 l k b := e ▸ h
theorem but_drewN {M : Nat → Prop} {A W : World} (h : But M A W) (n : Nat) : But M A (W.drewN n) := h.below_trans (below_drewN (Below.refl _ _) n)
theorem butOwn {B : Nat} {A W : World} (h : But (fun x => x = B) A W) (i : Nat) (v : Value) : But (fun x => x = B) A (W.setCell ⟨B, i, none⟩ v) := h.setCell (p := ⟨B, i, none⟩) rfl v
set_option maxRecDepth 100000 in
set_option maxHeartbeats 1000000 in
theorem rnumber9_any (B : Nat) (l : List UInt8) (p m : Nat) (b : Bool) (hp : p ≤ l.length) (hm : m ≤ 9) (hl : l.length ≤ 9223372036854775807) (w : World) (h : RdAt w B l p b) :
    Calls Tryz.prog 32 #[.pointer (some ⟨B, 0, none⟩), .int .i64 m] w fun e w' => e = .returned (.int .i64 (rdS m l p b).1) ∧ RdAt w' B l (rdS m l p b).2.1 (rdS m l p b).2.2 ∧ But (fun x => x = B) w w' := by
  obtain ⟨r, hr⟩ : ∃ r, rdS m l p b = r := ⟨_, rfl⟩
  rw [hr]
  have HR := hideR hr
  clear hr
  have hsz := bs_size l
  go_enter Tryz.func32, Tryz.ntmps32
  go_wp2_with fail
  go_loopw [5, 6] (fun vv vi wr => ∃ (j v : Nat), vv = .int .i64 v ∧ vi = .int .i64 j ∧ j ≤ m ∧ v ≤ 1000000000 ∧ Hid (j ≤ runC (l.drop p) ∧ v = valN ((l.drop p).take j)) ∧ RdAt wr B l (p + j) b ∧ But (fun x => x = B) w wr) (fun _ vi _ => m - (intOf vi).toNat)
  case atStart => exact ⟨0, 0, rfl, rfl, by omega, by omega, ⟨by omega, by simp [valN]⟩, h, But.refl _ _⟩
  case round =>
    clear h
    obtain ⟨j, v, rfl, rfl, hj, hv, HK, h, hB⟩ := hrel
    obtain ⟨q, hq⟩ : ∃ q, p + j = q := ⟨_, rfl⟩
    have hk : q ≤ l.length := by
      have := HK.out.1
      have := runC_le (l.drop p)
      simp at this
      omega
    rw [hq] at h
    obtain ⟨h0, c0, c1, c2, f1, f2⟩ := id h
    by_cases hj2 : j < m
    · have zj : (j : Int) < (m : Int) := by omega
      by_cases h1 : q < l.length
      · have z1 : (q : Int) < ((bs l).size : Int) := by omega
        have z2 : q < (bs l).size := by omega
        have g1 : decide (((bs l).size : Int) ≤ (q : Int)) = false := decide_eq_false (by omega)
        have g2 : decide ((bs l).size ≤ q) = false := decide_eq_false (by omega)
        have zl : ((bs l).size : Int) ≤ 9223372036854775807 := by omega
        obtain ⟨c, hc⟩ : ∃ c, l[q]'h1 = c := ⟨_, rfl⟩
        have hg : (bs l)[q] = c := (bs_get l q z2).trans hc
        have HS := runC_step h1
        rw [hc] at HS
        have HA := hideR (runC_at l p j HK.out.1)
        rw [hq] at HA
        by_cases hd : isDig c = true
        · have hx : 48 ≤ c.toNat ∧ c.toNat ≤ 57 := of_decide_eq_true hd
          rw [if_pos hd] at HS
          have HE : Hid (j + 1 ≤ runC (l.drop p) ∧ 10 * v + (c.toNat - 48) = valN ((l.drop p).take (j + 1))) := by
            have e := rd_step l p j (by omega)
            have e2 := HK.out.2
            have e3 := HA.out
            refine ⟨by omega, ?_⟩
            simp only [hq] at e
            rw [e, hc, e2]
            omega
          have hv2 : 10 * v + (c.toNat - 48) ≤ 1000000000 := by
            have := rd_lt l p (j + 1) 9 (by omega) HE.out.1
            have := HE.out.2
            omega
          obtain ⟨u, hu⟩ : ∃ u, 10 * v + (c.toNat - 48) = u := ⟨_, rfl⟩
          rw [hu] at HE hv2
          have w8 : IntKind.u8.wrap ((c.toNat : Int) - 48) = (c.toNat : Int) - 48 := by rw [IntKind.wrap_u8]; omega
          have hui : 10 * (v : Int) + ((c.toNat : Int) - 48) = (u : Int) := by omega
          have g3 : decide ((c.toNat : Int) < 48) = false := decide_eq_false (by omega)
          have g4 : decide ((57 : Int) < (c.toNat : Int)) = false := decide_eq_false (by omega)
          clear HS HA hd hc HK hsz hl hp hk
          go_wp2_with fail
          go_quiet (fail)
          go_wp2_with fail
          go_quiet (fail)
          go_wp2_with fail
          go_roundw
          case rel => exact ⟨j + 1, u, by go_num, by go_num, by omega, by omega, HE, by rw [show p + (j + 1) = q + 1 by omega]; exact (h.drewN _).step, butOwn (but_drewN hB _) _ _⟩
          case measure => simp [intOf]; omega
        · have hx : ¬ (48 ≤ c.toNat ∧ c.toNat ≤ 57) := fun h => hd (decide_eq_true h)
          rw [if_neg hd] at HS
          have HE : Hid (r = (0, q, true)) := by
            have e3 := HA.out
            rw [Hid, ← HR.out]
            unfold rdS
            rw [if_neg (by omega), show runC (l.drop p) = j by omega, hq]
          clear HS HA hd hc HK HR
          obtain ⟨r1, r2, r3⟩ := r
          have he := HE.out
          obtain ⟨rfl, rfl, rfl⟩ : r1 = 0 ∧ r2 = q ∧ r3 = true := by
            rw [Prod.mk.injEq, Prod.mk.injEq] at he
            exact he
          clear HE he hsz hl hp hk
          by_cases hy : c.toNat < 48
          · have g3 : decide ((c.toNat : Int) < 48) = true := decide_eq_true (by omega)
            go_wp2_with fail
            go_quiet (fail)
            go_wp2_with fail
            go_ret
            exact ⟨rfl, (h.drewN nq).bad, butOwn (but_drewN hB nq) _ _⟩
          · have hy2 : 57 < c.toNat := by omega
            have g3 : decide ((c.toNat : Int) < 48) = false := decide_eq_false (by omega)
            have g4 : decide ((57 : Int) < (c.toNat : Int)) = true := decide_eq_true (by omega)
            go_wp2_with fail
            go_quiet (fail)
            go_wp2_with fail
            go_ret
            exact ⟨rfl, (h.drewN nq).bad, butOwn (but_drewN hB nq) _ _⟩
      · have z1 : ((bs l).size : Int) ≤ (q : Int) := by omega
        have g1 : decide (((bs l).size : Int) ≤ (q : Int)) = true := decide_eq_true z1
        have g2 : decide ((bs l).size ≤ q) = true := decide_eq_true (by omega)
        have HE : Hid (r = (0, q, true)) := by
          have e3 := runC_at l p j HK.out.1
          have e4 := runC_end l q (by omega)
          rw [hq] at e3
          rw [Hid, ← HR.out]
          unfold rdS
          rw [if_neg (by omega), show runC (l.drop p) = j by omega, hq]
        clear HK HR
        obtain ⟨r1, r2, r3⟩ := r
        have he := HE.out
        obtain ⟨rfl, rfl, rfl⟩ : r1 = 0 ∧ r2 = q ∧ r3 = true := by
          rw [Prod.mk.injEq, Prod.mk.injEq] at he
          exact he
        clear HE he hsz hl hp hk h1
        go_wp2_with fail
        go_quiet (fail)
        go_wp2_with fail
        go_ret
        exact ⟨rfl, (h.drewN nq).bad, butOwn (but_drewN hB nq) _ _⟩
    · obtain rfl : j = m := by omega
      have zj : (j : Int) ≤ (j : Int) := by omega
      have HE : Hid (r = ((v : Int), q, b)) := by
        rw [Hid, ← HR.out]
        unfold rdS
        rw [if_pos HK.out.1, ← HK.out.2, hq]
      clear HK HR
      obtain ⟨r1, r2, r3⟩ := r
      have he := HE.out
      obtain ⟨rfl, rfl, rfl⟩ : r1 = (v : Int) ∧ r2 = q ∧ r3 = b := by
        rw [Prod.mk.injEq, Prod.mk.injEq] at he
        exact he
      clear HE he
      go_wp2_with fail
      go_ret
      exact ⟨rfl, h, hB⟩
set_option maxRecDepth 100000 in
set_option maxHeartbeats 1000000 in
theorem rplain_walk (B : Nat) (l : List UInt8) (k r : Nat) (b : Bool) (v k2 : Nat) (w : World) (h : RdAt w B l k b) (g1 : 1 ≤ r) (g2 : r ≤ 9) (g3 : r = 1 ∨ ∃ z : k < (bs l).size, 1 < r ∧ ¬ (bs l)[k] = 48)
    (HR : ∀ w, RdAt w B l k b → Calls Tryz.prog 68 #[.pointer (some ⟨B, 0, none⟩)] w fun e w' => e = .returned (.int .i64 (r : Nat)) ∧ Below w.heap.size w w')
    (HN : ∀ w, RdAt w B l k b → Calls Tryz.prog 32 #[.pointer (some ⟨B, 0, none⟩), .int .i64 r] w fun e w' => e = .returned (.int .i64 v) ∧ RdAt w' B l k2 b ∧ But (fun x => x = B) w w') :
    Calls Tryz.prog 36 #[.pointer (some ⟨B, 0, none⟩)] w fun e w' => e = .returned (.int .i64 v) ∧ RdAt w' B l k2 b ∧ But (fun x => x = B) w w' := by
  have HN := hideR HN
  have HR := hideR HR
  have z1 : (1 : Int) ≤ (r : Int) := by omega
  have z2 : (r : Int) ≤ 9 := by omega
  have e1 : decide ((r : Int) < (1 : Int)) = false := decide_eq_false (by omega)
  have e2 : decide (r < 1) = false := decide_eq_false (by omega)
  have e3 : decide ((9 : Int) < (r : Int)) = false := decide_eq_false (by omega)
  have e4 : decide (9 < r) = false := decide_eq_false (by omega)
  rcases g3 with hr1 | ⟨z, g3, g4⟩
  · have e5 : decide ((1 : Int) < (r : Int)) = false := decide_eq_false (by omega)
    have e6 : decide (1 < r) = false := decide_eq_false (by omega)
    clear hr1
    go_enter Tryz.func36, Tryz.ntmps36
    go_wp2_with fail
    go_at_call 68
    refine (HR.out _ h).mono ?_
    rintro e w1 ⟨rfl, b1⟩
    have h1 := h.keep b1
    have b2 := But.grown (M := fun x => x = B) b1
    obtain ⟨h0, c0, c1, c2, f1, f2⟩ := id h1
    clear b1
    go_wp2_with fail
    go_quiet (fail)
    go_wp2_with fail
    go_at_call 32
    refine (HN.out _ (h1.drewN nq)).mono ?_
    rintro e w2 ⟨rfl, h2, b3⟩
    go_wp2_with fail
    go_ret
    exact ⟨rfl, h2, (but_drewN b2 nq).trans b3⟩
  · have z3 : (1 : Int) < (r : Int) := by omega
    have z4 : (k : Int) < ((bs l).size : Int) := by omega
    have n3 : ¬ (bs l)[k].toNat = 48 := fun x => g4 (UInt8.toNat_inj.1 x)
    have n2 : (((bs l)[k].toNat : Int) == 48) = false := by
      rw [beq_eq_false_iff_ne]
      omega
    go_enter Tryz.func36, Tryz.ntmps36
    go_wp2_with fail
    go_at_call 68
    refine (HR.out _ h).mono ?_
    rintro e w1 ⟨rfl, b1⟩
    have h1 := h.keep b1
    have b2 := But.grown (M := fun x => x = B) b1
    obtain ⟨h0, c0, c1, c2, f1, f2⟩ := id h1
    clear b1
    go_wp2_with fail
    go_quiet (fail)
    go_wp2_with fail
    go_at_call 32
    refine (HN.out _ (h1.drewN nq)).mono ?_
    rintro e w2 ⟨rfl, h2, b3⟩
    go_wp2_with fail
    go_ret
    exact ⟨rfl, h2, (but_drewN b2 nq).trans b3⟩
set_option maxRecDepth 100000 in
set_option maxHeartbeats 1000000 in
theorem rplain_bad (B : Nat) (l : List UInt8) (k r : Nat) (b : Bool) (w : World) (h : RdAt w B l k b) (g : r < 1 ∨ (1 ≤ r ∧ 9 < r) ∨ (1 ≤ r ∧ r ≤ 9 ∧ 1 < r ∧ ∃ z : k < (bs l).size, (bs l)[k] = 48))
    (HR : ∀ w, RdAt w B l k b → Calls Tryz.prog 68 #[.pointer (some ⟨B, 0, none⟩)] w fun e w' => e = .returned (.int .i64 (r : Nat)) ∧ Below w.heap.size w w') :
    Calls Tryz.prog 36 #[.pointer (some ⟨B, 0, none⟩)] w fun e w' => e = .returned (.int .i64 0) ∧ RdAt w' B l k true ∧ But (fun x => x = B) w w' := by
  have HR := hideR HR
  rcases g with g | ⟨g0, g⟩ | ⟨g0, g1, g2, z, g3⟩
  · have z1 : (r : Int) < (1 : Int) := by omega
    have e1 : decide ((r : Int) < (1 : Int)) = true := decide_eq_true z1
    have e2 : decide (r < 1) = true := decide_eq_true (by omega)
    go_enter Tryz.func36, Tryz.ntmps36
    go_wp2_with fail
    go_at_call 68
    refine (HR.out _ h).mono ?_
    rintro e w1 ⟨rfl, b1⟩
    have h1 := h.keep b1
    have b2 := But.grown (M := fun x => x = B) b1
    obtain ⟨h0, c0, c1, c2, f1, f2⟩ := id h1
    clear b1
    go_wp2_with fail
    go_quiet (fail)
    go_wp2_with fail
    go_ret
    exact ⟨rfl, (h1.drewN nq).bad, butOwn (but_drewN b2 nq) _ _⟩
  · have z1 : (1 : Int) ≤ (r : Int) := by omega
    have z2 : (9 : Int) < (r : Int) := by omega
    have e1 : decide ((r : Int) < (1 : Int)) = false := decide_eq_false (by omega)
    have e2 : decide (r < 1) = false := decide_eq_false (by omega)
    have e3 : decide ((9 : Int) < (r : Int)) = true := decide_eq_true (by omega)
    have e4 : decide (9 < r) = true := decide_eq_true (by omega)
    go_enter Tryz.func36, Tryz.ntmps36
    go_wp2_with fail
    go_at_call 68
    refine (HR.out _ h).mono ?_
    rintro e w1 ⟨rfl, b1⟩
    have h1 := h.keep b1
    have b2 := But.grown (M := fun x => x = B) b1
    obtain ⟨h0, c0, c1, c2, f1, f2⟩ := id h1
    clear b1
    go_wp2_with fail
    go_quiet (fail)
    go_wp2_with fail
    go_ret
    exact ⟨rfl, (h1.drewN nq).bad, butOwn (but_drewN b2 nq) _ _⟩
  · have z1 : (1 : Int) ≤ (r : Int) := by omega
    have z2 : (r : Int) ≤ 9 := by omega
    have e1 : decide ((r : Int) < (1 : Int)) = false := decide_eq_false (by omega)
    have e2 : decide (r < 1) = false := decide_eq_false (by omega)
    have e3 : decide ((9 : Int) < (r : Int)) = false := decide_eq_false (by omega)
    have e4 : decide (9 < r) = false := decide_eq_false (by omega)
    have n2 : (((bs l)[k].toNat : Int) == 48) = true := by rw [g3]; rfl
    have z3 : (1 : Int) < (r : Int) := by omega
    have z4 : (k : Int) < ((bs l).size : Int) := by omega
    have e5 : decide ((1 : Int) < (r : Int)) = true := decide_eq_true z3
    have e6 : decide (1 < r) = true := decide_eq_true (by omega)
    go_enter Tryz.func36, Tryz.ntmps36
    go_wp2_with fail
    go_at_call 68
    refine (HR.out _ h).mono ?_
    rintro e w1 ⟨rfl, b1⟩
    have h1 := h.keep b1
    have b2 := But.grown (M := fun x => x = B) b1
    obtain ⟨h0, c0, c1, c2, f1, f2⟩ := id h1
    clear b1
    go_wp2_with fail
    go_quiet (fail)
    go_wp2_with fail
    go_ret
    exact ⟨rfl, (h1.drewN nq).bad, butOwn (but_drewN b2 nq) _ _⟩
theorem rplain_any (B : Nat) (l : List UInt8) (k : Nat) (b : Bool) (hk : k ≤ l.length) (hl : l.length ≤ 9223372036854775807) (w : World) (h : RdAt w B l k b) :
    Calls Tryz.prog 36 #[.pointer (some ⟨B, 0, none⟩)] w fun e w' => e = .returned (.int .i64 (plS l k b).1) ∧ RdAt w' B l (plS l k b).2.1 (plS l k b).2.2 ∧ But (fun x => x = B) w w' := by
  have hsz := bs_size l
  have HR := fun w h => rrun5_any B l k b hk hl w h
  have rl := runC_le (l.drop k)
  simp only [List.length_drop] at rl
  have HN := fun (hr : runC (l.drop k) ≤ 9) w h => rnumber9_any B l k (runC (l.drop k)) b hk hr hl w h
  unfold rdS at HN
  rw [if_pos (Nat.le_refl _)] at HN
  unfold plS
  generalize runC (l.drop k) = r at *
  by_cases c1 : r < 1
  · rw [if_pos (.inl c1)]
    exact rplain_bad B l k r b w h (.inl c1) HR
  · by_cases c2 : 9 < r
    · rw [if_pos (.inr (.inl c2))]
      exact rplain_bad B l k r b w h (.inr (.inl ⟨by omega, c2⟩)) HR
    · by_cases c3 : 1 < r
      · have hg := bs_get l k (by omega)
        have hz : l[k]? = some (l[k]'(by omega)) := List.getElem?_eq_getElem (by omega)
        by_cases c4 : l[k]'(by omega) = 48
        · rw [if_pos (.inr (.inr ⟨c3, by rw [hz, c4]⟩))]
          exact rplain_bad B l k r b w h (.inr (.inr ⟨by omega, by omega, c3, by omega, hg.trans c4⟩)) HR
        · rw [if_neg (by rintro (x | x | ⟨_, x⟩) <;> first | omega | exact c4 (Option.some.inj (hz.symm.trans x)))]
          exact rplain_walk B l k r b _ _ w h (by omega) (by omega) (.inr ⟨by omega, c3, fun x => c4 (hg.symm.trans x)⟩) HR (HN (by omega))
      · rw [if_neg (by rintro (x | x | ⟨x, _⟩) <;> omega)]
        exact rplain_walk B l k r b _ _ w h (by omega) (by omega) (.inl (by omega)) HR (HN (by omega))
end Go.Proofs.YtaipdckakgohjaaGreatDoor

/- Package code: whole, readRate, Rate. -/
namespace Go.Proofs.YtaipdckakgohjaaGreatDoor
open Go.RowKit Go.Shelf
attribute [local go_sem] Oper.semAt_some bs_toList

/-- A rate in memory that may be written. -/
def RateW (V : World) (B : Nat) (n d : Int) (dr : Bool) : Prop := B < V.heap.size ∧ V.cell? ⟨B, 0, none⟩ = some (.int .i64 n) ∧ V.cell? ⟨B, 1, none⟩ = some (.int .i64 d) ∧ V.cell? ⟨B, 2, none⟩ = some (.bool dr) ∧ V.frozen? ⟨B, 0, none⟩ = false ∧ V.frozen? ⟨B, 1, none⟩ = false ∧ V.frozen? ⟨B, 2, none⟩ = false
theorem RateW.new (w : World) (n d : Int) (dr : Bool) : RateW (w.alloc (.cells #[.int .i64 n, .int .i64 d, .bool dr] 31)) w.heap.size n d dr := ⟨by simp, by go_simp, by go_simp, by go_simp, by go_simp, by go_simp, by go_simp⟩
theorem frozE {V U : World} {B i : Nat} (e : U.heap[B]? = V.heap[B]?) : U.frozen? ⟨B, i, none⟩ = V.frozen? ⟨B, i, none⟩ := by
  unfold World.frozen?
  rw [e]
theorem RateW.keep {V U : World} {B : Nat} {n d : Int} {dr : Bool} (h : RateW V B n d dr) (k : Below V.heap.size V U) : RateW U B n d dr :=
  have e := k.block B h.1
  ⟨Nat.lt_of_lt_of_le h.1 k.size, (k.cell (p := ⟨B, 0, none⟩) h.1).trans h.2.1, (k.cell (p := ⟨B, 1, none⟩) h.1).trans h.2.2.1, (k.cell (p := ⟨B, 2, none⟩) h.1).trans h.2.2.2.1, (frozE e).trans h.2.2.2.2.1, (frozE e).trans h.2.2.2.2.2.1, (frozE e).trans h.2.2.2.2.2.2⟩
set_option maxRecDepth 100000 in
set_option maxHeartbeats 2000000 in
theorem whl_empty  (w : World) :
    Calls Tryz.prog 71 #[.string (bs [])] w fun e w' => e = .returned (.tuple #[.int .i64 0, .bool false]) ∧ Below w.heap.size w w' := by
  have hz : (bs []).toList = [] := bs_toList []
  go_enter Tryz.func71, Tryz.ntmps71
  go_wp2_with fail
  go_ret2
  exact ⟨rfl, by first | exact below_drewN (Below.refl _ _) _ | exact Below.refl _ _⟩
set_option maxRecDepth 100000 in
set_option maxHeartbeats 2000000 in
theorem whl_long (q : List UInt8) (he : q.isEmpty = false) (h9 : 9 < q.length) (w : World) :
    Calls Tryz.prog 71 #[.string (bs q)] w fun e w' => e = .returned (.tuple #[.int .i64 0, .bool false]) ∧ Below w.heap.size w w' := by
  have hsz := bs_size q
  have z1 : (9 : Int) < (q.length : Int) := by omega
  go_enter Tryz.func71, Tryz.ntmps71
  go_wp2_with fail
  go_ret2
  exact ⟨rfl, by first | exact below_drewN (Below.refl _ _) _ | exact Below.refl _ _⟩
set_option maxRecDepth 100000 in
set_option maxHeartbeats 2000000 in
theorem whl_nought (q : List UInt8) (he : q.isEmpty = false) (h9 : q.length ≤ 9) (h1 : 1 < q.length) (h0 : 0 < (bs q).size) (hz : (bs q)[0] = 48) (w : World) :
    Calls Tryz.prog 71 #[.string (bs q)] w fun e w' => e = .returned (.tuple #[.int .i64 0, .bool false]) ∧ Below w.heap.size w w' := by
  have hsz := bs_size q
  have z1 : ¬ (9 : Int) < (q.length : Int) := by omega
  have g1 : decide ((9 : Int) < (q.length : Int)) = false := decide_eq_false z1
  have z2 : (1 : Int) < (q.length : Int) := by omega
  have g2 : decide ((1 : Int) < (q.length : Int)) = true := decide_eq_true z2
  have z3 : (0 : Int) < ((bs q).size : Int) := by omega
  have n2 : (((bs q)[0].toNat : Int) == 48) = true := by rw [hz]; rfl
  go_enter Tryz.func71, Tryz.ntmps71
  go_wp2_with fail
  go_ret2
  exact ⟨rfl, by first | exact below_drewN (Below.refl _ _) _ | exact Below.refl _ _⟩
set_option maxRecDepth 100000 in
set_option maxHeartbeats 2000000 in
theorem whl_more (q : List UInt8) (x : Int) (b : Bool) (he : q.isEmpty = false) (h9 : q.length ≤ 9) (h1 : 1 < q.length) (h0 : 0 < (bs q).size) (hz : ¬ (bs q)[0] = 48) (w : World)
    (HD : ∀ w, Calls Tryz.prog 86 #[.string (bs q)] w fun e w' => e = .returned (.tuple #[.int .i64 x, .bool b]) ∧ w' = w) :
    Calls Tryz.prog 71 #[.string (bs q)] w fun e w' => e = .returned (.tuple #[.int .i64 x, .bool b]) ∧ Below w.heap.size w w' := by
  have HD := hideR HD
  have hsz := bs_size q
  have z1 : ¬ (9 : Int) < (q.length : Int) := by omega
  have g1 : decide ((9 : Int) < (q.length : Int)) = false := decide_eq_false z1
  have z2 : (1 : Int) < (q.length : Int) := by omega
  have g2 : decide ((1 : Int) < (q.length : Int)) = true := decide_eq_true z2
  have z3 : (0 : Int) < ((bs q).size : Int) := by omega
  have n3 : ¬ (bs q)[0].toNat = 48 := fun x => hz (UInt8.toNat_inj.1 x)
  have n2 : (((bs q)[0].toNat : Int) == 48) = false := by
    rw [beq_eq_false_iff_ne]
    omega
  go_enter Tryz.func71, Tryz.ntmps71
  go_wp2_with fail
  go_at_call 86
  refine (HD.out _).mono ?_
  rintro e w1 ⟨rfl, hw1⟩
  obtain rfl := hw1.symm
  go_wp2_with fail
  go_ret2
  exact ⟨rfl, by first | exact below_drewN (Below.refl _ _) _ | exact Below.refl _ _⟩
set_option maxRecDepth 100000 in
set_option maxHeartbeats 2000000 in
theorem whl_one (q : List UInt8) (x : Int) (b : Bool) (he : q.isEmpty = false) (h1 : q.length = 1) (w : World)
    (HD : ∀ w, Calls Tryz.prog 86 #[.string (bs q)] w fun e w' => e = .returned (.tuple #[.int .i64 x, .bool b]) ∧ w' = w) :
    Calls Tryz.prog 71 #[.string (bs q)] w fun e w' => e = .returned (.tuple #[.int .i64 x, .bool b]) ∧ Below w.heap.size w w' := by
  have HD := hideR HD
  have hsz := bs_size q
  have z1 : ¬ (9 : Int) < (q.length : Int) := by omega
  have g1 : decide ((9 : Int) < (q.length : Int)) = false := decide_eq_false z1
  have g2 : decide ((1 : Int) < (q.length : Int)) = false := decide_eq_false (by omega)
  have z2 : ¬ (1 : Int) < (q.length : Int) := by omega
  go_enter Tryz.func71, Tryz.ntmps71
  go_wp2_with fail
  go_at_call 86
  refine (HD.out _).mono ?_
  rintro e w1 ⟨rfl, hw1⟩
  obtain rfl := hw1.symm
  go_wp2_with fail
  go_ret2
  exact ⟨rfl, by first | exact below_drewN (Below.refl _ _) _ | exact Below.refl _ _⟩
theorem cwhl_any (q : List UInt8) (w : World) :
    Calls Tryz.prog 71 #[.string (bs q)] w fun e w' => e = .returned (.tuple #[.int .i64 (whlA q).1, .bool (whlA q).2]) ∧ Below w.heap.size w w' := by
  have hsz := bs_size q
  unfold whlA
  by_cases h : q = []
  · rw [if_pos (.inl h)]
    subst h
    exact whl_empty w
  · have he : q.isEmpty = false := by cases q with
      | nil => exact absurd rfl h
      | cons c t => rfl
    have h1 : 1 ≤ q.length := by
      rcases Nat.eq_zero_or_pos q.length with x | x
      · exact absurd (List.length_eq_zero_iff.1 x) h
      · exact x
    by_cases h9 : 9 < q.length
    · rw [if_pos (.inr (.inl h9))]
      exact whl_long q he h9 w
    · have HD := digits_tup q (by omega) _ _ (rfl : digA q = ((digA q).1, (digA q).2))
      by_cases h2 : 1 < q.length
      · have hg := bs_get q 0 (by omega)
        have hh : q.head? = some (q[0]'(by omega)) := by
          cases q with
          | nil => simp at h2
          | cons c t => rfl
        by_cases h4 : q.head? = some 48
        · rw [if_pos (.inr (.inr ⟨h2, h4⟩))]
          exact whl_nought q he (by omega) h2 (by omega) (by rw [hg]; exact Option.some.inj (hh.symm.trans h4)) w
        · rw [if_neg (by rintro (x | x | x) <;> first | exact h x | omega | exact h4 x.2)]
          exact whl_more q _ _ he (by omega) h2 (by omega) (fun e => h4 (by rw [hh, ← hg, e])) w HD
      · rw [if_neg (by rintro (x | x | x) <;> first | exact h x | omega)]
        exact whl_one q _ _ he (by omega) w HD
theorem suffd_any (l : List UInt8) (hl : l.length ≤ 9223372036854775807) (w : World) :
    Calls Tryz.prog 69 #[.string (bs l), .string ⟨#[100]⟩] w fun e w' => e = .returned (.tuple #[.string (bs (Lib.trimSuffix l [100])), .bool (Lib.hasSuffix l [100])]) ∧ w' = w := by
  have := Any.strings_CutSuffix (ρ := lay104Ren) lay104 (bs l) ⟨#[100]⟩ w (by rw [bs_size]; exact hl)
  rw [bs_list] at this
  exact this
set_option maxRecDepth 100000 in
set_option maxHeartbeats 2000000 in
theorem readRate_no (l t u v : List UInt8) (n : Int) (dr p : Bool) (w : World)
    (HC : ∀ w, Calls Tryz.prog 69 #[.string (bs l), .string ⟨#[100]⟩] w fun e w' => e = .returned (.tuple #[.string (bs t), .bool dr]) ∧ w' = w)
    (HK : ∀ w, Calls Tryz.prog 70 #[.string (bs t), .string ⟨#[47]⟩] w fun e w' => e = .returned (.tuple #[.string (bs u), .string (bs v), .bool p]) ∧ ∃ n, w' = w.drewN n)
    (HW : ∀ w, Calls Tryz.prog 71 #[.string (bs u)] w fun e w' => e = .returned (.tuple #[.int .i64 n, .bool false]) ∧ Below w.heap.size w w') :
    Calls Tryz.prog 34 #[.string (bs l)] w fun e w' => e = .returned (.tuple #[.agg #[.int .i64 n, .int .i64 1, .bool dr], .bool false]) ∧ Below w.heap.size w w' := by
  have HC := hideR HC
  have HK := hideR HK
  have HW := hideR HW
  go_enter Tryz.func34, Tryz.ntmps34
  go_wp2_with fail
  have Z0 := RateW.new w 0 0 false
  go_at_call 69
  refine (HC.out _).mono ?_
  rintro e w1 ⟨rfl, hw1⟩
  obtain rfl := hw1.symm
  go_wp2_with fail
  go_at_call 70
  refine (HK.out _).mono ?_
  rintro e w2 ⟨rfl, n2, hw2⟩
  obtain rfl := hw2.symm
  go_wp2_with fail
  go_at_call 71
  refine (HW.out _).mono ?_
  rintro e w3 ⟨rfl, b3⟩
  have B3 : Below w.heap.size w w3 := bup (below_drewN (bel1 w _) _) b3
  have Z3 := (Z0.keep (below_drewN (Below.refl _ _) n2)).keep b3
  clear b3 Z0
  obtain ⟨_, r0, r1, r2, r3, r4, r5⟩ := id Z3
  go_wp2_with fail
  exact bodyPost_ret (v := .tuple #[.agg #[.int .i64 n, .int .i64 1, .bool dr], .bool false]) (by simp [results, Tryz.results34, go_sem, r0, r1, r2]) rfl ⟨rfl, by first | exact B3 | exact ((B3.setCell (Nat.le_refl _) _).setCell (Nat.le_refl _) _).setCell (Nat.le_refl _) _ | exact (((B3.setCell (p := ⟨w.heap.size, 0, none⟩) (Nat.le_refl _) _).setCell (p := ⟨w.heap.size, 1, none⟩) (Nat.le_refl _) _).setCell (p := ⟨w.heap.size, 2, none⟩) (Nat.le_refl _) _)⟩
set_option maxRecDepth 100000 in
set_option maxHeartbeats 2000000 in
theorem readRate_one (l t u v : List UInt8) (n : Int) (dr : Bool) (w : World)
    (HC : ∀ w, Calls Tryz.prog 69 #[.string (bs l), .string ⟨#[100]⟩] w fun e w' => e = .returned (.tuple #[.string (bs t), .bool dr]) ∧ w' = w)
    (HK : ∀ w, Calls Tryz.prog 70 #[.string (bs t), .string ⟨#[47]⟩] w fun e w' => e = .returned (.tuple #[.string (bs u), .string (bs v), .bool false]) ∧ ∃ n, w' = w.drewN n)
    (HW : ∀ w, Calls Tryz.prog 71 #[.string (bs u)] w fun e w' => e = .returned (.tuple #[.int .i64 n, .bool true]) ∧ Below w.heap.size w w') :
    Calls Tryz.prog 34 #[.string (bs l)] w fun e w' => e = .returned (.tuple #[.agg #[.int .i64 n, .int .i64 1, .bool dr], .bool true]) ∧ Below w.heap.size w w' := by
  have HC := hideR HC
  have HK := hideR HK
  have HW := hideR HW
  go_enter Tryz.func34, Tryz.ntmps34
  go_wp2_with fail
  have Z0 := RateW.new w 0 0 false
  go_at_call 69
  refine (HC.out _).mono ?_
  rintro e w1 ⟨rfl, hw1⟩
  obtain rfl := hw1.symm
  go_wp2_with fail
  go_at_call 70
  refine (HK.out _).mono ?_
  rintro e w2 ⟨rfl, n2, hw2⟩
  obtain rfl := hw2.symm
  go_wp2_with fail
  go_at_call 71
  refine (HW.out _).mono ?_
  rintro e w3 ⟨rfl, b3⟩
  have B3 : Below w.heap.size w w3 := bup (below_drewN (bel1 w _) _) b3
  have Z3 := (Z0.keep (below_drewN (Below.refl _ _) n2)).keep b3
  clear b3 Z0
  obtain ⟨_, r0, r1, r2, r3, r4, r5⟩ := id Z3
  go_wp2_with fail
  exact bodyPost_ret (v := .tuple #[.agg #[.int .i64 n, .int .i64 1, .bool dr], .bool true]) (by simp [results, Tryz.results34, go_sem, r0, r1, r2]) rfl ⟨rfl, by first | exact B3 | exact ((B3.setCell (Nat.le_refl _) _).setCell (Nat.le_refl _) _).setCell (Nat.le_refl _) _ | exact (((B3.setCell (p := ⟨w.heap.size, 0, none⟩) (Nat.le_refl _) _).setCell (p := ⟨w.heap.size, 1, none⟩) (Nat.le_refl _) _).setCell (p := ⟨w.heap.size, 2, none⟩) (Nat.le_refl _) _)⟩
set_option maxRecDepth 100000 in
set_option maxHeartbeats 2000000 in
theorem readRate_bad (l t u v : List UInt8) (n d : Int) (dr : Bool) (w : World)
    (HC : ∀ w, Calls Tryz.prog 69 #[.string (bs l), .string ⟨#[100]⟩] w fun e w' => e = .returned (.tuple #[.string (bs t), .bool dr]) ∧ w' = w)
    (HK : ∀ w, Calls Tryz.prog 70 #[.string (bs t), .string ⟨#[47]⟩] w fun e w' => e = .returned (.tuple #[.string (bs u), .string (bs v), .bool true]) ∧ ∃ n, w' = w.drewN n)
    (HW : ∀ w, Calls Tryz.prog 71 #[.string (bs u)] w fun e w' => e = .returned (.tuple #[.int .i64 n, .bool true]) ∧ Below w.heap.size w w')
    (HV : ∀ w, Calls Tryz.prog 71 #[.string (bs v)] w fun e w' => e = .returned (.tuple #[.int .i64 d, .bool false]) ∧ Below w.heap.size w w') :
    Calls Tryz.prog 34 #[.string (bs l)] w fun e w' => e = .returned (.tuple #[.agg #[.int .i64 n, .int .i64 d, .bool dr], .bool false]) ∧ Below w.heap.size w w' := by
  have HC := hideR HC
  have HK := hideR HK
  have HW := hideR HW
  have HV := hideR HV
  go_enter Tryz.func34, Tryz.ntmps34
  go_wp2_with fail
  have Z0 := RateW.new w 0 0 false
  go_at_call 69
  refine (HC.out _).mono ?_
  rintro e w1 ⟨rfl, hw1⟩
  obtain rfl := hw1.symm
  go_wp2_with fail
  go_at_call 70
  refine (HK.out _).mono ?_
  rintro e w2 ⟨rfl, n2, hw2⟩
  obtain rfl := hw2.symm
  go_wp2_with fail
  go_at_call 71
  refine (HW.out _).mono ?_
  rintro e w3 ⟨rfl, b3⟩
  have B3 : Below w.heap.size w w3 := bup (below_drewN (bel1 w _) _) b3
  have Z3 := (Z0.keep (below_drewN (Below.refl _ _) n2)).keep b3
  clear b3 Z0
  obtain ⟨_, r0, r1, r2, r3, r4, r5⟩ := id Z3
  go_wp2_with fail
  go_at_call 71
  refine (HV.out _).mono ?_
  rintro e w4 ⟨rfl, b4⟩
  have B4 := bup B3 b4
  have Z4 := Z3.keep b4
  clear b4 B3 Z3 r0 r1 r2 r3 r4 r5
  obtain ⟨_, r0, r1, r2, r3, r4, r5⟩ := id Z4
  go_wp2_with fail
  exact bodyPost_ret (v := .tuple #[.agg #[.int .i64 n, .int .i64 d, .bool dr], .bool false]) (by simp [results, Tryz.results34, go_sem, r0, r1, r2]) rfl ⟨rfl, by first | exact B4 | exact ((B4.setCell (Nat.le_refl _) _).setCell (Nat.le_refl _) _).setCell (Nat.le_refl _) _ | exact (((B4.setCell (p := ⟨w.heap.size, 0, none⟩) (Nat.le_refl _) _).setCell (p := ⟨w.heap.size, 1, none⟩) (Nat.le_refl _) _).setCell (p := ⟨w.heap.size, 2, none⟩) (Nat.le_refl _) _)⟩
set_option maxRecDepth 100000 in
set_option maxHeartbeats 2000000 in
theorem readRate_two (l t u v : List UInt8) (n d : Int) (dr q : Bool) (hq : (d != 1) = q) (w : World)
    (HC : ∀ w, Calls Tryz.prog 69 #[.string (bs l), .string ⟨#[100]⟩] w fun e w' => e = .returned (.tuple #[.string (bs t), .bool dr]) ∧ w' = w)
    (HK : ∀ w, Calls Tryz.prog 70 #[.string (bs t), .string ⟨#[47]⟩] w fun e w' => e = .returned (.tuple #[.string (bs u), .string (bs v), .bool true]) ∧ ∃ n, w' = w.drewN n)
    (HW : ∀ w, Calls Tryz.prog 71 #[.string (bs u)] w fun e w' => e = .returned (.tuple #[.int .i64 n, .bool true]) ∧ Below w.heap.size w w')
    (HV : ∀ w, Calls Tryz.prog 71 #[.string (bs v)] w fun e w' => e = .returned (.tuple #[.int .i64 d, .bool true]) ∧ Below w.heap.size w w') :
    Calls Tryz.prog 34 #[.string (bs l)] w fun e w' => e = .returned (.tuple #[.agg #[.int .i64 n, .int .i64 d, .bool dr], .bool q]) ∧ Below w.heap.size w w' := by
  have HC := hideR HC
  have HK := hideR HK
  have HW := hideR HW
  have HV := hideR HV
  go_enter Tryz.func34, Tryz.ntmps34
  go_wp2_with fail
  have Z0 := RateW.new w 0 0 false
  go_at_call 69
  refine (HC.out _).mono ?_
  rintro e w1 ⟨rfl, hw1⟩
  obtain rfl := hw1.symm
  go_wp2_with fail
  go_at_call 70
  refine (HK.out _).mono ?_
  rintro e w2 ⟨rfl, n2, hw2⟩
  obtain rfl := hw2.symm
  go_wp2_with fail
  go_at_call 71
  refine (HW.out _).mono ?_
  rintro e w3 ⟨rfl, b3⟩
  have B3 : Below w.heap.size w w3 := bup (below_drewN (bel1 w _) _) b3
  have Z3 := (Z0.keep (below_drewN (Below.refl _ _) n2)).keep b3
  clear b3 Z0
  obtain ⟨_, r0, r1, r2, r3, r4, r5⟩ := id Z3
  go_wp2_with fail
  go_at_call 71
  refine (HV.out _).mono ?_
  rintro e w4 ⟨rfl, b4⟩
  have B4 := bup B3 b4
  have Z4 := Z3.keep b4
  clear b4 B3 Z3 r0 r1 r2 r3 r4 r5
  obtain ⟨_, r0, r1, r2, r3, r4, r5⟩ := id Z4
  go_wp2_with fail
  exact bodyPost_ret (v := .tuple #[.agg #[.int .i64 n, .int .i64 d, .bool dr], .bool q]) (by simp [results, Tryz.results34, go_sem, r0, r1, r2]) rfl ⟨rfl, by first | exact B4 | exact ((B4.setCell (Nat.le_refl _) _).setCell (Nat.le_refl _) _).setCell (Nat.le_refl _) _ | exact (((B4.setCell (p := ⟨w.heap.size, 0, none⟩) (Nat.le_refl _) _).setCell (p := ⟨w.heap.size, 1, none⟩) (Nat.le_refl _) _).setCell (p := ⟨w.heap.size, 2, none⟩) (Nat.le_refl _) _)⟩
theorem readRate_any (l : List UInt8) (hl : l.length ≤ 9223372036854775807) (w : World) :
    Calls Tryz.prog 34 #[.string (bs l)] w fun e w' => e = .returned (.tuple #[.agg #[.int .i64 (rateA l).1.1, .int .i64 (rateA l).1.2.1, .bool (rateA l).1.2.2], .bool (rateA l).2]) ∧ Below w.heap.size w w' := by
  have HC := suffd_any l hl
  have ht : (Lib.trimSuffix l [100]).length ≤ 9223372036854775807 := by
    unfold Lib.trimSuffix
    split
    · rw [List.length_take]; omega
    · exact hl
  have HK := cut_any (Lib.trimSuffix l [100]) ht 47
  unfold rateA
  generalize Lib.trimSuffix l [100] = t at *
  generalize Lib.hasSuffix l [100] = dr at *
  generalize Lib.cut t [47] = c at *
  obtain ⟨u, v, p⟩ := c
  have HW := cwhl_any u
  have HV := cwhl_any v
  simp only at HK ⊢
  generalize whlA u = a at *
  generalize whlA v = b at *
  obtain ⟨n, ok⟩ := a
  obtain ⟨d, ok2⟩ := b
  simp only at HW HV ⊢
  cases ok
  · rw [if_neg (by simp)]
    exact readRate_no l t u v n dr p w HC HK HW
  · cases p
    · rw [if_neg (by simp)]
      exact readRate_one l t u v n dr w HC HK HW
    · rw [if_pos ⟨rfl, rfl⟩]
      cases ok2
      · exact readRate_bad l t u v n d dr w HC HK HW HV
      · exact readRate_two l t u v n d dr _ rfl w HC HK HW HV
set_option maxRecDepth 100000 in
set_option maxHeartbeats 2000000 in
theorem rate_no (l : List UInt8) (n d : Int) (dr : Bool) (w : World)
    (HR : ∀ w, Calls Tryz.prog 34 #[.string (bs l)] w fun e w' => e = .returned (.tuple #[.agg #[.int .i64 n, .int .i64 d, .bool dr], .bool false]) ∧ Below w.heap.size w w') :
    Calls Tryz.prog 9 #[.string (bs l)] w fun e w' => e = .returned (.tuple #[.agg #[.int .i64 0, .int .i64 0, .bool false], .int .i64 13]) ∧ Below w.heap.size w w' := by
  have HR := hideR HR
  go_enter Tryz.func9, Tryz.ntmps9
  go_wp2_with fail
  have Z0 := RateW.new w 0 0 false
  go_at_call 34
  refine (HR.out _).mono ?_
  rintro e w1 ⟨rfl, b1⟩
  have A1 := RateW.new w1 n d dr
  have B1 := bup (bup (bel1 w _) b1) (bel1 w1 (.cells #[.int .i64 n, .int .i64 d, .bool dr] 31))
  have Z1 := (Z0.keep b1).keep (bel1 w1 (.cells #[.int .i64 n, .int .i64 d, .bool dr] 31))
  clear b1 Z0
  obtain ⟨_, a0, a1, a2, _⟩ := id A1
  obtain ⟨_, r0, r1, r2, r3, r4, r5⟩ := id Z1
  go_wp2_with fail
  exact bodyPost_ret (v := .tuple #[.agg #[.int .i64 0, .int .i64 0, .bool false], .int .i64 13]) (by simp [results, Tryz.results9, go_sem, r0, r1, r2]) rfl ⟨rfl, by first | exact B1 | exact ((B1.setCell (Nat.le_refl _) _).setCell (Nat.le_refl _) _).setCell (Nat.le_refl _) _ | exact (((B1.setCell (p := ⟨w.heap.size, 0, none⟩) (Nat.le_refl _) _).setCell (p := ⟨w.heap.size, 1, none⟩) (Nat.le_refl _) _).setCell (p := ⟨w.heap.size, 2, none⟩) (Nat.le_refl _) _)⟩
set_option maxRecDepth 100000 in
set_option maxHeartbeats 2000000 in
theorem rate_bad (l : List UInt8) (n d c : Int) (dr : Bool) (hc : (c == 0) = false) (w : World)
    (HR : ∀ w, Calls Tryz.prog 34 #[.string (bs l)] w fun e w' => e = .returned (.tuple #[.agg #[.int .i64 n, .int .i64 d, .bool dr], .bool true]) ∧ Below w.heap.size w w')
    (HC : ∀ w, Calls Tryz.prog 35 #[.agg #[.int .i64 n, .int .i64 d, .bool dr]] w fun e w' => e = .returned (.int .i64 c) ∧ Below w.heap.size w w') :
    Calls Tryz.prog 9 #[.string (bs l)] w fun e w' => e = .returned (.tuple #[.agg #[.int .i64 0, .int .i64 0, .bool false], .int .i64 c]) ∧ Below w.heap.size w w' := by
  have HR := hideR HR
  have HC := hideR HC
  go_enter Tryz.func9, Tryz.ntmps9
  go_wp2_with fail
  have Z0 := RateW.new w 0 0 false
  go_at_call 34
  refine (HR.out _).mono ?_
  rintro e w1 ⟨rfl, b1⟩
  have A1 := RateW.new w1 n d dr
  have B1 := bup (bup (bel1 w _) b1) (bel1 w1 (.cells #[.int .i64 n, .int .i64 d, .bool dr] 31))
  have Z1 := (Z0.keep b1).keep (bel1 w1 (.cells #[.int .i64 n, .int .i64 d, .bool dr] 31))
  clear b1 Z0
  obtain ⟨_, a0, a1, a2, _⟩ := id A1
  obtain ⟨_, r0, r1, r2, r3, r4, r5⟩ := id Z1
  go_wp2_with fail
  go_at_call 35
  refine (HC.out _).mono ?_
  rintro e w2 ⟨rfl, b2⟩
  have A2 := A1.keep b2
  have B2 := bup B1 b2
  have Z2 := Z1.keep b2
  clear A1 B1 a0 a1 a2 b2 Z1 r0 r1 r2 r3 r4 r5
  obtain ⟨_, a0, a1, a2, _⟩ := id A2
  obtain ⟨_, r0, r1, r2, r3, r4, r5⟩ := id Z2
  go_wp2_with fail
  exact bodyPost_ret (v := .tuple #[.agg #[.int .i64 0, .int .i64 0, .bool false], .int .i64 c]) (by simp [results, Tryz.results9, go_sem, r0, r1, r2]) rfl ⟨rfl, by first | exact B2 | exact ((B2.setCell (Nat.le_refl _) _).setCell (Nat.le_refl _) _).setCell (Nat.le_refl _) _ | exact (((B2.setCell (p := ⟨w.heap.size, 0, none⟩) (Nat.le_refl _) _).setCell (p := ⟨w.heap.size, 1, none⟩) (Nat.le_refl _) _).setCell (p := ⟨w.heap.size, 2, none⟩) (Nat.le_refl _) _)⟩
set_option maxRecDepth 100000 in
set_option maxHeartbeats 2000000 in
theorem rate_ok (l : List UInt8) (n d : Int) (dr : Bool) (w : World)
    (HR : ∀ w, Calls Tryz.prog 34 #[.string (bs l)] w fun e w' => e = .returned (.tuple #[.agg #[.int .i64 n, .int .i64 d, .bool dr], .bool true]) ∧ Below w.heap.size w w')
    (HC : ∀ w, Calls Tryz.prog 35 #[.agg #[.int .i64 n, .int .i64 d, .bool dr]] w fun e w' => e = .returned (.int .i64 0) ∧ Below w.heap.size w w') :
    Calls Tryz.prog 9 #[.string (bs l)] w fun e w' => e = .returned (.tuple #[.agg #[.int .i64 n, .int .i64 d, .bool dr], .int .i64 0]) ∧ Below w.heap.size w w' := by
  have HR := hideR HR
  have HC := hideR HC
  go_enter Tryz.func9, Tryz.ntmps9
  go_wp2_with fail
  have Z0 := RateW.new w 0 0 false
  go_at_call 34
  refine (HR.out _).mono ?_
  rintro e w1 ⟨rfl, b1⟩
  have A1 := RateW.new w1 n d dr
  have B1 := bup (bup (bel1 w _) b1) (bel1 w1 (.cells #[.int .i64 n, .int .i64 d, .bool dr] 31))
  have Z1 := (Z0.keep b1).keep (bel1 w1 (.cells #[.int .i64 n, .int .i64 d, .bool dr] 31))
  clear b1 Z0
  obtain ⟨_, a0, a1, a2, _⟩ := id A1
  obtain ⟨_, r0, r1, r2, r3, r4, r5⟩ := id Z1
  go_wp2_with fail
  go_at_call 35
  refine (HC.out _).mono ?_
  rintro e w2 ⟨rfl, b2⟩
  have A2 := A1.keep b2
  have B2 := bup B1 b2
  have Z2 := Z1.keep b2
  clear A1 B1 a0 a1 a2 b2 Z1 r0 r1 r2 r3 r4 r5
  obtain ⟨_, a0, a1, a2, _⟩ := id A2
  obtain ⟨_, r0, r1, r2, r3, r4, r5⟩ := id Z2
  go_wp2_with fail
  exact bodyPost_ret (v := .tuple #[.agg #[.int .i64 n, .int .i64 d, .bool dr], .int .i64 0]) (by simp [results, Tryz.results9, go_sem, r0, r1, r2]) rfl ⟨rfl, by first | exact B2 | exact ((B2.setCell (Nat.le_refl _) _).setCell (Nat.le_refl _) _).setCell (Nat.le_refl _) _ | exact (((B2.setCell (p := ⟨w.heap.size, 0, none⟩) (Nat.le_refl _) _).setCell (p := ⟨w.heap.size, 1, none⟩) (Nat.le_refl _) _).setCell (p := ⟨w.heap.size, 2, none⟩) (Nat.le_refl _) _)⟩
theorem rate_any (l : List UInt8) (hl : l.length ≤ 9223372036854775807) (w : World) :
    Calls Tryz.prog 9 #[.string (bs l)] w fun e w' => e = .returned (.tuple #[.agg #[.int .i64 (rateF l).1.1, .int .i64 (rateF l).1.2.1, .bool (rateF l).1.2.2], .int .i64 (rateF l).2]) ∧ Below w.heap.size w w' := by
  have HR := readRate_any l hl
  have rb := rateA_bound l
  unfold rateF
  generalize rateA l = r at *
  obtain ⟨⟨n, d, dr⟩, ok⟩ := r
  simp only at HR rb ⊢
  cases ok
  · rw [if_neg (by simp)]
    exact rate_no l n d dr w HR
  · rw [if_pos rfl]
    have HC := check_any n d dr rb.1 rb.2
    by_cases c : checkI n d dr = 0
    · rw [if_pos c]
      rw [c] at HC
      exact rate_ok l n d dr w HR HC
    · rw [if_neg c]
      rw [(check_two n d dr).resolve_left c] at HC
      exact rate_bad l n d 14 dr rfl w HR HC
end Go.Proofs.YtaipdckakgohjaaGreatDoor

/- surtitleref5.Rate. -/
namespace Go.Proofs.YtaipdckakgohjaaGreatDoor
open Go.RowKit Go.Shelf
attribute [local go_sem] Oper.semAt_some

/-- A reader and a rate in memory. -/
def RS (V : World) (B A : Nat) (l : List UInt8) (k : Nat) (b : Bool) (n d : Int) (dr : Bool) : Prop := RdAt V B l k b ∧ RateAt V A n d dr ∧ V.frozen? ⟨A, 1, none⟩ = false ∧ V.frozen? ⟨A, 2, none⟩ = false ∧ B < A
theorem RS.new {w : World} {B : Nat} {l : List UInt8} {k : Nat} {b : Bool} (h : RdAt w B l k b) (n d : Int) (dr : Bool) : RS (w.alloc (.cells #[.int .i64 n, .int .i64 d, .bool dr] 31)) B w.heap.size l k b n d dr :=
  ⟨h.keep (bel1 w _), RateAt.new w n d dr, by go_simp, by go_simp, h.1⟩
theorem RS.drewN {V : World} {B A : Nat} {l : List UInt8} {k : Nat} {b : Bool} {n d : Int} {dr : Bool} (h : RS V B A l k b n d dr) (m : Nat) : RS (V.drewN m) B A l k b n d dr :=
  ⟨h.1.drewN m, h.2.1.keep (below_drewN (Below.refl _ _) m), h.2.2.1, h.2.2.2.1, h.2.2.2.2⟩
theorem RateW.but {M : Nat → Prop} {V U : World} {B : Nat} {n d : Int} {dr : Bool} (h : RateW V B n d dr) (u : But M V U) (hM : ¬ M B) : RateW U B n d dr :=
  have e := u.same B h.1 hM
  ⟨Nat.lt_of_lt_of_le h.1 u.size, (World.cell?_of_block (a := ⟨B, 0, none⟩) e).trans h.2.1, (World.cell?_of_block (a := ⟨B, 1, none⟩) e).trans h.2.2.1, (World.cell?_of_block (a := ⟨B, 2, none⟩) e).trans h.2.2.2.1, (frozE e).trans h.2.2.2.2.1, (frozE e).trans h.2.2.2.2.2.1, (frozE e).trans h.2.2.2.2.2.2⟩
theorem RateW.other {V : World} {B A i : Nat} {n d : Int} {dr : Bool} (h : RateW V B n d dr) (v : Value) (hA : B ≠ A) : RateW (V.setCell ⟨A, i, none⟩ v) B n d dr :=
  have e : (V.setCell ⟨A, i, none⟩ v).heap[B]? = V.heap[B]? := Below.heap_setCell _ _ _ _ (by show B ≠ A; exact hA)
  ⟨by rw [World.size_setCell]; exact h.1, (World.cell?_of_block (a := ⟨B, 0, none⟩) e).trans h.2.1, (World.cell?_of_block (a := ⟨B, 1, none⟩) e).trans h.2.2.1, (World.cell?_of_block (a := ⟨B, 2, none⟩) e).trans h.2.2.2.1, (frozE e).trans h.2.2.2.2.1, (frozE e).trans h.2.2.2.2.2.1, (frozE e).trans h.2.2.2.2.2.2⟩
theorem cellOf {V U : World} {A i : Nat} {v : Value} (h : V.cell? ⟨A, i, none⟩ = some v) (e : U.heap[A]? = V.heap[A]?) : U.cell? ⟨A, i, none⟩ = some v := (World.cell?_of_block (a := ⟨A, i, none⟩) e).trans h
theorem frozOf {V U : World} {A i : Nat} {v : Bool} (h : V.frozen? ⟨A, i, none⟩ = v) (e : U.heap[A]? = V.heap[A]?) : U.frozen? ⟨A, i, none⟩ = v := by
  unfold World.frozen? at h ⊢
  rw [e]
  exact h
theorem RateAt.of {V U : World} {A : Nat} {n d : Int} {dr : Bool} (h : RateAt V A n d dr) (s : V.heap.size ≤ U.heap.size) (e : U.heap[A]? = V.heap[A]?) : RateAt U A n d dr :=
  ⟨Nat.lt_of_lt_of_le h.1 s, cellOf h.2.1 e, cellOf h.2.2.1 e, cellOf h.2.2.2 e⟩
theorem RdAt.of {V U : World} {B : Nat} {l : List UInt8} {k : Nat} {b : Bool} (h : RdAt V B l k b) (s : V.heap.size ≤ U.heap.size) (e : U.heap[B]? = V.heap[B]?) : RdAt U B l k b :=
  ⟨Nat.lt_of_lt_of_le h.1 s, cellOf h.2.1 e, cellOf h.2.2.1 e, cellOf h.2.2.2.1 e, frozOf h.2.2.2.2.1 e, frozOf h.2.2.2.2.2 e⟩
theorem RS.call {V U : World} {B A : Nat} {l : List UInt8} {k k2 : Nat} {b b2 : Bool} {n d : Int} {dr : Bool} (h : RS V B A l k b n d dr) (r : RdAt U B l k2 b2) (u : But (fun x => x = B) V U) : RS U B A l k2 b2 n d dr :=
  have e : U.heap[A]? = V.heap[A]? := u.same A h.2.1.1 (by have := h.2.2.2.2; omega)
  ⟨r, h.2.1.of u.size e, frozOf h.2.2.1 e, frozOf h.2.2.2.1 e, h.2.2.2.2⟩
theorem setOther (V : World) {A B i : Nat} (v : Value) (h : A ≠ B) : (V.setCell ⟨B, i, none⟩ v).heap[A]? = V.heap[A]? := Below.heap_setCell _ _ _ _ (by show A ≠ B; exact h)
theorem RS.step {V : World} {B A : Nat} {l : List UInt8} {k : Nat} {b : Bool} {n d : Int} {dr : Bool} (h : RS V B A l k b n d dr) : RS (V.setCell ⟨B, 1, none⟩ (.int .i64 ((k : Int) + 1))) B A l (k + 1) b n d dr :=
  have e := setOther V (i := 1) (.int .i64 ((k : Int) + 1)) (show A ≠ B by have := h.2.2.2.2; omega)
  ⟨h.1.step, h.2.1.of (by rw [World.size_setCell]; exact Nat.le_refl _) e, frozOf h.2.2.1 e, frozOf h.2.2.2.1 e, h.2.2.2.2⟩
theorem RdAt.mark {V : World} {B : Nat} {l : List UInt8} {k : Nat} {b : Bool} (h : RdAt V B l k b) (c : Bool) : RdAt (V.setCell ⟨B, 2, none⟩ (.bool c)) B l k c := by
  obtain ⟨h0, c0, c1, c2, f1, f2⟩ := h
  exact ⟨by simpa using h0, by go_simp, by go_simp, by go_simp, by go_simp, by go_simp⟩
theorem RS.bad {V : World} {B A : Nat} {l : List UInt8} {k : Nat} {b : Bool} {n d : Int} {dr : Bool} (h : RS V B A l k b n d dr) (c : Bool) : RS (V.setCell ⟨B, 2, none⟩ (.bool c)) B A l k c n d dr :=
  have e := setOther V (i := 2) (.bool c) (show A ≠ B by have := h.2.2.2.2; omega)
  ⟨h.1.mark c, h.2.1.of (by rw [World.size_setCell]; exact Nat.le_refl _) e, frozOf h.2.2.1 e, frozOf h.2.2.2.1 e, h.2.2.2.2⟩
theorem RS.den {V : World} {B A : Nat} {l : List UInt8} {k : Nat} {b : Bool} {n d : Int} {dr : Bool} (h : RS V B A l k b n d dr) (d2 : Int) : RS (V.setCell ⟨A, 1, none⟩ (.int .i64 d2)) B A l k b n d2 dr := by
  have e := setOther V (i := 1) (.int .i64 d2) (show B ≠ A by have := h.2.2.2.2; omega)
  obtain ⟨h1, ⟨z, a0, a1, a2⟩, f1, f2, hl⟩ := h
  exact ⟨h1.of (by rw [World.size_setCell]; exact Nat.le_refl _) e, ⟨by simpa using z, by go_simp, by go_simp, by go_simp⟩, by go_simp, by go_simp, hl⟩
theorem RS.drop {V : World} {B A : Nat} {l : List UInt8} {k : Nat} {b : Bool} {n d : Int} {dr : Bool} (h : RS V B A l k b n d dr) (c : Bool) : RS (V.setCell ⟨A, 2, none⟩ (.bool c)) B A l k b n d c := by
  have e := setOther V (i := 2) (.bool c) (show B ≠ A by have := h.2.2.2.2; omega)
  obtain ⟨h1, ⟨z, a0, a1, a2⟩, f1, f2, hl⟩ := h
  exact ⟨h1.of (by rw [World.size_setCell]; exact Nat.le_refl _) e, ⟨by simpa using z, by go_simp, by go_simp, by go_simp⟩, by go_simp, by go_simp, hl⟩
set_option maxRecDepth 100000 in
set_option maxHeartbeats 2000000 in
theorem rrate_A (l : List UInt8) (n : Int) (k1 : Nat) (hlb : l.length ≤ 9223372036854775807) (w : World)
    (H1 : ∀ B w, RdAt w B l 0 false → Calls Tryz.prog 36 #[.pointer (some ⟨B, 0, none⟩)] w fun e w' => e = .returned (.int .i64 n) ∧ RdAt w' B l k1 true ∧ But (fun x => x = B) w w') :
    Calls Tryz.prog 10 #[.string (bs l)] w fun e w' => e = .returned (.tuple #[.agg #[.int .i64 0, .int .i64 0, .bool false], .int .i64 13]) ∧ Below w.heap.size w w' := by
  have H1 := hideR H1
  have hsz := bs_size l
  have zl : ((bs l).size : Int) ≤ 9223372036854775807 := by omega
  go_enter Tryz.func10, Tryz.ntmps10
  go_wp2_with fail
  have Z0 := (RateW.new w 0 0 false).keep (bel1 _ (.cells #[.string (bs l), .int .i64 0, .bool false] 66))
  have X0 := (RdAt.new (w.alloc (.cells #[.int .i64 0, .int .i64 0, .bool false] 31)) l).at (B2 := w.heap.size + 1) (by simp)
  have B0 := bel2 w (.cells #[.int .i64 0, .int .i64 0, .bool false] 31) (.cells #[.string (bs l), .int .i64 0, .bool false] 66)
  have hAX : w.heap.size < w.heap.size + 1 := Nat.lt_succ_self _
  have hXX := X0.1
  go_at_call 36
  refine (H1.out _ _ X0).mono ?_
  rintro e w1 ⟨rfl, X1, u1⟩
  have s1 := u1.size
  have Z1 := Z0.but u1 (by omega)
  have B01 := B0.trans (u1.below (m := w.heap.size) (by omega) (fun x e => by omega))
  clear X0 B0 Z0 u1
  generalize w.heap.size + 1 = X at *
  have hWX : w.heap.size < w1.heap.size := by have := X1.1; omega
  have S0 := RS.new X1 n 1 false
  have B0 : Below w.heap.size w (w1.alloc (.cells #[.int .i64 n, .int .i64 1, .bool false] 31)) := bup B01 (bel1 w1 _)
  have Z0 := Z1.keep (bel1 w1 (.cells #[.int .i64 n, .int .i64 1, .bool false] 31))
  clear X1 B01 s1 Z1
  go_upto_region 3 with fail
  have S1 := S0
  have B1 := B0
  have Z1 := Z0
  clear S0 B0 Z0
  generalize w1.alloc (.cells #[.int .i64 n, .int .i64 1, .bool false] 31) = V1 at *
  obtain ⟨⟨_, x0, x1, x2, x3, x4⟩, ⟨_, a0, a1, a2⟩, f1, f2, _⟩ := id S1
  obtain ⟨_, r0, r1, r2, r3, r4, r5⟩ := id Z1
  generalize w1.heap.size = A at *
  go_upto_region 11 with fail
  go_wp2_with fail
  exact bodyPost_ret (v := .tuple #[.agg #[.int .i64 0, .int .i64 0, .bool false], .int .i64 13]) (by simp [results, Tryz.results10, go_sem, r0, r1, r2]) rfl ⟨rfl, ((B1.setCell (p := ⟨w.heap.size, 0, none⟩) (Nat.le_refl _) _).setCell (p := ⟨w.heap.size, 1, none⟩) (Nat.le_refl _) _).setCell (p := ⟨w.heap.size, 2, none⟩) (Nat.le_refl _) _⟩
set_option maxRecDepth 100000 in
set_option maxHeartbeats 2000000 in
theorem rrate_B (l : List UInt8) (n : Int) (k1 : Nat) (hlb : l.length ≤ 9223372036854775807) (hk1 : k1 < (bs l).size) (h47 : (bs l)[k1] = 47) (d : Int) (k2 : Nat) (w : World)
    (H1 : ∀ B w, RdAt w B l 0 false → Calls Tryz.prog 36 #[.pointer (some ⟨B, 0, none⟩)] w fun e w' => e = .returned (.int .i64 n) ∧ RdAt w' B l k1 false ∧ But (fun x => x = B) w w')
    (H2 : ∀ B w, RdAt w B l (k1 + 1) false → Calls Tryz.prog 36 #[.pointer (some ⟨B, 0, none⟩)] w fun e w' => e = .returned (.int .i64 d) ∧ RdAt w' B l k2 true ∧ But (fun x => x = B) w w') :
    Calls Tryz.prog 10 #[.string (bs l)] w fun e w' => e = .returned (.tuple #[.agg #[.int .i64 0, .int .i64 0, .bool false], .int .i64 13]) ∧ Below w.heap.size w w' := by
  have H1 := hideR H1
  have H2 := hideR H2
  have hsz := bs_size l
  have zl : ((bs l).size : Int) ≤ 9223372036854775807 := by omega
  have zk1 : (k1 : Int) < (l.length : Int) := by omega
  have yk1 : (k1 : Int) < ((bs l).size : Int) := by omega
  have tk1 : k1 < (bs l).size := by omega
  have n47 : (((bs l)[k1].toNat : Int) == 47) = true := by rw [h47]; rfl
  have m47 : (bs l)[k1].toNat = 47 := by rw [h47]; rfl
  go_enter Tryz.func10, Tryz.ntmps10
  go_wp2_with fail
  have Z0 := (RateW.new w 0 0 false).keep (bel1 _ (.cells #[.string (bs l), .int .i64 0, .bool false] 66))
  have X0 := (RdAt.new (w.alloc (.cells #[.int .i64 0, .int .i64 0, .bool false] 31)) l).at (B2 := w.heap.size + 1) (by simp)
  have B0 := bel2 w (.cells #[.int .i64 0, .int .i64 0, .bool false] 31) (.cells #[.string (bs l), .int .i64 0, .bool false] 66)
  have hAX : w.heap.size < w.heap.size + 1 := Nat.lt_succ_self _
  have hXX := X0.1
  go_at_call 36
  refine (H1.out _ _ X0).mono ?_
  rintro e w1 ⟨rfl, X1, u1⟩
  have s1 := u1.size
  have Z1 := Z0.but u1 (by omega)
  have B01 := B0.trans (u1.below (m := w.heap.size) (by omega) (fun x e => by omega))
  clear X0 B0 Z0 u1
  generalize w.heap.size + 1 = X at *
  have hWX : w.heap.size < w1.heap.size := by have := X1.1; omega
  have S0 := RS.new X1 n 1 false
  have B0 : Below w.heap.size w (w1.alloc (.cells #[.int .i64 n, .int .i64 1, .bool false] 31)) := bup B01 (bel1 w1 _)
  have Z0 := Z1.keep (bel1 w1 (.cells #[.int .i64 n, .int .i64 1, .bool false] 31))
  clear X1 B01 s1 Z1
  go_upto_region 3 with fail
  have S1 := S0
  have B1 := B0
  have Z1 := Z0
  clear S0 B0 Z0
  generalize w1.alloc (.cells #[.int .i64 n, .int .i64 1, .bool false] 31) = V1 at *
  obtain ⟨⟨_, x0, x1, x2, x3, x4⟩, ⟨_, a0, a1, a2⟩, f1, f2, _⟩ := id S1
  obtain ⟨_, r0, r1, r2, r3, r4, r5⟩ := id Z1
  generalize w1.heap.size = A at *
  go_upto_region 4 with fail
  go_upto_region 5 with fail
  have S2 := S1.step
  have B2 := B1.setCell (p := ⟨X, 1, none⟩) (Nat.le_of_lt hAX) (.int .i64 ((k1 : Int) + 1))
  have Z2 := Z1.other (A := X) (i := 1) (.int .i64 ((k1 : Int) + 1)) (by omega)
  clear S1 B1 Z1 x0 x1 x2 x3 x4 a0 a1 a2 f1 f2 r0 r1 r2 r3 r4 r5
  generalize V1.setCell ⟨X, 1, none⟩ (.int .i64 ((k1 : Int) + 1)) = V2 at *
  obtain ⟨⟨_, x0, x1, x2, x3, x4⟩, ⟨_, a0, a1, a2⟩, f1, f2, _⟩ := id S2
  obtain ⟨_, r0, r1, r2, r3, r4, r5⟩ := id Z2
  go_wp2_with fail
  go_at_call 36
  refine (H2.out _ _ S2.1).mono ?_
  rintro e V3 ⟨rfl, X3, u3⟩
  have S3 := S2.call X3 u3
  have B3 := B2.trans (u3.below (by exact B2.size) (fun x e => by omega))
  have Z3 := Z2.but u3 (by omega)
  clear S2 B2 Z2 X3 u3 x0 x1 x2 x3 x4 a0 a1 a2 f1 f2 r0 r1 r2 r3 r4 r5
  obtain ⟨⟨_, x0, x1, x2, x3, x4⟩, ⟨_, a0, a1, a2⟩, f1, f2, _⟩ := id S3
  obtain ⟨_, r0, r1, r2, r3, r4, r5⟩ := id Z3
  go_upto_region 6 with fail
  have S4 := S3.den d
  have B4 := B3.setCell (p := ⟨A, 1, none⟩) (Nat.le_of_lt hWX) (.int .i64 d)
  have Z4 := Z3.other (A := A) (i := 1) (.int .i64 d) (by omega)
  clear S3 B3 Z3 x0 x1 x2 x3 x4 a0 a1 a2 f1 f2 r0 r1 r2 r3 r4 r5
  generalize V3.setCell ⟨A, 1, none⟩ (.int .i64 d) = V4 at *
  obtain ⟨⟨_, x0, x1, x2, x3, x4⟩, ⟨_, a0, a1, a2⟩, f1, f2, _⟩ := id S4
  obtain ⟨_, r0, r1, r2, r3, r4, r5⟩ := id Z4
  go_upto_region 7 with fail
  have S5 := S4.bad true
  have B5 := B4.setCell (p := ⟨X, 2, none⟩) (Nat.le_of_lt hAX) (.bool true)
  have Z5 := Z4.other (A := X) (i := 2) (.bool true) (by omega)
  clear S4 B4 Z4 x0 x1 x2 x3 x4 a0 a1 a2 f1 f2 r0 r1 r2 r3 r4 r5
  generalize V4.setCell ⟨X, 2, none⟩ (.bool true) = V5 at *
  obtain ⟨⟨_, x0, x1, x2, x3, x4⟩, ⟨_, a0, a1, a2⟩, f1, f2, _⟩ := id S5
  obtain ⟨_, r0, r1, r2, r3, r4, r5⟩ := id Z5
  go_upto_region 11 with fail
  go_wp2_with fail
  exact bodyPost_ret (v := .tuple #[.agg #[.int .i64 0, .int .i64 0, .bool false], .int .i64 13]) (by simp [results, Tryz.results10, go_sem, r0, r1, r2]) rfl ⟨rfl, ((B5.setCell (p := ⟨w.heap.size, 0, none⟩) (Nat.le_refl _) _).setCell (p := ⟨w.heap.size, 1, none⟩) (Nat.le_refl _) _).setCell (p := ⟨w.heap.size, 2, none⟩) (Nat.le_refl _) _⟩
set_option maxRecDepth 100000 in
set_option maxHeartbeats 2000000 in
theorem rrate_C (l : List UInt8) (n : Int) (k1 : Nat) (hlb : l.length ≤ 9223372036854775807) (hk1 : k1 < (bs l).size) (h47 : (bs l)[k1] = 47) (d : Int) (k2 : Nat) (hd : (d == 1) = true) (w : World)
    (H1 : ∀ B w, RdAt w B l 0 false → Calls Tryz.prog 36 #[.pointer (some ⟨B, 0, none⟩)] w fun e w' => e = .returned (.int .i64 n) ∧ RdAt w' B l k1 false ∧ But (fun x => x = B) w w')
    (H2 : ∀ B w, RdAt w B l (k1 + 1) false → Calls Tryz.prog 36 #[.pointer (some ⟨B, 0, none⟩)] w fun e w' => e = .returned (.int .i64 d) ∧ RdAt w' B l k2 false ∧ But (fun x => x = B) w w') :
    Calls Tryz.prog 10 #[.string (bs l)] w fun e w' => e = .returned (.tuple #[.agg #[.int .i64 0, .int .i64 0, .bool false], .int .i64 13]) ∧ Below w.heap.size w w' := by
  have H1 := hideR H1
  have H2 := hideR H2
  have hsz := bs_size l
  have zl : ((bs l).size : Int) ≤ 9223372036854775807 := by omega
  have zk1 : (k1 : Int) < (l.length : Int) := by omega
  have yk1 : (k1 : Int) < ((bs l).size : Int) := by omega
  have tk1 : k1 < (bs l).size := by omega
  have n47 : (((bs l)[k1].toNat : Int) == 47) = true := by rw [h47]; rfl
  have m47 : (bs l)[k1].toNat = 47 := by rw [h47]; rfl
  go_enter Tryz.func10, Tryz.ntmps10
  go_wp2_with fail
  have Z0 := (RateW.new w 0 0 false).keep (bel1 _ (.cells #[.string (bs l), .int .i64 0, .bool false] 66))
  have X0 := (RdAt.new (w.alloc (.cells #[.int .i64 0, .int .i64 0, .bool false] 31)) l).at (B2 := w.heap.size + 1) (by simp)
  have B0 := bel2 w (.cells #[.int .i64 0, .int .i64 0, .bool false] 31) (.cells #[.string (bs l), .int .i64 0, .bool false] 66)
  have hAX : w.heap.size < w.heap.size + 1 := Nat.lt_succ_self _
  have hXX := X0.1
  go_at_call 36
  refine (H1.out _ _ X0).mono ?_
  rintro e w1 ⟨rfl, X1, u1⟩
  have s1 := u1.size
  have Z1 := Z0.but u1 (by omega)
  have B01 := B0.trans (u1.below (m := w.heap.size) (by omega) (fun x e => by omega))
  clear X0 B0 Z0 u1
  generalize w.heap.size + 1 = X at *
  have hWX : w.heap.size < w1.heap.size := by have := X1.1; omega
  have S0 := RS.new X1 n 1 false
  have B0 : Below w.heap.size w (w1.alloc (.cells #[.int .i64 n, .int .i64 1, .bool false] 31)) := bup B01 (bel1 w1 _)
  have Z0 := Z1.keep (bel1 w1 (.cells #[.int .i64 n, .int .i64 1, .bool false] 31))
  clear X1 B01 s1 Z1
  go_upto_region 3 with fail
  have S1 := S0
  have B1 := B0
  have Z1 := Z0
  clear S0 B0 Z0
  generalize w1.alloc (.cells #[.int .i64 n, .int .i64 1, .bool false] 31) = V1 at *
  obtain ⟨⟨_, x0, x1, x2, x3, x4⟩, ⟨_, a0, a1, a2⟩, f1, f2, _⟩ := id S1
  obtain ⟨_, r0, r1, r2, r3, r4, r5⟩ := id Z1
  generalize w1.heap.size = A at *
  go_upto_region 4 with fail
  go_upto_region 5 with fail
  have S2 := S1.step
  have B2 := B1.setCell (p := ⟨X, 1, none⟩) (Nat.le_of_lt hAX) (.int .i64 ((k1 : Int) + 1))
  have Z2 := Z1.other (A := X) (i := 1) (.int .i64 ((k1 : Int) + 1)) (by omega)
  clear S1 B1 Z1 x0 x1 x2 x3 x4 a0 a1 a2 f1 f2 r0 r1 r2 r3 r4 r5
  generalize V1.setCell ⟨X, 1, none⟩ (.int .i64 ((k1 : Int) + 1)) = V2 at *
  obtain ⟨⟨_, x0, x1, x2, x3, x4⟩, ⟨_, a0, a1, a2⟩, f1, f2, _⟩ := id S2
  obtain ⟨_, r0, r1, r2, r3, r4, r5⟩ := id Z2
  go_wp2_with fail
  go_at_call 36
  refine (H2.out _ _ S2.1).mono ?_
  rintro e V3 ⟨rfl, X3, u3⟩
  have S3 := S2.call X3 u3
  have B3 := B2.trans (u3.below (by exact B2.size) (fun x e => by omega))
  have Z3 := Z2.but u3 (by omega)
  clear S2 B2 Z2 X3 u3 x0 x1 x2 x3 x4 a0 a1 a2 f1 f2 r0 r1 r2 r3 r4 r5
  obtain ⟨⟨_, x0, x1, x2, x3, x4⟩, ⟨_, a0, a1, a2⟩, f1, f2, _⟩ := id S3
  obtain ⟨_, r0, r1, r2, r3, r4, r5⟩ := id Z3
  go_upto_region 6 with fail
  have S4 := S3.den d
  have B4 := B3.setCell (p := ⟨A, 1, none⟩) (Nat.le_of_lt hWX) (.int .i64 d)
  have Z4 := Z3.other (A := A) (i := 1) (.int .i64 d) (by omega)
  clear S3 B3 Z3 x0 x1 x2 x3 x4 a0 a1 a2 f1 f2 r0 r1 r2 r3 r4 r5
  generalize V3.setCell ⟨A, 1, none⟩ (.int .i64 d) = V4 at *
  obtain ⟨⟨_, x0, x1, x2, x3, x4⟩, ⟨_, a0, a1, a2⟩, f1, f2, _⟩ := id S4
  obtain ⟨_, r0, r1, r2, r3, r4, r5⟩ := id Z4
  go_upto_region 7 with fail
  have S5 := S4.bad true
  have B5 := B4.setCell (p := ⟨X, 2, none⟩) (Nat.le_of_lt hAX) (.bool true)
  have Z5 := Z4.other (A := X) (i := 2) (.bool true) (by omega)
  clear S4 B4 Z4 x0 x1 x2 x3 x4 a0 a1 a2 f1 f2 r0 r1 r2 r3 r4 r5
  generalize V4.setCell ⟨X, 2, none⟩ (.bool true) = V5 at *
  obtain ⟨⟨_, x0, x1, x2, x3, x4⟩, ⟨_, a0, a1, a2⟩, f1, f2, _⟩ := id S5
  obtain ⟨_, r0, r1, r2, r3, r4, r5⟩ := id Z5
  go_upto_region 11 with fail
  go_wp2_with fail
  exact bodyPost_ret (v := .tuple #[.agg #[.int .i64 0, .int .i64 0, .bool false], .int .i64 13]) (by simp [results, Tryz.results10, go_sem, r0, r1, r2]) rfl ⟨rfl, ((B5.setCell (p := ⟨w.heap.size, 0, none⟩) (Nat.le_refl _) _).setCell (p := ⟨w.heap.size, 1, none⟩) (Nat.le_refl _) _).setCell (p := ⟨w.heap.size, 2, none⟩) (Nat.le_refl _) _⟩
set_option maxRecDepth 100000 in
set_option maxHeartbeats 2000000 in
theorem rrate_NEb (l : List UInt8) (n : Int) (k1 : Nat) (hlb : l.length ≤ 9223372036854775807) (hk : k1 = l.length) (c : Int) (hc : (c != 0) = true) (w : World)
    (H1 : ∀ B w, RdAt w B l 0 false → Calls Tryz.prog 36 #[.pointer (some ⟨B, 0, none⟩)] w fun e w' => e = .returned (.int .i64 n) ∧ RdAt w' B l k1 false ∧ But (fun x => x = B) w w')
    (HC : ∀ w, Calls Tryz.prog 20 #[.agg #[.int .i64 n, .int .i64 1, .bool false]] w fun e w' => e = .returned (.int .i64 c) ∧ Below w.heap.size w w') :
    Calls Tryz.prog 10 #[.string (bs l)] w fun e w' => e = .returned (.tuple #[.agg #[.int .i64 0, .int .i64 0, .bool false], .int .i64 14]) ∧ Below w.heap.size w w' := by
  have H1 := hideR H1
  have HC := hideR HC
  have hsz := bs_size l
  have zl : ((bs l).size : Int) ≤ 9223372036854775807 := by omega
  subst hk
  have zE : ¬ (l.length : Int) < (l.length : Int) := by omega
  go_enter Tryz.func10, Tryz.ntmps10
  go_wp2_with fail
  have Z0 := (RateW.new w 0 0 false).keep (bel1 _ (.cells #[.string (bs l), .int .i64 0, .bool false] 66))
  have X0 := (RdAt.new (w.alloc (.cells #[.int .i64 0, .int .i64 0, .bool false] 31)) l).at (B2 := w.heap.size + 1) (by simp)
  have B0 := bel2 w (.cells #[.int .i64 0, .int .i64 0, .bool false] 31) (.cells #[.string (bs l), .int .i64 0, .bool false] 66)
  have hAX : w.heap.size < w.heap.size + 1 := Nat.lt_succ_self _
  have hXX := X0.1
  go_at_call 36
  refine (H1.out _ _ X0).mono ?_
  rintro e w1 ⟨rfl, X1, u1⟩
  have s1 := u1.size
  have Z1 := Z0.but u1 (by omega)
  have B01 := B0.trans (u1.below (m := w.heap.size) (by omega) (fun x e => by omega))
  clear X0 B0 Z0 u1
  generalize w.heap.size + 1 = X at *
  have hWX : w.heap.size < w1.heap.size := by have := X1.1; omega
  have S0 := RS.new X1 n 1 false
  have B0 : Below w.heap.size w (w1.alloc (.cells #[.int .i64 n, .int .i64 1, .bool false] 31)) := bup B01 (bel1 w1 _)
  have Z0 := Z1.keep (bel1 w1 (.cells #[.int .i64 n, .int .i64 1, .bool false] 31))
  clear X1 B01 s1 Z1
  go_upto_region 3 with fail
  have S1 := S0
  have B1 := B0
  have Z1 := Z0
  clear S0 B0 Z0
  generalize w1.alloc (.cells #[.int .i64 n, .int .i64 1, .bool false] 31) = V1 at *
  obtain ⟨⟨_, x0, x1, x2, x3, x4⟩, ⟨_, a0, a1, a2⟩, f1, f2, _⟩ := id S1
  obtain ⟨_, r0, r1, r2, r3, r4, r5⟩ := id Z1
  generalize w1.heap.size = A at *
  go_wp2_with fail
  go_at_call 20
  refine (HC.out _).mono ?_
  rintro e V2 ⟨rfl, c2⟩
  have A2 := S1.2.1.keep c2
  have B2 := bup B1 c2
  have Z2 := Z1.keep c2
  clear S1 B1 Z1 c2 x0 x1 x2 x3 x4 a0 a1 a2 f1 f2 r0 r1 r2 r3 r4 r5
  obtain ⟨_, a0, a1, a2⟩ := id A2
  obtain ⟨_, r0, r1, r2, r3, r4, r5⟩ := id Z2
  go_wp2_with fail
  exact bodyPost_ret (v := .tuple #[.agg #[.int .i64 0, .int .i64 0, .bool false], .int .i64 14]) (by simp [results, Tryz.results10, go_sem, r0, r1, r2]) rfl ⟨rfl, ((B2.setCell (p := ⟨w.heap.size, 0, none⟩) (Nat.le_refl _) _).setCell (p := ⟨w.heap.size, 1, none⟩) (Nat.le_refl _) _).setCell (p := ⟨w.heap.size, 2, none⟩) (Nat.le_refl _) _⟩
set_option maxRecDepth 100000 in
set_option maxHeartbeats 2000000 in
theorem rrate_NEk (l : List UInt8) (n : Int) (k1 : Nat) (hlb : l.length ≤ 9223372036854775807) (hk : k1 = l.length) (w : World)
    (H1 : ∀ B w, RdAt w B l 0 false → Calls Tryz.prog 36 #[.pointer (some ⟨B, 0, none⟩)] w fun e w' => e = .returned (.int .i64 n) ∧ RdAt w' B l k1 false ∧ But (fun x => x = B) w w')
    (HC : ∀ w, Calls Tryz.prog 20 #[.agg #[.int .i64 n, .int .i64 1, .bool false]] w fun e w' => e = .returned (.int .i64 0) ∧ Below w.heap.size w w') :
    Calls Tryz.prog 10 #[.string (bs l)] w fun e w' => e = .returned (.tuple #[.agg #[.int .i64 n, .int .i64 1, .bool false], .int .i64 0]) ∧ Below w.heap.size w w' := by
  have H1 := hideR H1
  have HC := hideR HC
  have hsz := bs_size l
  have zl : ((bs l).size : Int) ≤ 9223372036854775807 := by omega
  subst hk
  have zE : ¬ (l.length : Int) < (l.length : Int) := by omega
  go_enter Tryz.func10, Tryz.ntmps10
  go_wp2_with fail
  have Z0 := (RateW.new w 0 0 false).keep (bel1 _ (.cells #[.string (bs l), .int .i64 0, .bool false] 66))
  have X0 := (RdAt.new (w.alloc (.cells #[.int .i64 0, .int .i64 0, .bool false] 31)) l).at (B2 := w.heap.size + 1) (by simp)
  have B0 := bel2 w (.cells #[.int .i64 0, .int .i64 0, .bool false] 31) (.cells #[.string (bs l), .int .i64 0, .bool false] 66)
  have hAX : w.heap.size < w.heap.size + 1 := Nat.lt_succ_self _
  have hXX := X0.1
  go_at_call 36
  refine (H1.out _ _ X0).mono ?_
  rintro e w1 ⟨rfl, X1, u1⟩
  have s1 := u1.size
  have Z1 := Z0.but u1 (by omega)
  have B01 := B0.trans (u1.below (m := w.heap.size) (by omega) (fun x e => by omega))
  clear X0 B0 Z0 u1
  generalize w.heap.size + 1 = X at *
  have hWX : w.heap.size < w1.heap.size := by have := X1.1; omega
  have S0 := RS.new X1 n 1 false
  have B0 : Below w.heap.size w (w1.alloc (.cells #[.int .i64 n, .int .i64 1, .bool false] 31)) := bup B01 (bel1 w1 _)
  have Z0 := Z1.keep (bel1 w1 (.cells #[.int .i64 n, .int .i64 1, .bool false] 31))
  clear X1 B01 s1 Z1
  go_upto_region 3 with fail
  have S1 := S0
  have B1 := B0
  have Z1 := Z0
  clear S0 B0 Z0
  generalize w1.alloc (.cells #[.int .i64 n, .int .i64 1, .bool false] 31) = V1 at *
  obtain ⟨⟨_, x0, x1, x2, x3, x4⟩, ⟨_, a0, a1, a2⟩, f1, f2, _⟩ := id S1
  obtain ⟨_, r0, r1, r2, r3, r4, r5⟩ := id Z1
  generalize w1.heap.size = A at *
  go_wp2_with fail
  go_at_call 20
  refine (HC.out _).mono ?_
  rintro e V2 ⟨rfl, c2⟩
  have A2 := S1.2.1.keep c2
  have B2 := bup B1 c2
  have Z2 := Z1.keep c2
  clear S1 B1 Z1 c2 x0 x1 x2 x3 x4 a0 a1 a2 f1 f2 r0 r1 r2 r3 r4 r5
  obtain ⟨_, a0, a1, a2⟩ := id A2
  obtain ⟨_, r0, r1, r2, r3, r4, r5⟩ := id Z2
  go_wp2_with fail
  exact bodyPost_ret (v := .tuple #[.agg #[.int .i64 n, .int .i64 1, .bool false], .int .i64 0]) (by simp [results, Tryz.results10, go_sem, r0, r1, r2]) rfl ⟨rfl, ((B2.setCell (p := ⟨w.heap.size, 0, none⟩) (Nat.le_refl _) _).setCell (p := ⟨w.heap.size, 1, none⟩) (Nat.le_refl _) _).setCell (p := ⟨w.heap.size, 2, none⟩) (Nat.le_refl _) _⟩
set_option maxRecDepth 100000 in
set_option maxHeartbeats 2000000 in
theorem rrate_NDb (l : List UInt8) (n : Int) (k1 : Nat) (hlb : l.length ≤ 9223372036854775807) (hbk1 : k1 < (bs l).size) (h47 : ¬ (bs l)[k1] = 47) (h100 : (bs l)[k1] = 100) (hE : ((k1 : Int) + 1 != (l.length : Int)) = false) (c : Int) (hc : (c != 0) = true) (w : World)
    (H1 : ∀ B w, RdAt w B l 0 false → Calls Tryz.prog 36 #[.pointer (some ⟨B, 0, none⟩)] w fun e w' => e = .returned (.int .i64 n) ∧ RdAt w' B l k1 false ∧ But (fun x => x = B) w w')
    (HC : ∀ w, Calls Tryz.prog 20 #[.agg #[.int .i64 n, .int .i64 1, .bool true]] w fun e w' => e = .returned (.int .i64 c) ∧ Below w.heap.size w w') :
    Calls Tryz.prog 10 #[.string (bs l)] w fun e w' => e = .returned (.tuple #[.agg #[.int .i64 0, .int .i64 0, .bool false], .int .i64 14]) ∧ Below w.heap.size w w' := by
  have H1 := hideR H1
  have HC := hideR HC
  have hsz := bs_size l
  have zl : ((bs l).size : Int) ≤ 9223372036854775807 := by omega
  have zk1 : (k1 : Int) < (l.length : Int) := by omega
  have yk1 : (k1 : Int) < ((bs l).size : Int) := by omega
  have tk1 : k1 < (bs l).size := by omega
  have m47 : ¬ (bs l)[k1].toNat = 47 := fun x => h47 (UInt8.toNat_inj.1 x)
  have n47 : (((bs l)[k1].toNat : Int) == 47) = false := by
    rw [beq_eq_false_iff_ne]
    omega
  have n100 : (((bs l)[k1].toNat : Int) == 100) = true := by rw [h100]; rfl
  have m100 : (bs l)[k1].toNat = 100 := by rw [h100]; rfl
  go_enter Tryz.func10, Tryz.ntmps10
  go_wp2_with fail
  have Z0 := (RateW.new w 0 0 false).keep (bel1 _ (.cells #[.string (bs l), .int .i64 0, .bool false] 66))
  have X0 := (RdAt.new (w.alloc (.cells #[.int .i64 0, .int .i64 0, .bool false] 31)) l).at (B2 := w.heap.size + 1) (by simp)
  have B0 := bel2 w (.cells #[.int .i64 0, .int .i64 0, .bool false] 31) (.cells #[.string (bs l), .int .i64 0, .bool false] 66)
  have hAX : w.heap.size < w.heap.size + 1 := Nat.lt_succ_self _
  have hXX := X0.1
  go_at_call 36
  refine (H1.out _ _ X0).mono ?_
  rintro e w1 ⟨rfl, X1, u1⟩
  have s1 := u1.size
  have Z1 := Z0.but u1 (by omega)
  have B01 := B0.trans (u1.below (m := w.heap.size) (by omega) (fun x e => by omega))
  clear X0 B0 Z0 u1
  generalize w.heap.size + 1 = X at *
  have hWX : w.heap.size < w1.heap.size := by have := X1.1; omega
  have S0 := RS.new X1 n 1 false
  have B0 : Below w.heap.size w (w1.alloc (.cells #[.int .i64 n, .int .i64 1, .bool false] 31)) := bup B01 (bel1 w1 _)
  have Z0 := Z1.keep (bel1 w1 (.cells #[.int .i64 n, .int .i64 1, .bool false] 31))
  clear X1 B01 s1 Z1
  go_upto_region 3 with fail
  have S1 := S0
  have B1 := B0
  have Z1 := Z0
  clear S0 B0 Z0
  generalize w1.alloc (.cells #[.int .i64 n, .int .i64 1, .bool false] 31) = V1 at *
  obtain ⟨⟨_, x0, x1, x2, x3, x4⟩, ⟨_, a0, a1, a2⟩, f1, f2, _⟩ := id S1
  obtain ⟨_, r0, r1, r2, r3, r4, r5⟩ := id Z1
  generalize w1.heap.size = A at *
  go_upto_region 8 with fail
  go_upto_region 9 with fail
  have S2 := S1.step
  have B2 := B1.setCell (p := ⟨X, 1, none⟩) (Nat.le_of_lt hAX) (.int .i64 ((k1 : Int) + 1))
  have Z2 := Z1.other (A := X) (i := 1) (.int .i64 ((k1 : Int) + 1)) (by omega)
  clear S1 B1 Z1 x0 x1 x2 x3 x4 a0 a1 a2 f1 f2 r0 r1 r2 r3 r4 r5
  generalize V1.setCell ⟨X, 1, none⟩ (.int .i64 ((k1 : Int) + 1)) = V2 at *
  obtain ⟨⟨_, x0, x1, x2, x3, x4⟩, ⟨_, a0, a1, a2⟩, f1, f2, _⟩ := id S2
  obtain ⟨_, r0, r1, r2, r3, r4, r5⟩ := id Z2
  go_upto_region 10 with fail
  have S3 := S2.drop true
  have B3 := B2.setCell (p := ⟨A, 2, none⟩) (Nat.le_of_lt hWX) (.bool true)
  have Z3 := Z2.other (A := A) (i := 2) (.bool true) (by omega)
  clear S2 B2 Z2 x0 x1 x2 x3 x4 a0 a1 a2 f1 f2 r0 r1 r2 r3 r4 r5
  generalize V2.setCell ⟨A, 2, none⟩ (.bool true) = V3 at *
  obtain ⟨⟨_, x0, x1, x2, x3, x4⟩, ⟨_, a0, a1, a2⟩, f1, f2, _⟩ := id S3
  obtain ⟨_, r0, r1, r2, r3, r4, r5⟩ := id Z3
  go_wp2_with fail
  go_at_call 20
  refine (HC.out _).mono ?_
  rintro e V4 ⟨rfl, c4⟩
  have A4 := S3.2.1.keep c4
  have B4 := bup B3 c4
  have Z4 := Z3.keep c4
  clear S3 B3 Z3 c4 x0 x1 x2 x3 x4 a0 a1 a2 f1 f2 r0 r1 r2 r3 r4 r5
  obtain ⟨_, a0, a1, a2⟩ := id A4
  obtain ⟨_, r0, r1, r2, r3, r4, r5⟩ := id Z4
  go_wp2_with fail
  exact bodyPost_ret (v := .tuple #[.agg #[.int .i64 0, .int .i64 0, .bool false], .int .i64 14]) (by simp [results, Tryz.results10, go_sem, r0, r1, r2]) rfl ⟨rfl, ((B4.setCell (p := ⟨w.heap.size, 0, none⟩) (Nat.le_refl _) _).setCell (p := ⟨w.heap.size, 1, none⟩) (Nat.le_refl _) _).setCell (p := ⟨w.heap.size, 2, none⟩) (Nat.le_refl _) _⟩
set_option maxRecDepth 100000 in
set_option maxHeartbeats 2000000 in
theorem rrate_NDk (l : List UInt8) (n : Int) (k1 : Nat) (hlb : l.length ≤ 9223372036854775807) (hbk1 : k1 < (bs l).size) (h47 : ¬ (bs l)[k1] = 47) (h100 : (bs l)[k1] = 100) (hE : ((k1 : Int) + 1 != (l.length : Int)) = false) (w : World)
    (H1 : ∀ B w, RdAt w B l 0 false → Calls Tryz.prog 36 #[.pointer (some ⟨B, 0, none⟩)] w fun e w' => e = .returned (.int .i64 n) ∧ RdAt w' B l k1 false ∧ But (fun x => x = B) w w')
    (HC : ∀ w, Calls Tryz.prog 20 #[.agg #[.int .i64 n, .int .i64 1, .bool true]] w fun e w' => e = .returned (.int .i64 0) ∧ Below w.heap.size w w') :
    Calls Tryz.prog 10 #[.string (bs l)] w fun e w' => e = .returned (.tuple #[.agg #[.int .i64 n, .int .i64 1, .bool true], .int .i64 0]) ∧ Below w.heap.size w w' := by
  have H1 := hideR H1
  have HC := hideR HC
  have hsz := bs_size l
  have zl : ((bs l).size : Int) ≤ 9223372036854775807 := by omega
  have zk1 : (k1 : Int) < (l.length : Int) := by omega
  have yk1 : (k1 : Int) < ((bs l).size : Int) := by omega
  have tk1 : k1 < (bs l).size := by omega
  have m47 : ¬ (bs l)[k1].toNat = 47 := fun x => h47 (UInt8.toNat_inj.1 x)
  have n47 : (((bs l)[k1].toNat : Int) == 47) = false := by
    rw [beq_eq_false_iff_ne]
    omega
  have n100 : (((bs l)[k1].toNat : Int) == 100) = true := by rw [h100]; rfl
  have m100 : (bs l)[k1].toNat = 100 := by rw [h100]; rfl
  go_enter Tryz.func10, Tryz.ntmps10
  go_wp2_with fail
  have Z0 := (RateW.new w 0 0 false).keep (bel1 _ (.cells #[.string (bs l), .int .i64 0, .bool false] 66))
  have X0 := (RdAt.new (w.alloc (.cells #[.int .i64 0, .int .i64 0, .bool false] 31)) l).at (B2 := w.heap.size + 1) (by simp)
  have B0 := bel2 w (.cells #[.int .i64 0, .int .i64 0, .bool false] 31) (.cells #[.string (bs l), .int .i64 0, .bool false] 66)
  have hAX : w.heap.size < w.heap.size + 1 := Nat.lt_succ_self _
  have hXX := X0.1
  go_at_call 36
  refine (H1.out _ _ X0).mono ?_
  rintro e w1 ⟨rfl, X1, u1⟩
  have s1 := u1.size
  have Z1 := Z0.but u1 (by omega)
  have B01 := B0.trans (u1.below (m := w.heap.size) (by omega) (fun x e => by omega))
  clear X0 B0 Z0 u1
  generalize w.heap.size + 1 = X at *
  have hWX : w.heap.size < w1.heap.size := by have := X1.1; omega
  have S0 := RS.new X1 n 1 false
  have B0 : Below w.heap.size w (w1.alloc (.cells #[.int .i64 n, .int .i64 1, .bool false] 31)) := bup B01 (bel1 w1 _)
  have Z0 := Z1.keep (bel1 w1 (.cells #[.int .i64 n, .int .i64 1, .bool false] 31))
  clear X1 B01 s1 Z1
  go_upto_region 3 with fail
  have S1 := S0
  have B1 := B0
  have Z1 := Z0
  clear S0 B0 Z0
  generalize w1.alloc (.cells #[.int .i64 n, .int .i64 1, .bool false] 31) = V1 at *
  obtain ⟨⟨_, x0, x1, x2, x3, x4⟩, ⟨_, a0, a1, a2⟩, f1, f2, _⟩ := id S1
  obtain ⟨_, r0, r1, r2, r3, r4, r5⟩ := id Z1
  generalize w1.heap.size = A at *
  go_upto_region 8 with fail
  go_upto_region 9 with fail
  have S2 := S1.step
  have B2 := B1.setCell (p := ⟨X, 1, none⟩) (Nat.le_of_lt hAX) (.int .i64 ((k1 : Int) + 1))
  have Z2 := Z1.other (A := X) (i := 1) (.int .i64 ((k1 : Int) + 1)) (by omega)
  clear S1 B1 Z1 x0 x1 x2 x3 x4 a0 a1 a2 f1 f2 r0 r1 r2 r3 r4 r5
  generalize V1.setCell ⟨X, 1, none⟩ (.int .i64 ((k1 : Int) + 1)) = V2 at *
  obtain ⟨⟨_, x0, x1, x2, x3, x4⟩, ⟨_, a0, a1, a2⟩, f1, f2, _⟩ := id S2
  obtain ⟨_, r0, r1, r2, r3, r4, r5⟩ := id Z2
  go_upto_region 10 with fail
  have S3 := S2.drop true
  have B3 := B2.setCell (p := ⟨A, 2, none⟩) (Nat.le_of_lt hWX) (.bool true)
  have Z3 := Z2.other (A := A) (i := 2) (.bool true) (by omega)
  clear S2 B2 Z2 x0 x1 x2 x3 x4 a0 a1 a2 f1 f2 r0 r1 r2 r3 r4 r5
  generalize V2.setCell ⟨A, 2, none⟩ (.bool true) = V3 at *
  obtain ⟨⟨_, x0, x1, x2, x3, x4⟩, ⟨_, a0, a1, a2⟩, f1, f2, _⟩ := id S3
  obtain ⟨_, r0, r1, r2, r3, r4, r5⟩ := id Z3
  go_wp2_with fail
  go_at_call 20
  refine (HC.out _).mono ?_
  rintro e V4 ⟨rfl, c4⟩
  have A4 := S3.2.1.keep c4
  have B4 := bup B3 c4
  have Z4 := Z3.keep c4
  clear S3 B3 Z3 c4 x0 x1 x2 x3 x4 a0 a1 a2 f1 f2 r0 r1 r2 r3 r4 r5
  obtain ⟨_, a0, a1, a2⟩ := id A4
  obtain ⟨_, r0, r1, r2, r3, r4, r5⟩ := id Z4
  go_wp2_with fail
  exact bodyPost_ret (v := .tuple #[.agg #[.int .i64 n, .int .i64 1, .bool true], .int .i64 0]) (by simp [results, Tryz.results10, go_sem, r0, r1, r2]) rfl ⟨rfl, ((B4.setCell (p := ⟨w.heap.size, 0, none⟩) (Nat.le_refl _) _).setCell (p := ⟨w.heap.size, 1, none⟩) (Nat.le_refl _) _).setCell (p := ⟨w.heap.size, 2, none⟩) (Nat.le_refl _) _⟩
set_option maxRecDepth 100000 in
set_option maxHeartbeats 2000000 in
theorem rrate_NF (l : List UInt8) (n : Int) (k1 : Nat) (hlb : l.length ≤ 9223372036854775807) (hbk1 : k1 < (bs l).size) (h47 : ¬ (bs l)[k1] = 47) (h100 : (bs l)[k1] = 100) (hE : ((k1 : Int) + 1 != (l.length : Int)) = true) (w : World)
    (H1 : ∀ B w, RdAt w B l 0 false → Calls Tryz.prog 36 #[.pointer (some ⟨B, 0, none⟩)] w fun e w' => e = .returned (.int .i64 n) ∧ RdAt w' B l k1 false ∧ But (fun x => x = B) w w') :
    Calls Tryz.prog 10 #[.string (bs l)] w fun e w' => e = .returned (.tuple #[.agg #[.int .i64 0, .int .i64 0, .bool false], .int .i64 13]) ∧ Below w.heap.size w w' := by
  have H1 := hideR H1
  have hsz := bs_size l
  have zl : ((bs l).size : Int) ≤ 9223372036854775807 := by omega
  have zk1 : (k1 : Int) < (l.length : Int) := by omega
  have yk1 : (k1 : Int) < ((bs l).size : Int) := by omega
  have tk1 : k1 < (bs l).size := by omega
  have m47 : ¬ (bs l)[k1].toNat = 47 := fun x => h47 (UInt8.toNat_inj.1 x)
  have n47 : (((bs l)[k1].toNat : Int) == 47) = false := by
    rw [beq_eq_false_iff_ne]
    omega
  have n100 : (((bs l)[k1].toNat : Int) == 100) = true := by rw [h100]; rfl
  have m100 : (bs l)[k1].toNat = 100 := by rw [h100]; rfl
  go_enter Tryz.func10, Tryz.ntmps10
  go_wp2_with fail
  have Z0 := (RateW.new w 0 0 false).keep (bel1 _ (.cells #[.string (bs l), .int .i64 0, .bool false] 66))
  have X0 := (RdAt.new (w.alloc (.cells #[.int .i64 0, .int .i64 0, .bool false] 31)) l).at (B2 := w.heap.size + 1) (by simp)
  have B0 := bel2 w (.cells #[.int .i64 0, .int .i64 0, .bool false] 31) (.cells #[.string (bs l), .int .i64 0, .bool false] 66)
  have hAX : w.heap.size < w.heap.size + 1 := Nat.lt_succ_self _
  have hXX := X0.1
  go_at_call 36
  refine (H1.out _ _ X0).mono ?_
  rintro e w1 ⟨rfl, X1, u1⟩
  have s1 := u1.size
  have Z1 := Z0.but u1 (by omega)
  have B01 := B0.trans (u1.below (m := w.heap.size) (by omega) (fun x e => by omega))
  clear X0 B0 Z0 u1
  generalize w.heap.size + 1 = X at *
  have hWX : w.heap.size < w1.heap.size := by have := X1.1; omega
  have S0 := RS.new X1 n 1 false
  have B0 : Below w.heap.size w (w1.alloc (.cells #[.int .i64 n, .int .i64 1, .bool false] 31)) := bup B01 (bel1 w1 _)
  have Z0 := Z1.keep (bel1 w1 (.cells #[.int .i64 n, .int .i64 1, .bool false] 31))
  clear X1 B01 s1 Z1
  go_upto_region 3 with fail
  have S1 := S0
  have B1 := B0
  have Z1 := Z0
  clear S0 B0 Z0
  generalize w1.alloc (.cells #[.int .i64 n, .int .i64 1, .bool false] 31) = V1 at *
  obtain ⟨⟨_, x0, x1, x2, x3, x4⟩, ⟨_, a0, a1, a2⟩, f1, f2, _⟩ := id S1
  obtain ⟨_, r0, r1, r2, r3, r4, r5⟩ := id Z1
  generalize w1.heap.size = A at *
  go_upto_region 8 with fail
  go_upto_region 9 with fail
  have S2 := S1.step
  have B2 := B1.setCell (p := ⟨X, 1, none⟩) (Nat.le_of_lt hAX) (.int .i64 ((k1 : Int) + 1))
  have Z2 := Z1.other (A := X) (i := 1) (.int .i64 ((k1 : Int) + 1)) (by omega)
  clear S1 B1 Z1 x0 x1 x2 x3 x4 a0 a1 a2 f1 f2 r0 r1 r2 r3 r4 r5
  generalize V1.setCell ⟨X, 1, none⟩ (.int .i64 ((k1 : Int) + 1)) = V2 at *
  obtain ⟨⟨_, x0, x1, x2, x3, x4⟩, ⟨_, a0, a1, a2⟩, f1, f2, _⟩ := id S2
  obtain ⟨_, r0, r1, r2, r3, r4, r5⟩ := id Z2
  go_upto_region 10 with fail
  have S3 := S2.drop true
  have B3 := B2.setCell (p := ⟨A, 2, none⟩) (Nat.le_of_lt hWX) (.bool true)
  have Z3 := Z2.other (A := A) (i := 2) (.bool true) (by omega)
  clear S2 B2 Z2 x0 x1 x2 x3 x4 a0 a1 a2 f1 f2 r0 r1 r2 r3 r4 r5
  generalize V2.setCell ⟨A, 2, none⟩ (.bool true) = V3 at *
  obtain ⟨⟨_, x0, x1, x2, x3, x4⟩, ⟨_, a0, a1, a2⟩, f1, f2, _⟩ := id S3
  obtain ⟨_, r0, r1, r2, r3, r4, r5⟩ := id Z3
  go_upto_region 11 with fail
  go_wp2_with fail
  exact bodyPost_ret (v := .tuple #[.agg #[.int .i64 0, .int .i64 0, .bool false], .int .i64 13]) (by simp [results, Tryz.results10, go_sem, r0, r1, r2]) rfl ⟨rfl, ((B3.setCell (p := ⟨w.heap.size, 0, none⟩) (Nat.le_refl _) _).setCell (p := ⟨w.heap.size, 1, none⟩) (Nat.le_refl _) _).setCell (p := ⟨w.heap.size, 2, none⟩) (Nat.le_refl _) _⟩
set_option maxRecDepth 100000 in
set_option maxHeartbeats 2000000 in
theorem rrate_NG (l : List UInt8) (n : Int) (k1 : Nat) (hlb : l.length ≤ 9223372036854775807) (hbk1 : k1 < (bs l).size) (h47 : ¬ (bs l)[k1] = 47) (h100 : ¬ (bs l)[k1] = 100) (w : World)
    (H1 : ∀ B w, RdAt w B l 0 false → Calls Tryz.prog 36 #[.pointer (some ⟨B, 0, none⟩)] w fun e w' => e = .returned (.int .i64 n) ∧ RdAt w' B l k1 false ∧ But (fun x => x = B) w w') :
    Calls Tryz.prog 10 #[.string (bs l)] w fun e w' => e = .returned (.tuple #[.agg #[.int .i64 0, .int .i64 0, .bool false], .int .i64 13]) ∧ Below w.heap.size w w' := by
  have H1 := hideR H1
  have hsz := bs_size l
  have zl : ((bs l).size : Int) ≤ 9223372036854775807 := by omega
  have zk1 : (k1 : Int) < (l.length : Int) := by omega
  have yk1 : (k1 : Int) < ((bs l).size : Int) := by omega
  have tk1 : k1 < (bs l).size := by omega
  have m47 : ¬ (bs l)[k1].toNat = 47 := fun x => h47 (UInt8.toNat_inj.1 x)
  have n47 : (((bs l)[k1].toNat : Int) == 47) = false := by
    rw [beq_eq_false_iff_ne]
    omega
  have m100 : ¬ (bs l)[k1].toNat = 100 := fun x => h100 (UInt8.toNat_inj.1 x)
  have n100 : (((bs l)[k1].toNat : Int) == 100) = false := by
    rw [beq_eq_false_iff_ne]
    omega
  have hE : ((k1 : Int) != (l.length : Int)) = true := by
    rw [bne_iff_ne]
    omega
  go_enter Tryz.func10, Tryz.ntmps10
  go_wp2_with fail
  have Z0 := (RateW.new w 0 0 false).keep (bel1 _ (.cells #[.string (bs l), .int .i64 0, .bool false] 66))
  have X0 := (RdAt.new (w.alloc (.cells #[.int .i64 0, .int .i64 0, .bool false] 31)) l).at (B2 := w.heap.size + 1) (by simp)
  have B0 := bel2 w (.cells #[.int .i64 0, .int .i64 0, .bool false] 31) (.cells #[.string (bs l), .int .i64 0, .bool false] 66)
  have hAX : w.heap.size < w.heap.size + 1 := Nat.lt_succ_self _
  have hXX := X0.1
  go_at_call 36
  refine (H1.out _ _ X0).mono ?_
  rintro e w1 ⟨rfl, X1, u1⟩
  have s1 := u1.size
  have Z1 := Z0.but u1 (by omega)
  have B01 := B0.trans (u1.below (m := w.heap.size) (by omega) (fun x e => by omega))
  clear X0 B0 Z0 u1
  generalize w.heap.size + 1 = X at *
  have hWX : w.heap.size < w1.heap.size := by have := X1.1; omega
  have S0 := RS.new X1 n 1 false
  have B0 : Below w.heap.size w (w1.alloc (.cells #[.int .i64 n, .int .i64 1, .bool false] 31)) := bup B01 (bel1 w1 _)
  have Z0 := Z1.keep (bel1 w1 (.cells #[.int .i64 n, .int .i64 1, .bool false] 31))
  clear X1 B01 s1 Z1
  go_upto_region 3 with fail
  have S1 := S0
  have B1 := B0
  have Z1 := Z0
  clear S0 B0 Z0
  generalize w1.alloc (.cells #[.int .i64 n, .int .i64 1, .bool false] 31) = V1 at *
  obtain ⟨⟨_, x0, x1, x2, x3, x4⟩, ⟨_, a0, a1, a2⟩, f1, f2, _⟩ := id S1
  obtain ⟨_, r0, r1, r2, r3, r4, r5⟩ := id Z1
  generalize w1.heap.size = A at *
  go_upto_region 11 with fail
  go_wp2_with fail
  exact bodyPost_ret (v := .tuple #[.agg #[.int .i64 0, .int .i64 0, .bool false], .int .i64 13]) (by simp [results, Tryz.results10, go_sem, r0, r1, r2]) rfl ⟨rfl, ((B1.setCell (p := ⟨w.heap.size, 0, none⟩) (Nat.le_refl _) _).setCell (p := ⟨w.heap.size, 1, none⟩) (Nat.le_refl _) _).setCell (p := ⟨w.heap.size, 2, none⟩) (Nat.le_refl _) _⟩
set_option maxRecDepth 100000 in
set_option maxHeartbeats 2000000 in
theorem rrate_SEb (l : List UInt8) (n : Int) (k1 : Nat) (hlb : l.length ≤ 9223372036854775807) (hk1 : k1 < (bs l).size) (h47 : (bs l)[k1] = 47) (d : Int) (k2 : Nat) (hd : (d == 1) = false) (hk : k2 = l.length) (c : Int) (hc : (c != 0) = true) (w : World)
    (H1 : ∀ B w, RdAt w B l 0 false → Calls Tryz.prog 36 #[.pointer (some ⟨B, 0, none⟩)] w fun e w' => e = .returned (.int .i64 n) ∧ RdAt w' B l k1 false ∧ But (fun x => x = B) w w')
    (H2 : ∀ B w, RdAt w B l (k1 + 1) false → Calls Tryz.prog 36 #[.pointer (some ⟨B, 0, none⟩)] w fun e w' => e = .returned (.int .i64 d) ∧ RdAt w' B l k2 false ∧ But (fun x => x = B) w w')
    (HC : ∀ w, Calls Tryz.prog 20 #[.agg #[.int .i64 n, .int .i64 d, .bool false]] w fun e w' => e = .returned (.int .i64 c) ∧ Below w.heap.size w w') :
    Calls Tryz.prog 10 #[.string (bs l)] w fun e w' => e = .returned (.tuple #[.agg #[.int .i64 0, .int .i64 0, .bool false], .int .i64 14]) ∧ Below w.heap.size w w' := by
  have H1 := hideR H1
  have H2 := hideR H2
  have HC := hideR HC
  have hsz := bs_size l
  have zl : ((bs l).size : Int) ≤ 9223372036854775807 := by omega
  have zk1 : (k1 : Int) < (l.length : Int) := by omega
  have yk1 : (k1 : Int) < ((bs l).size : Int) := by omega
  have tk1 : k1 < (bs l).size := by omega
  have n47 : (((bs l)[k1].toNat : Int) == 47) = true := by rw [h47]; rfl
  have m47 : (bs l)[k1].toNat = 47 := by rw [h47]; rfl
  subst hk
  have zE : ¬ (l.length : Int) < (l.length : Int) := by omega
  go_enter Tryz.func10, Tryz.ntmps10
  go_wp2_with fail
  have Z0 := (RateW.new w 0 0 false).keep (bel1 _ (.cells #[.string (bs l), .int .i64 0, .bool false] 66))
  have X0 := (RdAt.new (w.alloc (.cells #[.int .i64 0, .int .i64 0, .bool false] 31)) l).at (B2 := w.heap.size + 1) (by simp)
  have B0 := bel2 w (.cells #[.int .i64 0, .int .i64 0, .bool false] 31) (.cells #[.string (bs l), .int .i64 0, .bool false] 66)
  have hAX : w.heap.size < w.heap.size + 1 := Nat.lt_succ_self _
  have hXX := X0.1
  go_at_call 36
  refine (H1.out _ _ X0).mono ?_
  rintro e w1 ⟨rfl, X1, u1⟩
  have s1 := u1.size
  have Z1 := Z0.but u1 (by omega)
  have B01 := B0.trans (u1.below (m := w.heap.size) (by omega) (fun x e => by omega))
  clear X0 B0 Z0 u1
  generalize w.heap.size + 1 = X at *
  have hWX : w.heap.size < w1.heap.size := by have := X1.1; omega
  have S0 := RS.new X1 n 1 false
  have B0 : Below w.heap.size w (w1.alloc (.cells #[.int .i64 n, .int .i64 1, .bool false] 31)) := bup B01 (bel1 w1 _)
  have Z0 := Z1.keep (bel1 w1 (.cells #[.int .i64 n, .int .i64 1, .bool false] 31))
  clear X1 B01 s1 Z1
  go_upto_region 3 with fail
  have S1 := S0
  have B1 := B0
  have Z1 := Z0
  clear S0 B0 Z0
  generalize w1.alloc (.cells #[.int .i64 n, .int .i64 1, .bool false] 31) = V1 at *
  obtain ⟨⟨_, x0, x1, x2, x3, x4⟩, ⟨_, a0, a1, a2⟩, f1, f2, _⟩ := id S1
  obtain ⟨_, r0, r1, r2, r3, r4, r5⟩ := id Z1
  generalize w1.heap.size = A at *
  go_upto_region 4 with fail
  go_upto_region 5 with fail
  have S2 := S1.step
  have B2 := B1.setCell (p := ⟨X, 1, none⟩) (Nat.le_of_lt hAX) (.int .i64 ((k1 : Int) + 1))
  have Z2 := Z1.other (A := X) (i := 1) (.int .i64 ((k1 : Int) + 1)) (by omega)
  clear S1 B1 Z1 x0 x1 x2 x3 x4 a0 a1 a2 f1 f2 r0 r1 r2 r3 r4 r5
  generalize V1.setCell ⟨X, 1, none⟩ (.int .i64 ((k1 : Int) + 1)) = V2 at *
  obtain ⟨⟨_, x0, x1, x2, x3, x4⟩, ⟨_, a0, a1, a2⟩, f1, f2, _⟩ := id S2
  obtain ⟨_, r0, r1, r2, r3, r4, r5⟩ := id Z2
  go_wp2_with fail
  go_at_call 36
  refine (H2.out _ _ S2.1).mono ?_
  rintro e V3 ⟨rfl, X3, u3⟩
  have S3 := S2.call X3 u3
  have B3 := B2.trans (u3.below (by exact B2.size) (fun x e => by omega))
  have Z3 := Z2.but u3 (by omega)
  clear S2 B2 Z2 X3 u3 x0 x1 x2 x3 x4 a0 a1 a2 f1 f2 r0 r1 r2 r3 r4 r5
  obtain ⟨⟨_, x0, x1, x2, x3, x4⟩, ⟨_, a0, a1, a2⟩, f1, f2, _⟩ := id S3
  obtain ⟨_, r0, r1, r2, r3, r4, r5⟩ := id Z3
  go_upto_region 6 with fail
  have S4 := S3.den d
  have B4 := B3.setCell (p := ⟨A, 1, none⟩) (Nat.le_of_lt hWX) (.int .i64 d)
  have Z4 := Z3.other (A := A) (i := 1) (.int .i64 d) (by omega)
  clear S3 B3 Z3 x0 x1 x2 x3 x4 a0 a1 a2 f1 f2 r0 r1 r2 r3 r4 r5
  generalize V3.setCell ⟨A, 1, none⟩ (.int .i64 d) = V4 at *
  obtain ⟨⟨_, x0, x1, x2, x3, x4⟩, ⟨_, a0, a1, a2⟩, f1, f2, _⟩ := id S4
  obtain ⟨_, r0, r1, r2, r3, r4, r5⟩ := id Z4
  go_upto_region 7 with fail
  have S5 := S4.bad false
  have B5 := B4.setCell (p := ⟨X, 2, none⟩) (Nat.le_of_lt hAX) (.bool false)
  have Z5 := Z4.other (A := X) (i := 2) (.bool false) (by omega)
  clear S4 B4 Z4 x0 x1 x2 x3 x4 a0 a1 a2 f1 f2 r0 r1 r2 r3 r4 r5
  generalize V4.setCell ⟨X, 2, none⟩ (.bool false) = V5 at *
  obtain ⟨⟨_, x0, x1, x2, x3, x4⟩, ⟨_, a0, a1, a2⟩, f1, f2, _⟩ := id S5
  obtain ⟨_, r0, r1, r2, r3, r4, r5⟩ := id Z5
  go_wp2_with fail
  go_at_call 20
  refine (HC.out _).mono ?_
  rintro e V6 ⟨rfl, c6⟩
  have A6 := S5.2.1.keep c6
  have B6 := bup B5 c6
  have Z6 := Z5.keep c6
  clear S5 B5 Z5 c6 x0 x1 x2 x3 x4 a0 a1 a2 f1 f2 r0 r1 r2 r3 r4 r5
  obtain ⟨_, a0, a1, a2⟩ := id A6
  obtain ⟨_, r0, r1, r2, r3, r4, r5⟩ := id Z6
  go_wp2_with fail
  exact bodyPost_ret (v := .tuple #[.agg #[.int .i64 0, .int .i64 0, .bool false], .int .i64 14]) (by simp [results, Tryz.results10, go_sem, r0, r1, r2]) rfl ⟨rfl, ((B6.setCell (p := ⟨w.heap.size, 0, none⟩) (Nat.le_refl _) _).setCell (p := ⟨w.heap.size, 1, none⟩) (Nat.le_refl _) _).setCell (p := ⟨w.heap.size, 2, none⟩) (Nat.le_refl _) _⟩
set_option maxRecDepth 100000 in
set_option maxHeartbeats 2000000 in
theorem rrate_SEk (l : List UInt8) (n : Int) (k1 : Nat) (hlb : l.length ≤ 9223372036854775807) (hk1 : k1 < (bs l).size) (h47 : (bs l)[k1] = 47) (d : Int) (k2 : Nat) (hd : (d == 1) = false) (hk : k2 = l.length) (w : World)
    (H1 : ∀ B w, RdAt w B l 0 false → Calls Tryz.prog 36 #[.pointer (some ⟨B, 0, none⟩)] w fun e w' => e = .returned (.int .i64 n) ∧ RdAt w' B l k1 false ∧ But (fun x => x = B) w w')
    (H2 : ∀ B w, RdAt w B l (k1 + 1) false → Calls Tryz.prog 36 #[.pointer (some ⟨B, 0, none⟩)] w fun e w' => e = .returned (.int .i64 d) ∧ RdAt w' B l k2 false ∧ But (fun x => x = B) w w')
    (HC : ∀ w, Calls Tryz.prog 20 #[.agg #[.int .i64 n, .int .i64 d, .bool false]] w fun e w' => e = .returned (.int .i64 0) ∧ Below w.heap.size w w') :
    Calls Tryz.prog 10 #[.string (bs l)] w fun e w' => e = .returned (.tuple #[.agg #[.int .i64 n, .int .i64 d, .bool false], .int .i64 0]) ∧ Below w.heap.size w w' := by
  have H1 := hideR H1
  have H2 := hideR H2
  have HC := hideR HC
  have hsz := bs_size l
  have zl : ((bs l).size : Int) ≤ 9223372036854775807 := by omega
  have zk1 : (k1 : Int) < (l.length : Int) := by omega
  have yk1 : (k1 : Int) < ((bs l).size : Int) := by omega
  have tk1 : k1 < (bs l).size := by omega
  have n47 : (((bs l)[k1].toNat : Int) == 47) = true := by rw [h47]; rfl
  have m47 : (bs l)[k1].toNat = 47 := by rw [h47]; rfl
  subst hk
  have zE : ¬ (l.length : Int) < (l.length : Int) := by omega
  go_enter Tryz.func10, Tryz.ntmps10
  go_wp2_with fail
  have Z0 := (RateW.new w 0 0 false).keep (bel1 _ (.cells #[.string (bs l), .int .i64 0, .bool false] 66))
  have X0 := (RdAt.new (w.alloc (.cells #[.int .i64 0, .int .i64 0, .bool false] 31)) l).at (B2 := w.heap.size + 1) (by simp)
  have B0 := bel2 w (.cells #[.int .i64 0, .int .i64 0, .bool false] 31) (.cells #[.string (bs l), .int .i64 0, .bool false] 66)
  have hAX : w.heap.size < w.heap.size + 1 := Nat.lt_succ_self _
  have hXX := X0.1
  go_at_call 36
  refine (H1.out _ _ X0).mono ?_
  rintro e w1 ⟨rfl, X1, u1⟩
  have s1 := u1.size
  have Z1 := Z0.but u1 (by omega)
  have B01 := B0.trans (u1.below (m := w.heap.size) (by omega) (fun x e => by omega))
  clear X0 B0 Z0 u1
  generalize w.heap.size + 1 = X at *
  have hWX : w.heap.size < w1.heap.size := by have := X1.1; omega
  have S0 := RS.new X1 n 1 false
  have B0 : Below w.heap.size w (w1.alloc (.cells #[.int .i64 n, .int .i64 1, .bool false] 31)) := bup B01 (bel1 w1 _)
  have Z0 := Z1.keep (bel1 w1 (.cells #[.int .i64 n, .int .i64 1, .bool false] 31))
  clear X1 B01 s1 Z1
  go_upto_region 3 with fail
  have S1 := S0
  have B1 := B0
  have Z1 := Z0
  clear S0 B0 Z0
  generalize w1.alloc (.cells #[.int .i64 n, .int .i64 1, .bool false] 31) = V1 at *
  obtain ⟨⟨_, x0, x1, x2, x3, x4⟩, ⟨_, a0, a1, a2⟩, f1, f2, _⟩ := id S1
  obtain ⟨_, r0, r1, r2, r3, r4, r5⟩ := id Z1
  generalize w1.heap.size = A at *
  go_upto_region 4 with fail
  go_upto_region 5 with fail
  have S2 := S1.step
  have B2 := B1.setCell (p := ⟨X, 1, none⟩) (Nat.le_of_lt hAX) (.int .i64 ((k1 : Int) + 1))
  have Z2 := Z1.other (A := X) (i := 1) (.int .i64 ((k1 : Int) + 1)) (by omega)
  clear S1 B1 Z1 x0 x1 x2 x3 x4 a0 a1 a2 f1 f2 r0 r1 r2 r3 r4 r5
  generalize V1.setCell ⟨X, 1, none⟩ (.int .i64 ((k1 : Int) + 1)) = V2 at *
  obtain ⟨⟨_, x0, x1, x2, x3, x4⟩, ⟨_, a0, a1, a2⟩, f1, f2, _⟩ := id S2
  obtain ⟨_, r0, r1, r2, r3, r4, r5⟩ := id Z2
  go_wp2_with fail
  go_at_call 36
  refine (H2.out _ _ S2.1).mono ?_
  rintro e V3 ⟨rfl, X3, u3⟩
  have S3 := S2.call X3 u3
  have B3 := B2.trans (u3.below (by exact B2.size) (fun x e => by omega))
  have Z3 := Z2.but u3 (by omega)
  clear S2 B2 Z2 X3 u3 x0 x1 x2 x3 x4 a0 a1 a2 f1 f2 r0 r1 r2 r3 r4 r5
  obtain ⟨⟨_, x0, x1, x2, x3, x4⟩, ⟨_, a0, a1, a2⟩, f1, f2, _⟩ := id S3
  obtain ⟨_, r0, r1, r2, r3, r4, r5⟩ := id Z3
  go_upto_region 6 with fail
  have S4 := S3.den d
  have B4 := B3.setCell (p := ⟨A, 1, none⟩) (Nat.le_of_lt hWX) (.int .i64 d)
  have Z4 := Z3.other (A := A) (i := 1) (.int .i64 d) (by omega)
  clear S3 B3 Z3 x0 x1 x2 x3 x4 a0 a1 a2 f1 f2 r0 r1 r2 r3 r4 r5
  generalize V3.setCell ⟨A, 1, none⟩ (.int .i64 d) = V4 at *
  obtain ⟨⟨_, x0, x1, x2, x3, x4⟩, ⟨_, a0, a1, a2⟩, f1, f2, _⟩ := id S4
  obtain ⟨_, r0, r1, r2, r3, r4, r5⟩ := id Z4
  go_upto_region 7 with fail
  have S5 := S4.bad false
  have B5 := B4.setCell (p := ⟨X, 2, none⟩) (Nat.le_of_lt hAX) (.bool false)
  have Z5 := Z4.other (A := X) (i := 2) (.bool false) (by omega)
  clear S4 B4 Z4 x0 x1 x2 x3 x4 a0 a1 a2 f1 f2 r0 r1 r2 r3 r4 r5
  generalize V4.setCell ⟨X, 2, none⟩ (.bool false) = V5 at *
  obtain ⟨⟨_, x0, x1, x2, x3, x4⟩, ⟨_, a0, a1, a2⟩, f1, f2, _⟩ := id S5
  obtain ⟨_, r0, r1, r2, r3, r4, r5⟩ := id Z5
  go_wp2_with fail
  go_at_call 20
  refine (HC.out _).mono ?_
  rintro e V6 ⟨rfl, c6⟩
  have A6 := S5.2.1.keep c6
  have B6 := bup B5 c6
  have Z6 := Z5.keep c6
  clear S5 B5 Z5 c6 x0 x1 x2 x3 x4 a0 a1 a2 f1 f2 r0 r1 r2 r3 r4 r5
  obtain ⟨_, a0, a1, a2⟩ := id A6
  obtain ⟨_, r0, r1, r2, r3, r4, r5⟩ := id Z6
  go_wp2_with fail
  exact bodyPost_ret (v := .tuple #[.agg #[.int .i64 n, .int .i64 d, .bool false], .int .i64 0]) (by simp [results, Tryz.results10, go_sem, r0, r1, r2]) rfl ⟨rfl, ((B6.setCell (p := ⟨w.heap.size, 0, none⟩) (Nat.le_refl _) _).setCell (p := ⟨w.heap.size, 1, none⟩) (Nat.le_refl _) _).setCell (p := ⟨w.heap.size, 2, none⟩) (Nat.le_refl _) _⟩
set_option maxRecDepth 100000 in
set_option maxHeartbeats 2000000 in
theorem rrate_SDb (l : List UInt8) (n : Int) (k1 : Nat) (hlb : l.length ≤ 9223372036854775807) (hk1 : k1 < (bs l).size) (h47 : (bs l)[k1] = 47) (d : Int) (k2 : Nat) (hd : (d == 1) = false) (hbk2 : k2 < (bs l).size) (h100 : (bs l)[k2] = 100) (hE : ((k2 : Int) + 1 != (l.length : Int)) = false) (c : Int) (hc : (c != 0) = true) (w : World)
    (H1 : ∀ B w, RdAt w B l 0 false → Calls Tryz.prog 36 #[.pointer (some ⟨B, 0, none⟩)] w fun e w' => e = .returned (.int .i64 n) ∧ RdAt w' B l k1 false ∧ But (fun x => x = B) w w')
    (H2 : ∀ B w, RdAt w B l (k1 + 1) false → Calls Tryz.prog 36 #[.pointer (some ⟨B, 0, none⟩)] w fun e w' => e = .returned (.int .i64 d) ∧ RdAt w' B l k2 false ∧ But (fun x => x = B) w w')
    (HC : ∀ w, Calls Tryz.prog 20 #[.agg #[.int .i64 n, .int .i64 d, .bool true]] w fun e w' => e = .returned (.int .i64 c) ∧ Below w.heap.size w w') :
    Calls Tryz.prog 10 #[.string (bs l)] w fun e w' => e = .returned (.tuple #[.agg #[.int .i64 0, .int .i64 0, .bool false], .int .i64 14]) ∧ Below w.heap.size w w' := by
  have H1 := hideR H1
  have H2 := hideR H2
  have HC := hideR HC
  have hsz := bs_size l
  have zl : ((bs l).size : Int) ≤ 9223372036854775807 := by omega
  have zk1 : (k1 : Int) < (l.length : Int) := by omega
  have yk1 : (k1 : Int) < ((bs l).size : Int) := by omega
  have tk1 : k1 < (bs l).size := by omega
  have n47 : (((bs l)[k1].toNat : Int) == 47) = true := by rw [h47]; rfl
  have m47 : (bs l)[k1].toNat = 47 := by rw [h47]; rfl
  have zk2 : (k2 : Int) < (l.length : Int) := by omega
  have yk2 : (k2 : Int) < ((bs l).size : Int) := by omega
  have tk2 : k2 < (bs l).size := by omega
  have n100 : (((bs l)[k2].toNat : Int) == 100) = true := by rw [h100]; rfl
  have m100 : (bs l)[k2].toNat = 100 := by rw [h100]; rfl
  go_enter Tryz.func10, Tryz.ntmps10
  go_wp2_with fail
  have Z0 := (RateW.new w 0 0 false).keep (bel1 _ (.cells #[.string (bs l), .int .i64 0, .bool false] 66))
  have X0 := (RdAt.new (w.alloc (.cells #[.int .i64 0, .int .i64 0, .bool false] 31)) l).at (B2 := w.heap.size + 1) (by simp)
  have B0 := bel2 w (.cells #[.int .i64 0, .int .i64 0, .bool false] 31) (.cells #[.string (bs l), .int .i64 0, .bool false] 66)
  have hAX : w.heap.size < w.heap.size + 1 := Nat.lt_succ_self _
  have hXX := X0.1
  go_at_call 36
  refine (H1.out _ _ X0).mono ?_
  rintro e w1 ⟨rfl, X1, u1⟩
  have s1 := u1.size
  have Z1 := Z0.but u1 (by omega)
  have B01 := B0.trans (u1.below (m := w.heap.size) (by omega) (fun x e => by omega))
  clear X0 B0 Z0 u1
  generalize w.heap.size + 1 = X at *
  have hWX : w.heap.size < w1.heap.size := by have := X1.1; omega
  have S0 := RS.new X1 n 1 false
  have B0 : Below w.heap.size w (w1.alloc (.cells #[.int .i64 n, .int .i64 1, .bool false] 31)) := bup B01 (bel1 w1 _)
  have Z0 := Z1.keep (bel1 w1 (.cells #[.int .i64 n, .int .i64 1, .bool false] 31))
  clear X1 B01 s1 Z1
  go_upto_region 3 with fail
  have S1 := S0
  have B1 := B0
  have Z1 := Z0
  clear S0 B0 Z0
  generalize w1.alloc (.cells #[.int .i64 n, .int .i64 1, .bool false] 31) = V1 at *
  obtain ⟨⟨_, x0, x1, x2, x3, x4⟩, ⟨_, a0, a1, a2⟩, f1, f2, _⟩ := id S1
  obtain ⟨_, r0, r1, r2, r3, r4, r5⟩ := id Z1
  generalize w1.heap.size = A at *
  go_upto_region 4 with fail
  go_upto_region 5 with fail
  have S2 := S1.step
  have B2 := B1.setCell (p := ⟨X, 1, none⟩) (Nat.le_of_lt hAX) (.int .i64 ((k1 : Int) + 1))
  have Z2 := Z1.other (A := X) (i := 1) (.int .i64 ((k1 : Int) + 1)) (by omega)
  clear S1 B1 Z1 x0 x1 x2 x3 x4 a0 a1 a2 f1 f2 r0 r1 r2 r3 r4 r5
  generalize V1.setCell ⟨X, 1, none⟩ (.int .i64 ((k1 : Int) + 1)) = V2 at *
  obtain ⟨⟨_, x0, x1, x2, x3, x4⟩, ⟨_, a0, a1, a2⟩, f1, f2, _⟩ := id S2
  obtain ⟨_, r0, r1, r2, r3, r4, r5⟩ := id Z2
  go_wp2_with fail
  go_at_call 36
  refine (H2.out _ _ S2.1).mono ?_
  rintro e V3 ⟨rfl, X3, u3⟩
  have S3 := S2.call X3 u3
  have B3 := B2.trans (u3.below (by exact B2.size) (fun x e => by omega))
  have Z3 := Z2.but u3 (by omega)
  clear S2 B2 Z2 X3 u3 x0 x1 x2 x3 x4 a0 a1 a2 f1 f2 r0 r1 r2 r3 r4 r5
  obtain ⟨⟨_, x0, x1, x2, x3, x4⟩, ⟨_, a0, a1, a2⟩, f1, f2, _⟩ := id S3
  obtain ⟨_, r0, r1, r2, r3, r4, r5⟩ := id Z3
  go_upto_region 6 with fail
  have S4 := S3.den d
  have B4 := B3.setCell (p := ⟨A, 1, none⟩) (Nat.le_of_lt hWX) (.int .i64 d)
  have Z4 := Z3.other (A := A) (i := 1) (.int .i64 d) (by omega)
  clear S3 B3 Z3 x0 x1 x2 x3 x4 a0 a1 a2 f1 f2 r0 r1 r2 r3 r4 r5
  generalize V3.setCell ⟨A, 1, none⟩ (.int .i64 d) = V4 at *
  obtain ⟨⟨_, x0, x1, x2, x3, x4⟩, ⟨_, a0, a1, a2⟩, f1, f2, _⟩ := id S4
  obtain ⟨_, r0, r1, r2, r3, r4, r5⟩ := id Z4
  go_upto_region 7 with fail
  have S5 := S4.bad false
  have B5 := B4.setCell (p := ⟨X, 2, none⟩) (Nat.le_of_lt hAX) (.bool false)
  have Z5 := Z4.other (A := X) (i := 2) (.bool false) (by omega)
  clear S4 B4 Z4 x0 x1 x2 x3 x4 a0 a1 a2 f1 f2 r0 r1 r2 r3 r4 r5
  generalize V4.setCell ⟨X, 2, none⟩ (.bool false) = V5 at *
  obtain ⟨⟨_, x0, x1, x2, x3, x4⟩, ⟨_, a0, a1, a2⟩, f1, f2, _⟩ := id S5
  obtain ⟨_, r0, r1, r2, r3, r4, r5⟩ := id Z5
  go_upto_region 8 with fail
  go_upto_region 9 with fail
  have S6 := S5.step
  have B6 := B5.setCell (p := ⟨X, 1, none⟩) (Nat.le_of_lt hAX) (.int .i64 ((k2 : Int) + 1))
  have Z6 := Z5.other (A := X) (i := 1) (.int .i64 ((k2 : Int) + 1)) (by omega)
  clear S5 B5 Z5 x0 x1 x2 x3 x4 a0 a1 a2 f1 f2 r0 r1 r2 r3 r4 r5
  generalize V5.setCell ⟨X, 1, none⟩ (.int .i64 ((k2 : Int) + 1)) = V6 at *
  obtain ⟨⟨_, x0, x1, x2, x3, x4⟩, ⟨_, a0, a1, a2⟩, f1, f2, _⟩ := id S6
  obtain ⟨_, r0, r1, r2, r3, r4, r5⟩ := id Z6
  go_upto_region 10 with fail
  have S7 := S6.drop true
  have B7 := B6.setCell (p := ⟨A, 2, none⟩) (Nat.le_of_lt hWX) (.bool true)
  have Z7 := Z6.other (A := A) (i := 2) (.bool true) (by omega)
  clear S6 B6 Z6 x0 x1 x2 x3 x4 a0 a1 a2 f1 f2 r0 r1 r2 r3 r4 r5
  generalize V6.setCell ⟨A, 2, none⟩ (.bool true) = V7 at *
  obtain ⟨⟨_, x0, x1, x2, x3, x4⟩, ⟨_, a0, a1, a2⟩, f1, f2, _⟩ := id S7
  obtain ⟨_, r0, r1, r2, r3, r4, r5⟩ := id Z7
  go_wp2_with fail
  go_at_call 20
  refine (HC.out _).mono ?_
  rintro e V8 ⟨rfl, c8⟩
  have A8 := S7.2.1.keep c8
  have B8 := bup B7 c8
  have Z8 := Z7.keep c8
  clear S7 B7 Z7 c8 x0 x1 x2 x3 x4 a0 a1 a2 f1 f2 r0 r1 r2 r3 r4 r5
  obtain ⟨_, a0, a1, a2⟩ := id A8
  obtain ⟨_, r0, r1, r2, r3, r4, r5⟩ := id Z8
  go_wp2_with fail
  exact bodyPost_ret (v := .tuple #[.agg #[.int .i64 0, .int .i64 0, .bool false], .int .i64 14]) (by simp [results, Tryz.results10, go_sem, r0, r1, r2]) rfl ⟨rfl, ((B8.setCell (p := ⟨w.heap.size, 0, none⟩) (Nat.le_refl _) _).setCell (p := ⟨w.heap.size, 1, none⟩) (Nat.le_refl _) _).setCell (p := ⟨w.heap.size, 2, none⟩) (Nat.le_refl _) _⟩
set_option maxRecDepth 100000 in
set_option maxHeartbeats 2000000 in
theorem rrate_SDk (l : List UInt8) (n : Int) (k1 : Nat) (hlb : l.length ≤ 9223372036854775807) (hk1 : k1 < (bs l).size) (h47 : (bs l)[k1] = 47) (d : Int) (k2 : Nat) (hd : (d == 1) = false) (hbk2 : k2 < (bs l).size) (h100 : (bs l)[k2] = 100) (hE : ((k2 : Int) + 1 != (l.length : Int)) = false) (w : World)
    (H1 : ∀ B w, RdAt w B l 0 false → Calls Tryz.prog 36 #[.pointer (some ⟨B, 0, none⟩)] w fun e w' => e = .returned (.int .i64 n) ∧ RdAt w' B l k1 false ∧ But (fun x => x = B) w w')
    (H2 : ∀ B w, RdAt w B l (k1 + 1) false → Calls Tryz.prog 36 #[.pointer (some ⟨B, 0, none⟩)] w fun e w' => e = .returned (.int .i64 d) ∧ RdAt w' B l k2 false ∧ But (fun x => x = B) w w')
    (HC : ∀ w, Calls Tryz.prog 20 #[.agg #[.int .i64 n, .int .i64 d, .bool true]] w fun e w' => e = .returned (.int .i64 0) ∧ Below w.heap.size w w') :
    Calls Tryz.prog 10 #[.string (bs l)] w fun e w' => e = .returned (.tuple #[.agg #[.int .i64 n, .int .i64 d, .bool true], .int .i64 0]) ∧ Below w.heap.size w w' := by
  have H1 := hideR H1
  have H2 := hideR H2
  have HC := hideR HC
  have hsz := bs_size l
  have zl : ((bs l).size : Int) ≤ 9223372036854775807 := by omega
  have zk1 : (k1 : Int) < (l.length : Int) := by omega
  have yk1 : (k1 : Int) < ((bs l).size : Int) := by omega
  have tk1 : k1 < (bs l).size := by omega
  have n47 : (((bs l)[k1].toNat : Int) == 47) = true := by rw [h47]; rfl
  have m47 : (bs l)[k1].toNat = 47 := by rw [h47]; rfl
  have zk2 : (k2 : Int) < (l.length : Int) := by omega
  have yk2 : (k2 : Int) < ((bs l).size : Int) := by omega
  have tk2 : k2 < (bs l).size := by omega
  have n100 : (((bs l)[k2].toNat : Int) == 100) = true := by rw [h100]; rfl
  have m100 : (bs l)[k2].toNat = 100 := by rw [h100]; rfl
  go_enter Tryz.func10, Tryz.ntmps10
  go_wp2_with fail
  have Z0 := (RateW.new w 0 0 false).keep (bel1 _ (.cells #[.string (bs l), .int .i64 0, .bool false] 66))
  have X0 := (RdAt.new (w.alloc (.cells #[.int .i64 0, .int .i64 0, .bool false] 31)) l).at (B2 := w.heap.size + 1) (by simp)
  have B0 := bel2 w (.cells #[.int .i64 0, .int .i64 0, .bool false] 31) (.cells #[.string (bs l), .int .i64 0, .bool false] 66)
  have hAX : w.heap.size < w.heap.size + 1 := Nat.lt_succ_self _
  have hXX := X0.1
  go_at_call 36
  refine (H1.out _ _ X0).mono ?_
  rintro e w1 ⟨rfl, X1, u1⟩
  have s1 := u1.size
  have Z1 := Z0.but u1 (by omega)
  have B01 := B0.trans (u1.below (m := w.heap.size) (by omega) (fun x e => by omega))
  clear X0 B0 Z0 u1
  generalize w.heap.size + 1 = X at *
  have hWX : w.heap.size < w1.heap.size := by have := X1.1; omega
  have S0 := RS.new X1 n 1 false
  have B0 : Below w.heap.size w (w1.alloc (.cells #[.int .i64 n, .int .i64 1, .bool false] 31)) := bup B01 (bel1 w1 _)
  have Z0 := Z1.keep (bel1 w1 (.cells #[.int .i64 n, .int .i64 1, .bool false] 31))
  clear X1 B01 s1 Z1
  go_upto_region 3 with fail
  have S1 := S0
  have B1 := B0
  have Z1 := Z0
  clear S0 B0 Z0
  generalize w1.alloc (.cells #[.int .i64 n, .int .i64 1, .bool false] 31) = V1 at *
  obtain ⟨⟨_, x0, x1, x2, x3, x4⟩, ⟨_, a0, a1, a2⟩, f1, f2, _⟩ := id S1
  obtain ⟨_, r0, r1, r2, r3, r4, r5⟩ := id Z1
  generalize w1.heap.size = A at *
  go_upto_region 4 with fail
  go_upto_region 5 with fail
  have S2 := S1.step
  have B2 := B1.setCell (p := ⟨X, 1, none⟩) (Nat.le_of_lt hAX) (.int .i64 ((k1 : Int) + 1))
  have Z2 := Z1.other (A := X) (i := 1) (.int .i64 ((k1 : Int) + 1)) (by omega)
  clear S1 B1 Z1 x0 x1 x2 x3 x4 a0 a1 a2 f1 f2 r0 r1 r2 r3 r4 r5
  generalize V1.setCell ⟨X, 1, none⟩ (.int .i64 ((k1 : Int) + 1)) = V2 at *
  obtain ⟨⟨_, x0, x1, x2, x3, x4⟩, ⟨_, a0, a1, a2⟩, f1, f2, _⟩ := id S2
  obtain ⟨_, r0, r1, r2, r3, r4, r5⟩ := id Z2
  go_wp2_with fail
  go_at_call 36
  refine (H2.out _ _ S2.1).mono ?_
  rintro e V3 ⟨rfl, X3, u3⟩
  have S3 := S2.call X3 u3
  have B3 := B2.trans (u3.below (by exact B2.size) (fun x e => by omega))
  have Z3 := Z2.but u3 (by omega)
  clear S2 B2 Z2 X3 u3 x0 x1 x2 x3 x4 a0 a1 a2 f1 f2 r0 r1 r2 r3 r4 r5
  obtain ⟨⟨_, x0, x1, x2, x3, x4⟩, ⟨_, a0, a1, a2⟩, f1, f2, _⟩ := id S3
  obtain ⟨_, r0, r1, r2, r3, r4, r5⟩ := id Z3
  go_upto_region 6 with fail
  have S4 := S3.den d
  have B4 := B3.setCell (p := ⟨A, 1, none⟩) (Nat.le_of_lt hWX) (.int .i64 d)
  have Z4 := Z3.other (A := A) (i := 1) (.int .i64 d) (by omega)
  clear S3 B3 Z3 x0 x1 x2 x3 x4 a0 a1 a2 f1 f2 r0 r1 r2 r3 r4 r5
  generalize V3.setCell ⟨A, 1, none⟩ (.int .i64 d) = V4 at *
  obtain ⟨⟨_, x0, x1, x2, x3, x4⟩, ⟨_, a0, a1, a2⟩, f1, f2, _⟩ := id S4
  obtain ⟨_, r0, r1, r2, r3, r4, r5⟩ := id Z4
  go_upto_region 7 with fail
  have S5 := S4.bad false
  have B5 := B4.setCell (p := ⟨X, 2, none⟩) (Nat.le_of_lt hAX) (.bool false)
  have Z5 := Z4.other (A := X) (i := 2) (.bool false) (by omega)
  clear S4 B4 Z4 x0 x1 x2 x3 x4 a0 a1 a2 f1 f2 r0 r1 r2 r3 r4 r5
  generalize V4.setCell ⟨X, 2, none⟩ (.bool false) = V5 at *
  obtain ⟨⟨_, x0, x1, x2, x3, x4⟩, ⟨_, a0, a1, a2⟩, f1, f2, _⟩ := id S5
  obtain ⟨_, r0, r1, r2, r3, r4, r5⟩ := id Z5
  go_upto_region 8 with fail
  go_upto_region 9 with fail
  have S6 := S5.step
  have B6 := B5.setCell (p := ⟨X, 1, none⟩) (Nat.le_of_lt hAX) (.int .i64 ((k2 : Int) + 1))
  have Z6 := Z5.other (A := X) (i := 1) (.int .i64 ((k2 : Int) + 1)) (by omega)
  clear S5 B5 Z5 x0 x1 x2 x3 x4 a0 a1 a2 f1 f2 r0 r1 r2 r3 r4 r5
  generalize V5.setCell ⟨X, 1, none⟩ (.int .i64 ((k2 : Int) + 1)) = V6 at *
  obtain ⟨⟨_, x0, x1, x2, x3, x4⟩, ⟨_, a0, a1, a2⟩, f1, f2, _⟩ := id S6
  obtain ⟨_, r0, r1, r2, r3, r4, r5⟩ := id Z6
  go_upto_region 10 with fail
  have S7 := S6.drop true
  have B7 := B6.setCell (p := ⟨A, 2, none⟩) (Nat.le_of_lt hWX) (.bool true)
  have Z7 := Z6.other (A := A) (i := 2) (.bool true) (by omega)
  clear S6 B6 Z6 x0 x1 x2 x3 x4 a0 a1 a2 f1 f2 r0 r1 r2 r3 r4 r5
  generalize V6.setCell ⟨A, 2, none⟩ (.bool true) = V7 at *
  obtain ⟨⟨_, x0, x1, x2, x3, x4⟩, ⟨_, a0, a1, a2⟩, f1, f2, _⟩ := id S7
  obtain ⟨_, r0, r1, r2, r3, r4, r5⟩ := id Z7
  go_wp2_with fail
  go_at_call 20
  refine (HC.out _).mono ?_
  rintro e V8 ⟨rfl, c8⟩
  have A8 := S7.2.1.keep c8
  have B8 := bup B7 c8
  have Z8 := Z7.keep c8
  clear S7 B7 Z7 c8 x0 x1 x2 x3 x4 a0 a1 a2 f1 f2 r0 r1 r2 r3 r4 r5
  obtain ⟨_, a0, a1, a2⟩ := id A8
  obtain ⟨_, r0, r1, r2, r3, r4, r5⟩ := id Z8
  go_wp2_with fail
  exact bodyPost_ret (v := .tuple #[.agg #[.int .i64 n, .int .i64 d, .bool true], .int .i64 0]) (by simp [results, Tryz.results10, go_sem, r0, r1, r2]) rfl ⟨rfl, ((B8.setCell (p := ⟨w.heap.size, 0, none⟩) (Nat.le_refl _) _).setCell (p := ⟨w.heap.size, 1, none⟩) (Nat.le_refl _) _).setCell (p := ⟨w.heap.size, 2, none⟩) (Nat.le_refl _) _⟩
set_option maxRecDepth 100000 in
set_option maxHeartbeats 2000000 in
theorem rrate_SF (l : List UInt8) (n : Int) (k1 : Nat) (hlb : l.length ≤ 9223372036854775807) (hk1 : k1 < (bs l).size) (h47 : (bs l)[k1] = 47) (d : Int) (k2 : Nat) (hd : (d == 1) = false) (hbk2 : k2 < (bs l).size) (h100 : (bs l)[k2] = 100) (hE : ((k2 : Int) + 1 != (l.length : Int)) = true) (w : World)
    (H1 : ∀ B w, RdAt w B l 0 false → Calls Tryz.prog 36 #[.pointer (some ⟨B, 0, none⟩)] w fun e w' => e = .returned (.int .i64 n) ∧ RdAt w' B l k1 false ∧ But (fun x => x = B) w w')
    (H2 : ∀ B w, RdAt w B l (k1 + 1) false → Calls Tryz.prog 36 #[.pointer (some ⟨B, 0, none⟩)] w fun e w' => e = .returned (.int .i64 d) ∧ RdAt w' B l k2 false ∧ But (fun x => x = B) w w') :
    Calls Tryz.prog 10 #[.string (bs l)] w fun e w' => e = .returned (.tuple #[.agg #[.int .i64 0, .int .i64 0, .bool false], .int .i64 13]) ∧ Below w.heap.size w w' := by
  have H1 := hideR H1
  have H2 := hideR H2
  have hsz := bs_size l
  have zl : ((bs l).size : Int) ≤ 9223372036854775807 := by omega
  have zk1 : (k1 : Int) < (l.length : Int) := by omega
  have yk1 : (k1 : Int) < ((bs l).size : Int) := by omega
  have tk1 : k1 < (bs l).size := by omega
  have n47 : (((bs l)[k1].toNat : Int) == 47) = true := by rw [h47]; rfl
  have m47 : (bs l)[k1].toNat = 47 := by rw [h47]; rfl
  have zk2 : (k2 : Int) < (l.length : Int) := by omega
  have yk2 : (k2 : Int) < ((bs l).size : Int) := by omega
  have tk2 : k2 < (bs l).size := by omega
  have n100 : (((bs l)[k2].toNat : Int) == 100) = true := by rw [h100]; rfl
  have m100 : (bs l)[k2].toNat = 100 := by rw [h100]; rfl
  go_enter Tryz.func10, Tryz.ntmps10
  go_wp2_with fail
  have Z0 := (RateW.new w 0 0 false).keep (bel1 _ (.cells #[.string (bs l), .int .i64 0, .bool false] 66))
  have X0 := (RdAt.new (w.alloc (.cells #[.int .i64 0, .int .i64 0, .bool false] 31)) l).at (B2 := w.heap.size + 1) (by simp)
  have B0 := bel2 w (.cells #[.int .i64 0, .int .i64 0, .bool false] 31) (.cells #[.string (bs l), .int .i64 0, .bool false] 66)
  have hAX : w.heap.size < w.heap.size + 1 := Nat.lt_succ_self _
  have hXX := X0.1
  go_at_call 36
  refine (H1.out _ _ X0).mono ?_
  rintro e w1 ⟨rfl, X1, u1⟩
  have s1 := u1.size
  have Z1 := Z0.but u1 (by omega)
  have B01 := B0.trans (u1.below (m := w.heap.size) (by omega) (fun x e => by omega))
  clear X0 B0 Z0 u1
  generalize w.heap.size + 1 = X at *
  have hWX : w.heap.size < w1.heap.size := by have := X1.1; omega
  have S0 := RS.new X1 n 1 false
  have B0 : Below w.heap.size w (w1.alloc (.cells #[.int .i64 n, .int .i64 1, .bool false] 31)) := bup B01 (bel1 w1 _)
  have Z0 := Z1.keep (bel1 w1 (.cells #[.int .i64 n, .int .i64 1, .bool false] 31))
  clear X1 B01 s1 Z1
  go_upto_region 3 with fail
  have S1 := S0
  have B1 := B0
  have Z1 := Z0
  clear S0 B0 Z0
  generalize w1.alloc (.cells #[.int .i64 n, .int .i64 1, .bool false] 31) = V1 at *
  obtain ⟨⟨_, x0, x1, x2, x3, x4⟩, ⟨_, a0, a1, a2⟩, f1, f2, _⟩ := id S1
  obtain ⟨_, r0, r1, r2, r3, r4, r5⟩ := id Z1
  generalize w1.heap.size = A at *
  go_upto_region 4 with fail
  go_upto_region 5 with fail
  have S2 := S1.step
  have B2 := B1.setCell (p := ⟨X, 1, none⟩) (Nat.le_of_lt hAX) (.int .i64 ((k1 : Int) + 1))
  have Z2 := Z1.other (A := X) (i := 1) (.int .i64 ((k1 : Int) + 1)) (by omega)
  clear S1 B1 Z1 x0 x1 x2 x3 x4 a0 a1 a2 f1 f2 r0 r1 r2 r3 r4 r5
  generalize V1.setCell ⟨X, 1, none⟩ (.int .i64 ((k1 : Int) + 1)) = V2 at *
  obtain ⟨⟨_, x0, x1, x2, x3, x4⟩, ⟨_, a0, a1, a2⟩, f1, f2, _⟩ := id S2
  obtain ⟨_, r0, r1, r2, r3, r4, r5⟩ := id Z2
  go_wp2_with fail
  go_at_call 36
  refine (H2.out _ _ S2.1).mono ?_
  rintro e V3 ⟨rfl, X3, u3⟩
  have S3 := S2.call X3 u3
  have B3 := B2.trans (u3.below (by exact B2.size) (fun x e => by omega))
  have Z3 := Z2.but u3 (by omega)
  clear S2 B2 Z2 X3 u3 x0 x1 x2 x3 x4 a0 a1 a2 f1 f2 r0 r1 r2 r3 r4 r5
  obtain ⟨⟨_, x0, x1, x2, x3, x4⟩, ⟨_, a0, a1, a2⟩, f1, f2, _⟩ := id S3
  obtain ⟨_, r0, r1, r2, r3, r4, r5⟩ := id Z3
  go_upto_region 6 with fail
  have S4 := S3.den d
  have B4 := B3.setCell (p := ⟨A, 1, none⟩) (Nat.le_of_lt hWX) (.int .i64 d)
  have Z4 := Z3.other (A := A) (i := 1) (.int .i64 d) (by omega)
  clear S3 B3 Z3 x0 x1 x2 x3 x4 a0 a1 a2 f1 f2 r0 r1 r2 r3 r4 r5
  generalize V3.setCell ⟨A, 1, none⟩ (.int .i64 d) = V4 at *
  obtain ⟨⟨_, x0, x1, x2, x3, x4⟩, ⟨_, a0, a1, a2⟩, f1, f2, _⟩ := id S4
  obtain ⟨_, r0, r1, r2, r3, r4, r5⟩ := id Z4
  go_upto_region 7 with fail
  have S5 := S4.bad false
  have B5 := B4.setCell (p := ⟨X, 2, none⟩) (Nat.le_of_lt hAX) (.bool false)
  have Z5 := Z4.other (A := X) (i := 2) (.bool false) (by omega)
  clear S4 B4 Z4 x0 x1 x2 x3 x4 a0 a1 a2 f1 f2 r0 r1 r2 r3 r4 r5
  generalize V4.setCell ⟨X, 2, none⟩ (.bool false) = V5 at *
  obtain ⟨⟨_, x0, x1, x2, x3, x4⟩, ⟨_, a0, a1, a2⟩, f1, f2, _⟩ := id S5
  obtain ⟨_, r0, r1, r2, r3, r4, r5⟩ := id Z5
  go_upto_region 8 with fail
  go_upto_region 9 with fail
  have S6 := S5.step
  have B6 := B5.setCell (p := ⟨X, 1, none⟩) (Nat.le_of_lt hAX) (.int .i64 ((k2 : Int) + 1))
  have Z6 := Z5.other (A := X) (i := 1) (.int .i64 ((k2 : Int) + 1)) (by omega)
  clear S5 B5 Z5 x0 x1 x2 x3 x4 a0 a1 a2 f1 f2 r0 r1 r2 r3 r4 r5
  generalize V5.setCell ⟨X, 1, none⟩ (.int .i64 ((k2 : Int) + 1)) = V6 at *
  obtain ⟨⟨_, x0, x1, x2, x3, x4⟩, ⟨_, a0, a1, a2⟩, f1, f2, _⟩ := id S6
  obtain ⟨_, r0, r1, r2, r3, r4, r5⟩ := id Z6
  go_upto_region 10 with fail
  have S7 := S6.drop true
  have B7 := B6.setCell (p := ⟨A, 2, none⟩) (Nat.le_of_lt hWX) (.bool true)
  have Z7 := Z6.other (A := A) (i := 2) (.bool true) (by omega)
  clear S6 B6 Z6 x0 x1 x2 x3 x4 a0 a1 a2 f1 f2 r0 r1 r2 r3 r4 r5
  generalize V6.setCell ⟨A, 2, none⟩ (.bool true) = V7 at *
  obtain ⟨⟨_, x0, x1, x2, x3, x4⟩, ⟨_, a0, a1, a2⟩, f1, f2, _⟩ := id S7
  obtain ⟨_, r0, r1, r2, r3, r4, r5⟩ := id Z7
  go_upto_region 11 with fail
  go_wp2_with fail
  exact bodyPost_ret (v := .tuple #[.agg #[.int .i64 0, .int .i64 0, .bool false], .int .i64 13]) (by simp [results, Tryz.results10, go_sem, r0, r1, r2]) rfl ⟨rfl, ((B7.setCell (p := ⟨w.heap.size, 0, none⟩) (Nat.le_refl _) _).setCell (p := ⟨w.heap.size, 1, none⟩) (Nat.le_refl _) _).setCell (p := ⟨w.heap.size, 2, none⟩) (Nat.le_refl _) _⟩
set_option maxRecDepth 100000 in
set_option maxHeartbeats 2000000 in
theorem rrate_SG (l : List UInt8) (n : Int) (k1 : Nat) (hlb : l.length ≤ 9223372036854775807) (hk1 : k1 < (bs l).size) (h47 : (bs l)[k1] = 47) (d : Int) (k2 : Nat) (hd : (d == 1) = false) (hbk2 : k2 < (bs l).size) (h100 : ¬ (bs l)[k2] = 100) (w : World)
    (H1 : ∀ B w, RdAt w B l 0 false → Calls Tryz.prog 36 #[.pointer (some ⟨B, 0, none⟩)] w fun e w' => e = .returned (.int .i64 n) ∧ RdAt w' B l k1 false ∧ But (fun x => x = B) w w')
    (H2 : ∀ B w, RdAt w B l (k1 + 1) false → Calls Tryz.prog 36 #[.pointer (some ⟨B, 0, none⟩)] w fun e w' => e = .returned (.int .i64 d) ∧ RdAt w' B l k2 false ∧ But (fun x => x = B) w w') :
    Calls Tryz.prog 10 #[.string (bs l)] w fun e w' => e = .returned (.tuple #[.agg #[.int .i64 0, .int .i64 0, .bool false], .int .i64 13]) ∧ Below w.heap.size w w' := by
  have H1 := hideR H1
  have H2 := hideR H2
  have hsz := bs_size l
  have zl : ((bs l).size : Int) ≤ 9223372036854775807 := by omega
  have zk1 : (k1 : Int) < (l.length : Int) := by omega
  have yk1 : (k1 : Int) < ((bs l).size : Int) := by omega
  have tk1 : k1 < (bs l).size := by omega
  have n47 : (((bs l)[k1].toNat : Int) == 47) = true := by rw [h47]; rfl
  have m47 : (bs l)[k1].toNat = 47 := by rw [h47]; rfl
  have zk2 : (k2 : Int) < (l.length : Int) := by omega
  have yk2 : (k2 : Int) < ((bs l).size : Int) := by omega
  have tk2 : k2 < (bs l).size := by omega
  have m100 : ¬ (bs l)[k2].toNat = 100 := fun x => h100 (UInt8.toNat_inj.1 x)
  have n100 : (((bs l)[k2].toNat : Int) == 100) = false := by
    rw [beq_eq_false_iff_ne]
    omega
  have hE : ((k2 : Int) != (l.length : Int)) = true := by
    rw [bne_iff_ne]
    omega
  go_enter Tryz.func10, Tryz.ntmps10
  go_wp2_with fail
  have Z0 := (RateW.new w 0 0 false).keep (bel1 _ (.cells #[.string (bs l), .int .i64 0, .bool false] 66))
  have X0 := (RdAt.new (w.alloc (.cells #[.int .i64 0, .int .i64 0, .bool false] 31)) l).at (B2 := w.heap.size + 1) (by simp)
  have B0 := bel2 w (.cells #[.int .i64 0, .int .i64 0, .bool false] 31) (.cells #[.string (bs l), .int .i64 0, .bool false] 66)
  have hAX : w.heap.size < w.heap.size + 1 := Nat.lt_succ_self _
  have hXX := X0.1
  go_at_call 36
  refine (H1.out _ _ X0).mono ?_
  rintro e w1 ⟨rfl, X1, u1⟩
  have s1 := u1.size
  have Z1 := Z0.but u1 (by omega)
  have B01 := B0.trans (u1.below (m := w.heap.size) (by omega) (fun x e => by omega))
  clear X0 B0 Z0 u1
  generalize w.heap.size + 1 = X at *
  have hWX : w.heap.size < w1.heap.size := by have := X1.1; omega
  have S0 := RS.new X1 n 1 false
  have B0 : Below w.heap.size w (w1.alloc (.cells #[.int .i64 n, .int .i64 1, .bool false] 31)) := bup B01 (bel1 w1 _)
  have Z0 := Z1.keep (bel1 w1 (.cells #[.int .i64 n, .int .i64 1, .bool false] 31))
  clear X1 B01 s1 Z1
  go_upto_region 3 with fail
  have S1 := S0
  have B1 := B0
  have Z1 := Z0
  clear S0 B0 Z0
  generalize w1.alloc (.cells #[.int .i64 n, .int .i64 1, .bool false] 31) = V1 at *
  obtain ⟨⟨_, x0, x1, x2, x3, x4⟩, ⟨_, a0, a1, a2⟩, f1, f2, _⟩ := id S1
  obtain ⟨_, r0, r1, r2, r3, r4, r5⟩ := id Z1
  generalize w1.heap.size = A at *
  go_upto_region 4 with fail
  go_upto_region 5 with fail
  have S2 := S1.step
  have B2 := B1.setCell (p := ⟨X, 1, none⟩) (Nat.le_of_lt hAX) (.int .i64 ((k1 : Int) + 1))
  have Z2 := Z1.other (A := X) (i := 1) (.int .i64 ((k1 : Int) + 1)) (by omega)
  clear S1 B1 Z1 x0 x1 x2 x3 x4 a0 a1 a2 f1 f2 r0 r1 r2 r3 r4 r5
  generalize V1.setCell ⟨X, 1, none⟩ (.int .i64 ((k1 : Int) + 1)) = V2 at *
  obtain ⟨⟨_, x0, x1, x2, x3, x4⟩, ⟨_, a0, a1, a2⟩, f1, f2, _⟩ := id S2
  obtain ⟨_, r0, r1, r2, r3, r4, r5⟩ := id Z2
  go_wp2_with fail
  go_at_call 36
  refine (H2.out _ _ S2.1).mono ?_
  rintro e V3 ⟨rfl, X3, u3⟩
  have S3 := S2.call X3 u3
  have B3 := B2.trans (u3.below (by exact B2.size) (fun x e => by omega))
  have Z3 := Z2.but u3 (by omega)
  clear S2 B2 Z2 X3 u3 x0 x1 x2 x3 x4 a0 a1 a2 f1 f2 r0 r1 r2 r3 r4 r5
  obtain ⟨⟨_, x0, x1, x2, x3, x4⟩, ⟨_, a0, a1, a2⟩, f1, f2, _⟩ := id S3
  obtain ⟨_, r0, r1, r2, r3, r4, r5⟩ := id Z3
  go_upto_region 6 with fail
  have S4 := S3.den d
  have B4 := B3.setCell (p := ⟨A, 1, none⟩) (Nat.le_of_lt hWX) (.int .i64 d)
  have Z4 := Z3.other (A := A) (i := 1) (.int .i64 d) (by omega)
  clear S3 B3 Z3 x0 x1 x2 x3 x4 a0 a1 a2 f1 f2 r0 r1 r2 r3 r4 r5
  generalize V3.setCell ⟨A, 1, none⟩ (.int .i64 d) = V4 at *
  obtain ⟨⟨_, x0, x1, x2, x3, x4⟩, ⟨_, a0, a1, a2⟩, f1, f2, _⟩ := id S4
  obtain ⟨_, r0, r1, r2, r3, r4, r5⟩ := id Z4
  go_upto_region 7 with fail
  have S5 := S4.bad false
  have B5 := B4.setCell (p := ⟨X, 2, none⟩) (Nat.le_of_lt hAX) (.bool false)
  have Z5 := Z4.other (A := X) (i := 2) (.bool false) (by omega)
  clear S4 B4 Z4 x0 x1 x2 x3 x4 a0 a1 a2 f1 f2 r0 r1 r2 r3 r4 r5
  generalize V4.setCell ⟨X, 2, none⟩ (.bool false) = V5 at *
  obtain ⟨⟨_, x0, x1, x2, x3, x4⟩, ⟨_, a0, a1, a2⟩, f1, f2, _⟩ := id S5
  obtain ⟨_, r0, r1, r2, r3, r4, r5⟩ := id Z5
  go_upto_region 11 with fail
  go_wp2_with fail
  exact bodyPost_ret (v := .tuple #[.agg #[.int .i64 0, .int .i64 0, .bool false], .int .i64 13]) (by simp [results, Tryz.results10, go_sem, r0, r1, r2]) rfl ⟨rfl, ((B5.setCell (p := ⟨w.heap.size, 0, none⟩) (Nat.le_refl _) _).setCell (p := ⟨w.heap.size, 1, none⟩) (Nat.le_refl _) _).setCell (p := ⟨w.heap.size, 2, none⟩) (Nat.le_refl _) _⟩
end Go.Proofs.YtaipdckakgohjaaGreatDoor

/- surtitleref5.Rate at every text. -/
namespace Go.Proofs.YtaipdckakgohjaaGreatDoor
open Go.RowKit Go.Shelf

theorem rrate_any (l : List UInt8) (hl : l.length ≤ 9223372036854775807) (w : World) :
    Calls Tryz.prog 10 #[.string (bs l)] w fun e w' => e = .returned (.tuple #[.agg #[.int .i64 (rateF l).1.1, .int .i64 (rateF l).1.2.1, .bool (rateF l).1.2.2], .int .i64 (rateF l).2]) ∧ Below w.heap.size w w' := by
  have hsz := bs_size l
  have HS := rate_same l
  have H1 : ∀ B w, RdAt w B l 0 false → Calls Tryz.prog 36 #[.pointer (some ⟨B, 0, none⟩)] w fun e w' => e = .returned (.int .i64 (plS l 0 false).1) ∧ RdAt w' B l (plS l 0 false).2.1 (plS l 0 false).2.2 ∧ But (fun x => x = B) w w' := fun B w h => rplain_any B l 0 false (by omega) hl w h
  have h1 := pl_le l 0 false (by omega)
  have NO : (rateA l).2 = false → rateF l = ((0, 0, false), 13) := fun x => by
    unfold rateF
    rw [if_neg (by rw [x]; simp)]
  have OK : ∀ n d dr, rateA l = ((n, d, dr), true) → rateF l = if checkI n d dr = 0 then ((n, d, dr), 0) else ((0, 0, false), 14) := fun n d dr x => by
    unfold rateF
    rw [if_pos (by rw [x]), x]
  generalize plS l 0 false = c1 at *
  obtain ⟨n, k1, b1⟩ := c1
  simp only at H1 h1
  cases b1 with
  | true =>
    have e2 : denS l (n, k1, true) = (1, k1, true) := by
      unfold denS
      rw [if_neg (by simp)]
    rw [e2] at HS
    simp only at HS
    rw [if_neg (by simp)] at HS
    rw [NO HS]
    exact rrate_A l n k1 hl w H1
  | false =>
    by_cases s : l[k1]? = some 47
    · obtain ⟨hk1, g47⟩ := List.getElem?_eq_some_iff.1 s
      have hb1 : k1 < (bs l).size := by omega
      have h47 : (bs l)[k1] = 47 := (bs_get l k1 hb1).trans g47
      have H2 : ∀ B w, RdAt w B l (k1 + 1) false → Calls Tryz.prog 36 #[.pointer (some ⟨B, 0, none⟩)] w fun e w' => e = .returned (.int .i64 (plS l (k1 + 1) false).1) ∧ RdAt w' B l (plS l (k1 + 1) false).2.1 (plS l (k1 + 1) false).2.2 ∧ But (fun x => x = B) w w' := fun B w h => rplain_any B l (k1 + 1) false (by omega) hl w h
      have h2 := pl_le l (k1 + 1) false (by omega)
      have e2 : denS l (n, k1, false) = ((plS l (k1 + 1) false).1, (plS l (k1 + 1) false).2.1, (plS l (k1 + 1) false).2.2 || ((plS l (k1 + 1) false).1 == 1)) := by
        unfold denS
        rw [if_pos ⟨rfl, s⟩]
      rw [e2] at HS
      clear e2
      generalize plS l (k1 + 1) false = p at *
      obtain ⟨d, k2, b2⟩ := p
      simp only at H2 h2 HS
      cases b2 with
      | true =>
        rw [if_neg (by simp)] at HS
        rw [NO HS]
        exact rrate_B l n k1 hl hb1 h47 d k2 w H1 H2
      | false =>
        rw [Bool.false_or] at HS
        cases hd : (d == 1) with
        | true =>
          rw [hd, if_neg (by simp)] at HS
          rw [NO HS]
          exact rrate_C l n k1 hl hb1 h47 d k2 hd w H1 H2
        | false =>
          rw [hd] at HS
          have hle : k2 ≤ l.length := h2
          by_cases hE : k2 = l.length
          · have e3 : dropS l (d, k2, false) = (false, k2) := by
              unfold dropS
              rw [if_neg]
              rintro ⟨_, y⟩
              simp only at y
              rw [List.getElem?_eq_none (by omega)] at y
              cases y
            rw [e3] at HS
            rw [if_pos ⟨by trivial, hE⟩] at HS
            rw [OK _ _ _ HS]
            by_cases ck : checkI n d false = 0
            · rw [if_pos ck]
              have HC := rcheck_any n d false
              rw [ck] at HC
              exact rrate_SEk l n k1 hl hb1 h47 d k2 hd hE w H1 H2 HC
            · rw [if_neg ck]
              have HC := rcheck_any n d false
              rw [(check_two n d false).resolve_left ck] at HC
              exact rrate_SEb l n k1 hl hb1 h47 d k2 hd hE 14 rfl w H1 H2 HC
          · have hk : k2 < l.length := by omega
            have hbk : k2 < (bs l).size := by omega
            have hg := bs_get l k2 hbk
            have hz : l[k2]? = some (l[k2]'hk) := List.getElem?_eq_getElem hk
            by_cases c : l[k2]'hk = 100
            · have h100 : (bs l)[k2] = 100 := hg.trans c
              have e3 : dropS l (d, k2, false) = (true, k2 + 1) := by
                unfold dropS
                rw [if_pos ⟨rfl, by rw [hz, c]⟩]
              rw [e3] at HS
              by_cases hF : k2 + 1 = l.length
              · rw [if_pos ⟨by trivial, hF⟩] at HS
                rw [OK _ _ _ HS]
                have hN : ((k2 : Int) + 1 != (l.length : Int)) = false := by
                  rw [bne_eq_false_iff_eq]
                  omega
                by_cases ck : checkI n d true = 0
                · rw [if_pos ck]
                  have HC := rcheck_any n d true
                  rw [ck] at HC
                  exact rrate_SDk l n k1 hl hb1 h47 d k2 hd hbk h100 hN w H1 H2 HC
                · rw [if_neg ck]
                  have HC := rcheck_any n d true
                  rw [(check_two n d true).resolve_left ck] at HC
                  exact rrate_SDb l n k1 hl hb1 h47 d k2 hd hbk h100 hN 14 rfl w H1 H2 HC
              · rw [if_neg (fun x => hF x.2)] at HS
                rw [NO HS]
                exact rrate_SF l n k1 hl hb1 h47 d k2 hd hbk h100 (by rw [bne_iff_ne]; omega) w H1 H2
            · have e3 : dropS l (d, k2, false) = (false, k2) := by
                unfold dropS
                rw [if_neg]
                rintro ⟨_, y⟩
                rw [hz] at y
                exact c (Option.some.inj y)
              rw [e3, if_neg (fun x => hE x.2)] at HS
              rw [NO HS]
              exact rrate_SG l n k1 hl hb1 h47 d k2 hd hbk (fun x => c (hg.symm.trans x)) w H1 H2
    · have e2 : denS l (n, k1, false) = (1, k1, false) := by
        unfold denS
        rw [if_neg (fun x => s x.2)]
      rw [e2] at HS
      simp only at HS
      have hle : k1 ≤ l.length := h1
      by_cases hE : k1 = l.length
      · have e3 : dropS l (1, k1, false) = (false, k1) := by
          unfold dropS
          rw [if_neg]
          rintro ⟨_, y⟩
          simp only at y
          rw [List.getElem?_eq_none (by omega)] at y
          cases y
        rw [e3] at HS
        rw [if_pos ⟨by trivial, hE⟩] at HS
        rw [OK _ _ _ HS]
        by_cases ck : checkI n 1 false = 0
        · rw [if_pos ck]
          have HC := rcheck_any n 1 false
          rw [ck] at HC
          exact rrate_NEk l n k1 hl hE w H1 HC
        · rw [if_neg ck]
          have HC := rcheck_any n 1 false
          rw [(check_two n 1 false).resolve_left ck] at HC
          exact rrate_NEb l n k1 hl hE 14 rfl w H1 HC
      · have hk : k1 < l.length := by omega
        have hbk : k1 < (bs l).size := by omega
        have hg := bs_get l k1 hbk
        have hz : l[k1]? = some (l[k1]'hk) := List.getElem?_eq_getElem hk
        have h47 : ¬ (bs l)[k1] = 47 := fun x => s (by rw [hz]; exact congrArg some (hg.symm.trans x))
        by_cases c : l[k1]'hk = 100
        · have h100 : (bs l)[k1] = 100 := hg.trans c
          have e3 : dropS l (1, k1, false) = (true, k1 + 1) := by
            unfold dropS
            rw [if_pos ⟨rfl, by rw [hz, c]⟩]
          rw [e3] at HS
          by_cases hF : k1 + 1 = l.length
          · rw [if_pos ⟨by trivial, hF⟩] at HS
            rw [OK _ _ _ HS]
            have hN : ((k1 : Int) + 1 != (l.length : Int)) = false := by
              rw [bne_eq_false_iff_eq]
              omega
            by_cases ck : checkI n 1 true = 0
            · rw [if_pos ck]
              have HC := rcheck_any n 1 true
              rw [ck] at HC
              exact rrate_NDk l n k1 hl hbk h47 h100 hN w H1 HC
            · rw [if_neg ck]
              have HC := rcheck_any n 1 true
              rw [(check_two n 1 true).resolve_left ck] at HC
              exact rrate_NDb l n k1 hl hbk h47 h100 hN 14 rfl w H1 HC
          · rw [if_neg (fun x => hF x.2)] at HS
            rw [NO HS]
            exact rrate_NF l n k1 hl hbk h47 h100 (by rw [bne_iff_ne]; omega) w H1
        · have e3 : dropS l (1, k1, false) = (false, k1) := by
            unfold dropS
            rw [if_neg]
            rintro ⟨_, y⟩
            rw [hz] at y
            exact c (Option.some.inj y)
          rw [e3, if_neg (fun x => hE x.2)] at HS
          rw [NO HS]
          exact rrate_NG l n k1 hl hbk h47 (fun x => c (hg.symm.trans x)) w H1
end Go.Proofs.YtaipdckakgohjaaGreatDoor
