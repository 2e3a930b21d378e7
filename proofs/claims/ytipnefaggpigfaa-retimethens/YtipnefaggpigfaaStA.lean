/- Stable sorting as mathematics: merging, the row in its order, rows that are parted and merged by parts. -/
import Derived.Test.YtipnefaggpigfaaProg
namespace Go.Proofs.Ytipnefaggpigfaa

/-- A strict weak order. -/
structure Swo {α : Type} (lt : α → α → Bool) : Prop where
  asym : ∀ x y, lt x y = true → lt y x = false
  ntr : ∀ x y z, lt x y = false → lt y z = false → lt x z = false
theorem Swo.trans {α : Type} {lt : α → α → Bool} (h : Swo lt) {x y z : α} (h1 : lt x y = true) (h2 : lt y z = true) : lt x z = true := by
  cases hxz : lt x z with
  | true => rfl
  | false =>
    have := h.ntr x z y hxz (h.asym _ _ h2)
    rw [h1] at this
    cases this
/-- x is less than y, y no greater than z. -/
theorem Swo.lt_le {α : Type} {lt : α → α → Bool} (h : Swo lt) {x y z : α} (h1 : lt x y = true) (h2 : lt z y = false) : lt x z = true := by
  cases hxz : lt x z with
  | true => rfl
  | false =>
    have := h.ntr x z y hxz h2
    rw [h1] at this
    cases this
theorem Swo.le_lt {α : Type} {lt : α → α → Bool} (h : Swo lt) {x y z : α} (h1 : lt y x = false) (h2 : lt y z = true) : lt x z = true := by
  cases hxz : lt x z with
  | true => rfl
  | false =>
    have := h.ntr y x z h1 hxz
    rw [h2] at this
    cases this
def Srt {α : Type} (lt : α → α → Bool) (l : List α) : Prop := l.Pairwise fun x y => lt y x = false
/-- Two rows merged: of two that are alike the one of the first row is ahead. -/
def mg {α : Type} (lt : α → α → Bool) : List α → List α → List α
  | [], R => R
  | x :: L, [] => x :: L
  | x :: L, y :: R => if lt y x = true then y :: mg lt (x :: L) R else x :: mg lt L (y :: R)
termination_by L R => L.length + R.length
theorem mg_nil {α : Type} (lt : α → α → Bool) (L : List α) : mg lt L [] = L := by
  cases L with
  | nil => rw [mg]
  | cons x L => rw [mg]
theorem mg_left {α : Type} (lt : α → α → Bool) (R : List α) : mg lt [] R = R := by rw [mg]
theorem mg_lt {α : Type} {lt : α → α → Bool} {x y : α} (L R : List α) (h : lt y x = true) : mg lt (x :: L) (y :: R) = y :: mg lt (x :: L) R := by rw [mg, if_pos h]
theorem mg_ge {α : Type} {lt : α → α → Bool} {x y : α} (L R : List α) (h : lt y x = false) : mg lt (x :: L) (y :: R) = x :: mg lt L (y :: R) := by rw [mg, if_neg (by rw [h]; decide)]
theorem mg_len {α : Type} (lt : α → α → Bool) (L R : List α) : (mg lt L R).length = L.length + R.length := by
  induction L generalizing R with
  | nil => rw [mg_left]; simp
  | cons x L ih =>
    induction R with
    | nil => rw [mg_nil]; simp
    | cons y R ih2 =>
      cases h : lt y x with
      | true => rw [mg_lt L R h, List.length_cons, ih2, List.length_cons, List.length_cons]; omega
      | false => rw [mg_ge L R h, List.length_cons, ih, List.length_cons, List.length_cons]; omega
theorem mg_mem {α : Type} (lt : α → α → Bool) (L R : List α) (z : α) : z ∈ mg lt L R ↔ z ∈ L ∨ z ∈ R := by
  induction L generalizing R with
  | nil => rw [mg_left]; simp
  | cons x L ih =>
    induction R with
    | nil => rw [mg_nil]; simp
    | cons y R ih2 =>
      cases h : lt y x with
      | true =>
        rw [mg_lt L R h, List.mem_cons, ih2, List.mem_cons, List.mem_cons]
        constructor
        · rintro (h | (h | h) | h)
          · exact .inr (.inl h)
          · exact .inl (.inl h)
          · exact .inl (.inr h)
          · exact .inr (.inr h)
        · rintro ((h | h) | (h | h))
          · exact .inr (.inl (.inl h))
          · exact .inr (.inl (.inr h))
          · exact .inl h
          · exact .inr (.inr h)
      | false =>
        simp only [mg_ge L R h, List.mem_cons, ih, or_assoc]
theorem mg_srt {α : Type} {lt : α → α → Bool} (h : Swo lt) (L R : List α) (hL : Srt lt L) (hR : Srt lt R) : Srt lt (mg lt L R) := by
  induction L generalizing R with
  | nil => rw [mg_left]; exact hR
  | cons x L ih =>
    induction R with
    | nil => rw [mg_nil]; exact hL
    | cons y R ih2 =>
      obtain ⟨l1, l2⟩ := List.pairwise_cons.1 hL
      obtain ⟨r1, r2⟩ := List.pairwise_cons.1 hR
      cases hc : lt y x with
      | true =>
        rw [mg_lt L R hc]
        refine List.pairwise_cons.2 ⟨fun z hz => ?_, ih2 r2⟩
        rcases (mg_mem lt _ _ z).1 hz with hz | hz
        · rcases List.mem_cons.1 hz with rfl | hz
          · exact h.asym _ _ hc
          · exact h.ntr _ _ _ (l1 z hz) (h.asym _ _ hc)
        · exact r1 z hz
      | false =>
        rw [mg_ge L R hc]
        refine List.pairwise_cons.2 ⟨fun z hz => ?_, ih _ l2 hR⟩
        rcases (mg_mem lt _ _ z).1 hz with hz | hz
        · exact l1 z hz
        · rcases List.mem_cons.1 hz with rfl | hz
          · exact hc
          · exact h.ntr _ _ _ (r1 z hz) hc
/-- Merging goes by brackets as one likes. -/
theorem mg_assoc {α : Type} {lt : α → α → Bool} (h : Swo lt) : ∀ (n : Nat) (L M N : List α), L.length + M.length + N.length ≤ n → mg lt (mg lt L M) N = mg lt L (mg lt M N)
  | _, [], M, N, _ => by rw [mg_left, mg_left]
  | _, x :: L, [], N, _ => by rw [mg_nil, mg_left]
  | _, x :: L, y :: M, [], _ => by rw [mg_nil, mg_nil]
  | 0, x :: L, y :: M, z :: N, hn => by simp at hn
  | n + 1, x :: L, y :: M, z :: N, hn => by
    simp only [List.length_cons] at hn
    cases hyx : lt y x with
    | true =>
      rw [mg_lt L M hyx]
      cases hzy : lt z y with
      | true =>
        rw [mg_lt _ N hzy, mg_lt M N hzy, mg_lt L _ (h.trans hzy hyx), ← mg_lt L M hyx]
        rw [mg_assoc h n (x :: L) (y :: M) N (by simp; omega)]
      | false =>
        rw [mg_ge _ N hzy, mg_ge M N hzy, mg_lt L _ hyx]
        rw [mg_assoc h n (x :: L) M (z :: N) (by simp; omega)]
    | false =>
      rw [mg_ge L M hyx]
      cases hzy : lt z y with
      | true =>
        rw [mg_lt M N hzy]
        cases hzx : lt z x with
        | true =>
          rw [mg_lt _ N hzx, mg_lt L _ hzx, ← mg_ge L M hyx]
          rw [mg_assoc h n (x :: L) (y :: M) N (by simp; omega)]
        | false =>
          rw [mg_ge _ N hzx, mg_ge L _ hzx, ← mg_lt M N hzy]
          rw [mg_assoc h n L (y :: M) (z :: N) (by simp; omega)]
      | false =>
        have hzx : lt z x = false := h.ntr _ _ _ hzy hyx
        rw [mg_ge _ N hzx, mg_ge M N hzy, mg_ge L _ hyx, ← mg_ge M N hzy]
        rw [mg_assoc h n L (y :: M) (z :: N) (by simp; omega)]
/-- The row in its order, one behind the other put in. -/
def isort {α : Type} (lt : α → α → Bool) (l : List α) : List α := l.foldl (fun S x => mg lt S [x]) []
theorem isort_snoc {α : Type} (lt : α → α → Bool) (l : List α) (x : α) : isort lt (l ++ [x]) = mg lt (isort lt l) [x] := by simp [isort]
theorem srt_one {α : Type} (lt : α → α → Bool) (x : α) : Srt lt [x] := List.pairwise_singleton _ _
theorem isort_fold {α : Type} {lt : α → α → Bool} (h : Swo lt) (S : List α) : ∀ (r : List α), r.reverse.foldl (fun S x => mg lt S [x]) S = mg lt S (isort lt r.reverse)
  | [] => by
    show S = mg lt S []
    rw [mg_nil]
  | x :: r => by
    rw [List.reverse_cons, List.foldl_append, isort_fold h S r, isort_snoc]
    show mg lt (mg lt S (isort lt r.reverse)) [x] = _
    exact mg_assoc h _ _ _ _ (Nat.le_refl _)
/-- What is in order by halves is merged to what is in order as a whole. -/
theorem isort_append {α : Type} {lt : α → α → Bool} (h : Swo lt) (A B : List α) : isort lt (A ++ B) = mg lt (isort lt A) (isort lt B) := by
  have := isort_fold h (isort lt A) B.reverse
  rw [List.reverse_reverse] at this
  rw [← this]
  simp [isort]
theorem isort_srt {α : Type} {lt : α → α → Bool} (h : Swo lt) : ∀ (r : List α), Srt lt (isort lt r.reverse)
  | [] => .nil
  | x :: r => by
    rw [List.reverse_cons, isort_snoc]
    exact mg_srt h _ _ (isort_srt h r) (srt_one lt x)
theorem isort_sorted {α : Type} {lt : α → α → Bool} (h : Swo lt) (l : List α) : Srt lt (isort lt l) := by
  have := isort_srt h l.reverse
  rwa [List.reverse_reverse] at this
theorem isort_len {α : Type} (lt : α → α → Bool) : ∀ (r : List α), (isort lt r.reverse).length = r.length
  | [] => rfl
  | x :: r => by rw [List.reverse_cons, isort_snoc, mg_len, isort_len lt r]; simp
theorem isort_length {α : Type} (lt : α → α → Bool) (l : List α) : (isort lt l).length = l.length := by
  have := isort_len lt l.reverse
  rw [List.reverse_reverse] at this
  rw [this, List.length_reverse]
/-- Where two rows are parted so that the fronts stand ahead of the rests, they are merged by parts. -/
theorem mg_split {α : Type} {lt : α → α → Bool} (h : Swo lt) (L2 R2 : List α) : ∀ (n : Nat) (L1 R1 : List α), L1.length + R1.length ≤ n → Srt lt (L1 ++ L2) → Srt lt (R1 ++ R2) → (∀ x ∈ L1, ∀ y ∈ R2, lt y x = false) → (∀ y ∈ R1, ∀ x ∈ L2, lt y x = true) → mg lt (L1 ++ L2) (R1 ++ R2) = mg lt L1 R1 ++ mg lt L2 R2
  | _, [], [], _, _, _, _, _ => by rw [mg_left]; rfl
  | 0, x :: L1, R1, hn, _, _, _, _ => by simp at hn
  | 0, [], y :: R1, hn, _, _, _, _ => by simp at hn
  | n + 1, [], y :: R1, hn, hL, hR, h1, h2 => by
    obtain ⟨r1, r2⟩ := List.pairwise_cons.1 hR
    have ih := mg_split h L2 R2 n [] R1 (by simp at hn ⊢; omega) hL r2 (fun x hx => by simp at hx) (fun z hz => h2 z (List.mem_cons_of_mem _ hz))
    rw [mg_left] at ih ⊢
    rw [List.nil_append] at ih ⊢
    cases L2 with
    | nil => rw [mg_left, mg_left]
    | cons x L2 =>
      show mg lt (x :: L2) (y :: (R1 ++ R2)) = y :: R1 ++ _
      rw [mg_lt _ _ (h2 y (List.mem_cons_self ..) x (List.mem_cons_self ..)), ih]
      rfl
  | n + 1, x :: L1, [], hn, hL, hR, h1, h2 => by
    obtain ⟨l1, l2⟩ := List.pairwise_cons.1 hL
    have ih := mg_split h L2 R2 n L1 [] (by simp at hn ⊢; omega) l2 hR (fun z hz => h1 z (List.mem_cons_of_mem _ hz)) (fun z hz => by simp at hz)
    rw [mg_nil] at ih ⊢
    rw [List.nil_append] at ih ⊢
    cases R2 with
    | nil => rw [mg_nil, mg_nil]
    | cons y R2 =>
      show mg lt (x :: (L1 ++ L2)) (y :: R2) = x :: L1 ++ _
      rw [mg_ge _ _ (h1 x (List.mem_cons_self ..) y (List.mem_cons_self ..)), ih]
      rfl
  | n + 1, x :: L1, y :: R1, hn, hL, hR, h1, h2 => by
    obtain ⟨l1, l2⟩ := List.pairwise_cons.1 hL
    obtain ⟨r1, r2⟩ := List.pairwise_cons.1 hR
    simp only [List.length_cons] at hn
    cases hc : lt y x with
    | true =>
      have ih := mg_split h L2 R2 n (x :: L1) R1 (by simp; omega) hL r2 h1 (fun z hz => h2 z (List.mem_cons_of_mem _ hz))
      show mg lt (x :: (L1 ++ L2)) (y :: (R1 ++ R2)) = _
      rw [mg_lt _ _ hc, mg_lt L1 R1 hc]
      show y :: mg lt (x :: L1 ++ L2) (R1 ++ R2) = _
      rw [ih]
      rfl
    | false =>
      have ih := mg_split h L2 R2 n L1 (y :: R1) (by simp; omega) l2 hR (fun z hz => h1 z (List.mem_cons_of_mem _ hz)) h2
      show mg lt (x :: (L1 ++ L2)) (y :: (R1 ++ R2)) = _
      rw [mg_ge _ _ hc, mg_ge L1 R1 hc]
      show x :: mg lt (L1 ++ L2) (y :: R1 ++ R2) = _
      rw [ih]
      rfl
/-- One ahead of a row is put in behind those that are less. -/
theorem mg_one {α : Type} {lt : α → α → Bool} (x : α) : ∀ (R : List α) (i : Nat), i ≤ R.length → (∀ j y, j < i → R[j]? = some y → lt y x = true) → (∀ y, R[i]? = some y → lt y x = false) → mg lt [x] R = R.take i ++ x :: R.drop i
  | [], i, hi, _, _ => by
    obtain rfl : i = 0 := by simpa using hi
    rw [mg_nil]
    rfl
  | y :: R, 0, _, _, h2 => by
    rw [mg_ge _ _ (h2 y rfl), mg_left]
    rfl
  | y :: R, i + 1, hi, h1, h2 => by
    rw [mg_lt _ _ (h1 0 y (by omega) rfl), mg_one x R i (by simpa using hi) (fun j z hj hz => h1 (j + 1) z (by omega) (by simpa using hz)) (fun z hz => h2 z (by simpa using hz))]
    rfl
/-- One behind a row is put in ahead of those that are greater. -/
theorem mg_last {α : Type} {lt : α → α → Bool} (y : α) : ∀ (L : List α) (i : Nat), i ≤ L.length → (∀ j x, j < i → L[j]? = some x → lt y x = false) → (∀ x, L[i]? = some x → lt y x = true) → mg lt L [y] = L.take i ++ y :: L.drop i
  | [], i, hi, _, _ => by
    obtain rfl : i = 0 := by simpa using hi
    rw [mg_left]
    rfl
  | x :: L, 0, _, _, h2 => by
    rw [mg_lt _ _ (h2 x rfl), mg_nil]
    rfl
  | x :: L, i + 1, hi, h1, h2 => by
    rw [mg_ge _ _ (h1 0 x (by omega) rfl), mg_last y L i (by simpa using hi) (fun j z hj hz => h1 (j + 1) z (by omega) (by simpa using hz)) (fun z hz => h2 z (by simpa using hz))]
    rfl
theorem srt_at {α : Type} {lt : α → α → Bool} {l : List α} (h : Srt lt l) {i j : Nat} {x y : α} (hij : i < j) (hx : l[i]? = some x) (hy : l[j]? = some y) : lt y x = false := by
  obtain ⟨h1, e1⟩ := List.getElem?_eq_some_iff.1 hx
  obtain ⟨h2, e2⟩ := List.getElem?_eq_some_iff.1 hy
  have := List.pairwise_iff_getElem.1 h i j h1 h2 hij
  rw [e1, e2] at this
  exact this
theorem srt_append {α : Type} {lt : α → α → Bool} {A B : List α} (h : Srt lt (A ++ B)) : Srt lt A ∧ Srt lt B := ⟨(List.pairwise_append.1 h).1, (List.pairwise_append.1 h).2.1⟩
theorem Swo.irr {α : Type} {lt : α → α → Bool} (h : Swo lt) (x : α) : lt x x = false := by
  cases hx : lt x x with
  | false => rfl
  | true => rw [h.asym x x hx] at hx; cases hx
/-- Two rows parted where the search has stopped: s of the first one, and k - s of the second. -/
theorem mg_parted {α : Type} {lt : α → α → Bool} (h : Swo lt) (L R : List α) (hL : Srt lt L) (hR : Srt lt R) (s e : Nat) (hs : s ≤ L.length) (he : e ≤ R.length)
    (h1 : ∀ x y, 0 < s → L[s - 1]? = some x → R[e]? = some y → lt y x = false) (h2 : ∀ x y, 0 < e → L[s]? = some x → R[e - 1]? = some y → lt y x = true) :
    mg lt L R = mg lt (L.take s) (R.take e) ++ mg lt (L.drop s) (R.drop e) := by
  have hL2 : Srt lt (L.take s ++ L.drop s) := by rw [List.take_append_drop]; exact hL
  have hR2 : Srt lt (R.take e ++ R.drop e) := by rw [List.take_append_drop]; exact hR
  have := mg_split h (L.drop s) (R.drop e) _ (L.take s) (R.take e) (Nat.le_refl _) hL2 hR2 (fun x hx y hy => ?_) (fun y hy x hx => ?_)
  · rw [List.take_append_drop, List.take_append_drop] at this
    exact this
  · obtain ⟨i, hi⟩ := List.getElem?_of_mem hx
    obtain ⟨j, hj⟩ := List.getElem?_of_mem hy
    have hil := (List.getElem?_eq_some_iff.1 hi).1
    rw [List.length_take] at hil
    rw [List.getElem?_take, if_pos (by omega)] at hi
    rw [List.getElem?_drop] at hj
    have hjl := (List.getElem?_eq_some_iff.1 hj).1
    obtain ⟨x', hx'⟩ : ∃ x', L[s - 1]? = some x' := ⟨_, List.getElem?_eq_getElem (by omega)⟩
    obtain ⟨y', hy'⟩ : ∃ y', R[e]? = some y' := ⟨_, List.getElem?_eq_getElem (by omega)⟩
    have a := h1 x' y' (by omega) hx' hy'
    have b : lt x' x = false := by
      by_cases hc : i = s - 1
      · subst hc
        rw [hi] at hx'
        obtain rfl := Option.some.inj hx'
        exact h.irr x
      · exact srt_at hL (by omega) hi hx'
    have c : lt y y' = false := by
      by_cases hc : j = 0
      · subst hc
        rw [Nat.add_zero, hy'] at hj
        obtain rfl := Option.some.inj hj
        exact h.irr _
      · exact srt_at hR (by omega) hy' hj
    exact h.ntr _ _ _ c (h.ntr _ _ _ a b)
  · obtain ⟨j, hj⟩ := List.getElem?_of_mem hy
    obtain ⟨i, hi⟩ := List.getElem?_of_mem hx
    have hjl := (List.getElem?_eq_some_iff.1 hj).1
    rw [List.length_take] at hjl
    rw [List.getElem?_take, if_pos (by omega)] at hj
    rw [List.getElem?_drop] at hi
    have hil := (List.getElem?_eq_some_iff.1 hi).1
    obtain ⟨x', hx'⟩ : ∃ x', L[s]? = some x' := ⟨_, List.getElem?_eq_getElem (by omega)⟩
    obtain ⟨y', hy'⟩ : ∃ y', R[e - 1]? = some y' := ⟨_, List.getElem?_eq_getElem (by omega)⟩
    have a := h2 x' y' (by omega) hx' hy'
    have b : lt x x' = false := by
      by_cases hc : i = 0
      · subst hc
        rw [Nat.add_zero, hx'] at hi
        obtain rfl := Option.some.inj hi
        exact h.irr _
      · exact srt_at hL (by omega) hx' hi
    have c : lt y' y = false := by
      by_cases hc : j = e - 1
      · subst hc
        rw [hj] at hy'
        obtain rfl := Option.some.inj hy'
        exact h.irr _
      · exact srt_at hR (by omega) hj hy'
    exact h.le_lt c (h.lt_le a b)
theorem mg_one_srt {α : Type} {lt : α → α → Bool} (h : Swo lt) (x : α) (R : List α) (hR : Srt lt R) (i : Nat) (hi : i ≤ R.length) (h1 : ∀ y, 0 < i → R[i - 1]? = some y → lt y x = true) (h2 : ∀ y, R[i]? = some y → lt y x = false) : mg lt [x] R = R.take i ++ x :: R.drop i := by
  refine mg_one x R i hi (fun j y hj hy => ?_) h2
  obtain ⟨z, hz⟩ : ∃ z, R[i - 1]? = some z := ⟨_, List.getElem?_eq_getElem (by omega)⟩
  have a := h1 z (by omega) hz
  by_cases hc : j = i - 1
  · subst hc
    rw [hy] at hz
    obtain rfl := Option.some.inj hz
    exact a
  · exact h.le_lt (srt_at hR (by omega) hy hz) a
theorem mg_last_srt {α : Type} {lt : α → α → Bool} (h : Swo lt) (y : α) (L : List α) (hL : Srt lt L) (i : Nat) (hi : i ≤ L.length) (h1 : ∀ x, 0 < i → L[i - 1]? = some x → lt y x = false) (h2 : ∀ x, L[i]? = some x → lt y x = true) : mg lt L [y] = L.take i ++ y :: L.drop i := by
  refine mg_last y L i hi (fun j x hj hx => ?_) h2
  obtain ⟨z, hz⟩ : ∃ z, L[i - 1]? = some z := ⟨_, List.getElem?_eq_getElem (by omega)⟩
  have a := h1 z (by omega) hz
  by_cases hc : j = i - 1
  · subst hc
    rw [hx] at hz
    obtain rfl := Option.some.inj hz
    exact a
  · exact h.ntr _ _ _ a (srt_at hL (by omega) hx hz)
end Go.Proofs.Ytipnefaggpigfaa
