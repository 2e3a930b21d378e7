/- Plain facts on signs and places: the document's sign at a place is the program's; places rise in all units; the signs of a part. -/
import Derived.Test.YtbiodfeanngkdaaDoorW4
import Derived.Test.YtbiodfeanngkdaaDoorSgnM
import Derived.Test.YtbiodfeanngkdaaDoorOneW
import Derived.Lib.RuneCountTail
namespace Go.Proofs.YtbiodfeanngkdaaDoor
open Go.Lib
theorem badAt_of {s : ByteArray} {p a b : Nat} (h : Utf8.decode s p = (a, b)) (hb : b ≠ 1) : badAt s p = false := by
  unfold badAt; rw [h]; simp [hb]
theorem badAt_ff {s : ByteArray} {p : Nat} (h : Utf8.decode s p = (65533, 1)) : badAt s p = true := by
  unfold badAt; rw [h]; rfl
/-- The document's sign at a place, by the model's decode. -/
theorem one_dec (s : ByteArray) (p : Nat) (hp : p < s.size) : oneR s p = if badAt s p = true then badR else ⟨(Utf8.decode s p).2, ((Utf8.decode s p).1 : Nat), false⟩ := by
  have hd := decode_at s p
  have k0 := (s.get! p).toNat_lt
  have k1 := (s.get! (p + 1)).toNat_lt
  have k2 := (s.get! (p + 2)).toNat_lt
  have k3 := (s.get! (p + 3)).toNat_lt
  have g2 : goOn s p 2 = true := by simp [goOn]
  have g3 : goOn s p 3 = decide (p + 2 < s.size ∧ 128 ≤ (s.get! (p + 2)).toNat ∧ (s.get! (p + 2)).toNat ≤ 191) := by simp [goOn, moreB]
  have g4 : goOn s p 4 = decide ((p + 2 < s.size ∧ 128 ≤ (s.get! (p + 2)).toNat ∧ (s.get! (p + 2)).toNat ≤ 191) ∧ (p + 3 < s.size ∧ 128 ≤ (s.get! (p + 3)).toNat ∧ (s.get! (p + 3)).toNat ≤ 191)) := by simp [goOn, moreB]
  have r2 : rr s p 2 = ((s.get! (p + 1)).toNat : Int) - 128 := rfl
  have r3 : rr s p 3 = 64 * (((s.get! (p + 1)).toNat : Int) - 128) + (((s.get! (p + 2)).toNat : Int) - 128) := rfl
  have r4 : rr s p 4 = 64 * (64 * (((s.get! (p + 1)).toNat : Int) - 128) + (((s.get! (p + 2)).toNat : Int) - 128)) + (((s.get! (p + 3)).toNat : Int) - 128) := rfl
  unfold oneR
  dsimp only
  generalize (s.get! p).toNat = b0 at *
  generalize (s.get! (p + 1)).toNat = b1 at *
  generalize (s.get! (p + 2)).toNat = b2 at *
  generalize (s.get! (p + 3)).toNat = b3 at *
  by_cases h1 : b0 < 128
  · have e : Utf8.decode s p = (b0, 1) := by rw [hd, decodeN, if_pos h1]
    have l : longN b0 = 1 := by unfold longN; rw [if_pos (by omega)]
    have nb : badAt s p = false := by unfold badAt; rw [e]; simp; omega
    rw [l, nb, e]; rfl
  by_cases h2 : b0 < 194 ∨ 244 < b0
  · have e : Utf8.decode s p = (65533, 1) := by
      rw [hd, decodeN, if_neg h1]
      repeat' split
      all_goals first | rfl | (exfalso; omega)
    have l : longN b0 = 0 := by unfold longN; rw [if_neg (by omega), if_neg (by omega), if_neg (by omega), if_neg (by omega)]
    rw [l, badAt_ff e]; rfl
  by_cases h3 : b0 < 224
  · have l : longN b0 = 2 := by unfold longN; rw [if_neg (by omega), if_pos (by omega)]
    rw [l, if_neg (by omega), if_neg (by omega), show (2 : Int).toNat = 2 from rfl, g2, if_pos rfl, r2, show leadN 2 (b0 : Int) = 64 * ((b0 : Int) - 192) from rfl]
    have sb : secondB b0 b1 = decide (b1 / 64 = 2) := by
      unfold secondB secLo secHi
      rw [if_neg (by omega), if_neg (by omega), if_neg (by omega), if_neg (by omega), ← Bool.decide_and]
      exact decide_eq_decide.2 (by omega)
    rw [sb]
    by_cases c : p + 1 < s.size ∧ decide (b1 / 64 = 2) = true
    · have c' := of_decide_eq_true c.2
      have e : Utf8.decode s p = (b0 % 32 * 64 + b1 % 64, 2) := by rw [hd, decodeN, if_neg h1, if_pos (by omega), if_pos (by omega)]
      rw [if_neg (fun h => h c), badAt_of e (by omega), e]
      simp only [Bool.false_eq_true, if_false, OneR.mk.injEq, true_and, and_true]
      omega
    · have e : Utf8.decode s p = (65533, 1) := by
        rw [hd, decodeN, if_neg h1, if_neg (fun h => c ⟨by omega, decide_eq_true (by omega)⟩), if_neg (by omega), if_neg (by omega)]
      rw [if_pos c, badAt_ff e]; rfl
  by_cases h4 : b0 < 240
  · have l : longN b0 = 3 := by unfold longN; rw [if_neg (by omega), if_neg (by omega), if_pos (by omega)]
    rw [l, if_neg (by omega), if_neg (by omega), show (3 : Int).toNat = 3 from rfl, g3, r3, show leadN 3 (b0 : Int) = 4096 * ((b0 : Int) - 224) from rfl]
    have sb : secondB b0 b1 = decide ((b1 / 64 = 2) ∧ (b0 = 224 → 160 ≤ b1) ∧ (b0 = 237 → b1 ≤ 159)) := by
      unfold secondB secLo secHi
      rw [← Bool.decide_and]
      refine decide_eq_decide.2 ?_
      repeat' split
      all_goals omega
    rw [sb]
    by_cases c : p + 1 < s.size ∧ decide ((b1 / 64 = 2) ∧ (b0 = 224 → 160 ≤ b1) ∧ (b0 = 237 → b1 ≤ 159)) = true
    · have c' := of_decide_eq_true c.2
      by_cases c2 : p + 2 < s.size ∧ 128 ≤ b2 ∧ b2 ≤ 191
      · have e : Utf8.decode s p = (b0 % 16 * 4096 + b1 % 64 * 64 + b2 % 64, 3) := by rw [hd, decodeN, if_neg h1, if_neg (by omega), if_pos (by omega), if_pos (by omega)]
        rw [if_neg (fun h => h c), badAt_of e (by omega), e, if_pos (decide_eq_true c2)]
        simp only [Bool.false_eq_true, if_false, OneR.mk.injEq, true_and, and_true]
        omega
      · have e : Utf8.decode s p = (65533, 1) := by
          rw [hd, decodeN, if_neg h1, if_neg (by omega), if_neg (fun h => c2 (by omega)), if_neg (by omega)]
        rw [if_neg (fun h => h c), if_neg (by simpa using c2), badAt_ff e]; rfl
    · have e : Utf8.decode s p = (65533, 1) := by
        rw [hd, decodeN, if_neg h1, if_neg (by omega)]
        split
        · rw [if_neg]
          intro h
          exact c ⟨by omega, decide_eq_true (by omega)⟩
        · rw [if_neg (by omega)]
      rw [if_pos c, badAt_ff e]; rfl
  · have l : longN b0 = 4 := by unfold longN; rw [if_neg (by omega), if_neg (by omega), if_neg (by omega), if_pos (by omega)]
    rw [l, if_neg (by omega), if_neg (by omega), show (4 : Int).toNat = 4 from rfl, g4, r4, show leadN 4 (b0 : Int) = 262144 * ((b0 : Int) - 240) from rfl]
    have sb : secondB b0 b1 = decide ((b1 / 64 = 2) ∧ (b0 = 240 → 144 ≤ b1) ∧ (b0 = 244 → b1 ≤ 143)) := by
      unfold secondB secLo secHi
      rw [← Bool.decide_and]
      refine decide_eq_decide.2 ?_
      repeat' split
      all_goals omega
    rw [sb]
    by_cases c : p + 1 < s.size ∧ decide ((b1 / 64 = 2) ∧ (b0 = 240 → 144 ≤ b1) ∧ (b0 = 244 → b1 ≤ 143)) = true
    · have c' := of_decide_eq_true c.2
      by_cases c2 : (p + 2 < s.size ∧ 128 ≤ b2 ∧ b2 ≤ 191) ∧ (p + 3 < s.size ∧ 128 ≤ b3 ∧ b3 ≤ 191)
      · have e : Utf8.decode s p = (b0 % 8 * 262144 + b1 % 64 * 4096 + b2 % 64 * 64 + b3 % 64, 4) := by rw [hd, decodeN, if_neg h1, if_neg (by omega), if_neg (by omega), if_pos (by omega), if_pos (by omega)]
        rw [if_neg (fun h => h c), badAt_of e (by omega), e, if_pos (decide_eq_true c2)]
        simp only [Bool.false_eq_true, if_false, OneR.mk.injEq, true_and, and_true]
        omega
      · have e : Utf8.decode s p = (65533, 1) := by
          rw [hd, decodeN, if_neg h1, if_neg (by omega), if_neg (by omega), if_neg (fun h => c2 (by omega))]
        rw [if_neg (fun h => h c), if_neg (by simpa using c2), badAt_ff e]; rfl
    · have e : Utf8.decode s p = (65533, 1) := by
        rw [hd, decodeN, if_neg h1, if_neg (by omega), if_neg (by omega)]
        split
        · rw [if_neg]
          intro h
          exact c ⟨by omega, decide_eq_true (by omega)⟩
        · rfl
      rw [if_pos c, badAt_ff e]; rfl

/-- The sign at a place, by the model's decode. -/
theorem sgn_dec (s : ByteArray) (p : Nat) (hp : p < s.size) : (sgn s p).loc = p ∧ (sgn s p).len = (Utf8.decode s p).2 ∧ (sgn s p).rune = ((Utf8.decode s p).1 : Nat) ∧ (sgn s p).bad = badAt s p ∧ 1 ≤ (Utf8.decode s p).2 ∧ p + (Utf8.decode s p).2 ≤ s.size := by
  have hw := Lib.decode_width_pos s p hp
  cases h : badAt s p
  · obtain ⟨a, b, c, d, _, f⟩ := sgn_good s p hp h
    exact ⟨a, b, c, d, hw, f⟩
  · obtain ⟨a, b, c, d, _, f⟩ := sgn_bad s p h
    rw [f]
    exact ⟨a, b, c, d, by simp, by simp; omega⟩
theorem sg_ext {x y : Sg} (h1 : x.loc = y.loc) (h2 : x.len = y.len) (h3 : x.rune = y.rune) (h4 : x.bad = y.bad) : x = y := by
  cases x; cases y; simp_all

/-- Signs that lie one behind the other in s, from p up to e. -/
def Lies (s : ByteArray) : Nat → List Sg → Nat → Prop
  | p, [], e => p = e
  | p, x :: r, e => p < s.size ∧ x = sgn s p ∧ Lies s (p + x.len) r e
theorem sgns_lies (s : ByteArray) : ∀ f p, s.size ≤ p + f → p ≤ s.size → Lies s p (sgns s f p) s.size
  | 0, p, h, h2 => by simp only [sgns, Lies]; omega
  | f + 1, p, h, h2 => by
    unfold sgns
    by_cases hp : p < s.size
    · obtain ⟨a, b, _, _, c, d⟩ := sgn_dec s p hp
      rw [if_pos hp]
      refine ⟨hp, rfl, ?_⟩
      rw [b]
      exact sgns_lies s f _ (by omega) d
    · rw [if_neg hp]
      simp only [Lies]
      omega
theorem signs_lies (s : ByteArray) : Lies s 0 (signs s) s.size := sgns_lies s s.size 0 (by omega) (by omega)
theorem lies_le {s : ByteArray} : ∀ {l : List Sg} {p e : Nat}, Lies s p l e → p + l.length ≤ e
  | [], p, e, h => by simp only [Lies] at h; simp; omega
  | x :: r, p, e, h => by
    obtain ⟨h1, h2, h3⟩ := h
    have := lies_le h3
    have hd := sgn_dec s p h1
    rw [h2] at this
    simp only [List.length_cons]
    omega
theorem lies_fit {s : ByteArray} : ∀ {l : List Sg} {p e : Nat}, Lies s p l e → p ≤ s.size → e ≤ s.size
  | [], p, e, h, hp => by simp only [Lies] at h; omega
  | x :: r, p, e, h, hp => by
    obtain ⟨h1, h2, h3⟩ := h
    have hd := sgn_dec s p h1
    exact lies_fit h3 (by rw [h2]; omega)
theorem lies_append {s : ByteArray} : ∀ {l m : List Sg} {p q e : Nat}, Lies s p l q → Lies s q m e → Lies s p (l ++ m) e
  | [], m, p, q, e, h, k => by simp only [Lies] at h; subst h; exact k
  | x :: r, m, p, q, e, h, k => ⟨h.1, h.2.1, lies_append h.2.2 k⟩
theorem lies_split {s : ByteArray} : ∀ {l m : List Sg} {p e : Nat}, Lies s p (l ++ m) e → ∃ q, Lies s p l q ∧ Lies s q m e
  | [], m, p, e, h => ⟨p, rfl, h⟩
  | x :: r, m, p, e, h => by
    obtain ⟨h1, h2, h3⟩ := h
    obtain ⟨q, a, b⟩ := lies_split h3
    exact ⟨q, ⟨h1, h2, a⟩, b⟩
theorem lies_uniq {s : ByteArray} : ∀ {l m : List Sg} {p e : Nat}, Lies s p l e → Lies s p m e → l = m
  | [], [], _, _, _, _ => rfl
  | [], y :: m, p, e, h, k => by
    have := lies_le k
    simp only [Lies] at h
    simp only [List.length_cons] at this
    omega
  | x :: l, [], p, e, h, k => by
    have := lies_le h
    simp only [Lies] at k
    simp only [List.length_cons] at this
    omega
  | x :: l, y :: m, p, e, h, k => by
    obtain ⟨h1, h2, h3⟩ := h
    obtain ⟨k1, k2, k3⟩ := k
    rw [h2] at h3 ⊢
    rw [k2] at k3 ⊢
    rw [lies_uniq h3 k3]

/-- The places from p on, ahead of each sign and behind the last. -/
def spotsF (p : Spot) : List Sg → List Spot
  | [] => [p]
  | x :: r => p :: spotsF (p.step x) r
def stepsF (p : Spot) (l : List Sg) : Spot := l.foldl Spot.step p
theorem stepsF_snoc (p : Spot) (l : List Sg) (x : Sg) : stepsF p (l ++ [x]) = (stepsF p l).step x := by simp [stepsF, List.foldl_append]
theorem trail_end (l : List Sg) : (trail l).2 = stepsF ⟨0, 0, 0⟩ l := by
  refine snoc_ind (P := fun l => (trail l).2 = stepsF ⟨0, 0, 0⟩ l) rfl (fun l x ih => ?_) l
  rw [trail_snoc, stepsF_snoc, ih]
theorem spotsF_snoc (x : Sg) : ∀ (l : List Sg) (p : Spot), spotsF p (l ++ [x]) = spotsF p l ++ [stepsF p (l ++ [x])]
  | [], p => by simp [spotsF, stepsF]
  | y :: r, p => by
    simp only [List.cons_append, spotsF, spotsF_snoc x r (p.step y)]
    rfl
theorem spots_eq (s : ByteArray) : spotsL s = spotsF ⟨0, 0, 0⟩ (signs s) := by
  unfold spotsL
  generalize signs s = l
  refine snoc_ind (P := fun l => (trail l).1 ++ [(trail l).2] = spotsF ⟨0, 0, 0⟩ l) rfl (fun l x ih => ?_) l
  rw [spotsF_snoc, ← ih, trail_snoc]
  simp only [trail_end, stepsF_snoc]
/-- b lies behind a, in every unit. -/
def Behind (a b : Spot) : Prop := a.b < b.b ∧ a.c < b.c ∧ a.d < b.d
theorem behind_step {s : ByteArray} {p : Nat} (hp : p < s.size) (a : Spot) : Behind a (a.step (sgn s p)) := by
  have hd := sgn_dec s p hp
  have hq := pairsI_bd (sgn s p).rune
  unfold Behind Spot.step
  dsimp only
  omega
theorem spotsF_behind {s : ByteArray} : ∀ {l : List Sg} {p e : Nat} (a : Spot), Lies s p l e → ∀ q ∈ spotsF a l, q = a ∨ Behind a q
  | [], p, e, a, h, q, hq => by simp [spotsF] at hq; exact .inl hq
  | x :: r, p, e, a, h, q, hq => by
    obtain ⟨h1, h2, h3⟩ := h
    rw [h2] at h3 hq
    have hb := behind_step h1 a
    simp only [spotsF, List.mem_cons] at hq
    rcases hq with rfl | hq
    · exact .inl rfl
    · right
      rcases spotsF_behind (a.step (sgn s p)) h3 q hq with rfl | h
      · exact hb
      · unfold Behind at *; omega
theorem spotsF_rise {s : ByteArray} : ∀ {l : List Sg} {p e : Nat} (a : Spot), Lies s p l e → (spotsF a l).Pairwise Behind
  | [], p, e, a, h => by simp [spotsF]
  | x :: r, p, e, a, h => by
    obtain ⟨h1, h2, h3⟩ := h
    rw [h2] at h3 ⊢
    have hb := behind_step h1 a
    simp only [spotsF, List.pairwise_cons]
    refine ⟨fun q hq => ?_, spotsF_rise _ h3⟩
    rcases spotsF_behind (a.step (sgn s p)) h3 q hq with rfl | h
    · exact hb
    · unfold Behind at *; omega
theorem spots_rise (s : ByteArray) : (spotsL s).Pairwise Behind := by rw [spots_eq]; exact spotsF_rise _ (signs_lies s)
theorem behind_get {a b : Spot} (h : Behind a b) (u : Int) : a.get u < b.get u := by
  unfold Behind at h
  unfold Spot.get
  repeat' split
  all_goals omega

theorem findL_mem (u : Int) {q : Spot} : ∀ {L : List Spot}, L.Pairwise Behind → q ∈ L → findL u (q.get u) L = (q, 0)
  | [], _, h => by simp at h
  | a :: L, hr, h => by
    rw [List.pairwise_cons] at hr
    rcases List.mem_cons.1 h with rfl | h
    · simp [findL]
    · have := behind_get (hr.1 q h) u
      rw [findL, if_neg (by omega), if_neg (by omega), findL_mem u hr.2 h]
theorem findL_ok (u loc : Int) : ∀ {L : List Spot}, (findL u loc L).2 = 0 → (findL u loc L).1 ∈ L ∧ (findL u loc L).1.get u = loc
  | [], h => by simp [findL] at h
  | a :: L, h => by
    unfold findL at h ⊢
    split at h
    · rename_i e
      rw [if_pos e]
      exact ⟨by simp, e⟩
    · rename_i e
      rw [if_neg e]
      split at h
      · simp at h
      · rename_i e2
        rw [if_neg e2]
        have := findL_ok u loc h
        exact ⟨List.mem_cons_of_mem _ this.1, this.2⟩
theorem findL_errs (u loc : Int) : ∀ (L : List Spot), (findL u loc L).2 = 0 ∨ (findL u loc L = (zeroSpot, 21) ∧ ∃ q ∈ L, loc < q.get u) ∨ (findL u loc L = (zeroSpot, 1) ∧ ∀ q ∈ L, q.get u < loc)
  | [] => by simp [findL]
  | a :: L => by
    unfold findL
    split
    · exact .inl rfl
    · split
      · exact .inr (.inl ⟨rfl, a, by simp, by assumption⟩)
      · rcases findL_errs u loc L with h | ⟨h, q, hq, hl⟩ | ⟨h, hq⟩
        · exact .inl h
        · exact .inr (.inl ⟨h, q, List.mem_cons_of_mem _ hq, hl⟩)
        · refine .inr (.inr ⟨h, fun q hm => ?_⟩)
          rcases List.mem_cons.1 hm with rfl | hm
          · omega
          · exact hq q hm
theorem rise_of_get {L : List Spot} (hr : L.Pairwise Behind) {a b : Spot} (ha : a ∈ L) (hb : b ∈ L) (u v : Int) (h : a.get u < b.get u) : a.get v < b.get v := by
  induction L with
  | nil => simp at ha
  | cons x L ih =>
    rw [List.pairwise_cons] at hr
    rcases List.mem_cons.1 ha with e | ka <;> rcases List.mem_cons.1 hb with e' | kb
    · subst e e'; omega
    · subst e; exact behind_get (hr.1 b kb) v
    · subst e'; have := behind_get (hr.1 a ka) u; omega
    · exact ih hr.2 ka kb
theorem same_of_get {L : List Spot} (hr : L.Pairwise Behind) {a b : Spot} (ha : a ∈ L) (hb : b ∈ L) (u : Int) (h : a.get u = b.get u) : a = b := by
  induction L with
  | nil => simp at ha
  | cons x L ih =>
    rw [List.pairwise_cons] at hr
    rcases List.mem_cons.1 ha with e | ka <;> rcases List.mem_cons.1 hb with e' | kb
    · rw [e, e']
    · subst e; have := behind_get (hr.1 b kb) u; omega
    · subst e'; have := behind_get (hr.1 a ka) u; omega
    · exact ih hr.2 ka kb

/-- The last place of a text. -/
def lastS (s : ByteArray) : Spot := stepsF ⟨0, 0, 0⟩ (signs s)
theorem spotsF_mem (a : Spot) : ∀ (l m : List Sg), stepsF a l ∈ spotsF a (l ++ m)
  | [], [] => by simp [spotsF, stepsF]
  | [], y :: m => by simp [spotsF, stepsF]
  | x :: l, m => by
    simp only [List.cons_append, spotsF, List.mem_cons]
    exact .inr (spotsF_mem (a.step x) l m)
theorem spotsF_of (a : Spot) : ∀ (l : List Sg) (q : Spot), q ∈ spotsF a l → ∃ k, k ≤ l.length ∧ q = stepsF a (l.take k)
  | [], q, h => by simp [spotsF] at h; exact ⟨0, by simp, by simp [stepsF, h]⟩
  | x :: l, q, h => by
    simp only [spotsF, List.mem_cons] at h
    rcases h with rfl | h
    · exact ⟨0, by simp, by simp [stepsF]⟩
    · obtain ⟨k, hk, e⟩ := spotsF_of (a.step x) l q h
      exact ⟨k + 1, by simp; omega, by rw [e]; simp [stepsF]⟩
/-- The place ahead of the k-th sign. -/
def spotAt (s : ByteArray) (k : Nat) : Spot := stepsF ⟨0, 0, 0⟩ ((signs s).take k)
theorem spotAt_mem (s : ByteArray) (k : Nat) : spotAt s k ∈ spotsL s := by
  rw [spots_eq]
  have := spotsF_mem ⟨0, 0, 0⟩ ((signs s).take k) ((signs s).drop k)
  rwa [List.take_append_drop] at this
theorem spotAt_of {s : ByteArray} {q : Spot} (h : q ∈ spotsL s) : ∃ k, k ≤ (signs s).length ∧ q = spotAt s k := by rw [spots_eq] at h; exact spotsF_of _ _ _ h
theorem stepsF_c (l : List Sg) (a : Spot) : (stepsF a l).c = a.c + l.length := by
  induction l generalizing a with
  | nil => simp [stepsF]
  | cons x l ih =>
    have := ih (a.step x)
    simp only [stepsF, List.foldl_cons, List.length_cons] at this ⊢
    rw [this]
    simp only [Spot.step]
    omega
theorem stepsF_b {s : ByteArray} : ∀ {l : List Sg} {p e : Nat} (a : Spot), Lies s p l e → (stepsF a l).b = a.b + (e - p)
  | [], p, e, a, h => by simp only [Lies] at h; subst h; simp [stepsF]
  | x :: l, p, e, a, h => by
    obtain ⟨h1, h2, h3⟩ := h
    have := stepsF_b (a.step x) h3
    simp only [stepsF, List.foldl_cons] at this ⊢
    rw [this]
    simp only [Spot.step]
    have := lies_le h3
    omega
theorem spotAt_c (s : ByteArray) (k : Nat) (hk : k ≤ (signs s).length) : (spotAt s k).c = k := by
  unfold spotAt
  rw [stepsF_c, List.length_take]
  simp
  omega
theorem lies_take {s : ByteArray} {l : List Sg} {p e : Nat} (h : Lies s p l e) (k : Nat) : ∃ q, Lies s p (l.take k) q ∧ Lies s q (l.drop k) e := by
  rw [← List.take_append_drop k l] at h
  exact lies_split h
theorem lies_loc {s : ByteArray} {l : List Sg} {p e k : Nat} (h : Lies s p l e) (hk : k < l.length) : ∃ q, Lies s p (l.take k) q ∧ q < s.size ∧ l[k] = sgn s q ∧ Lies s (q + (sgn s q).len) (l.drop (k + 1)) e := by
  obtain ⟨q, a, b⟩ := lies_take h k
  rw [List.drop_eq_getElem_cons hk] at b
  obtain ⟨b1, b2, b3⟩ := b
  rw [b2] at b3
  exact ⟨q, a, b1, b2, b3⟩
theorem spotAt_b (s : ByteArray) (k : Nat) (hk : k < (signs s).length) : (spotAt s k).b = (signs s)[k].loc := by
  obtain ⟨q, h1, h2, h3, _⟩ := lies_loc (signs_lies s) hk
  have := stepsF_b ⟨0, 0, 0⟩ h1
  unfold spotAt
  rw [this, h3, (sgn_dec s q h2).1]
  simp
theorem lastS_eq (s : ByteArray) : lastS s = spotAt s (signs s).length := by unfold lastS spotAt; rw [List.take_length]
theorem lastS_b (s : ByteArray) : (lastS s).b = s.size := by
  have := stepsF_b ⟨0, 0, 0⟩ (signs_lies s)
  unfold lastS
  rw [this]
  simp
theorem lastS_c (s : ByteArray) : (lastS s).c = (signs s).length := by unfold lastS; rw [stepsF_c]; simp
theorem pairs_steps (s : ByteArray) : ∀ f p (a : Spot), (stepsF a (sgns s f p)).d = a.d + pairsFrom s f p
  | 0, p, a => by simp [sgns, pairsFrom, stepsF]
  | f + 1, p, a => by
    unfold sgns pairsFrom
    by_cases hp : p < s.size
    · rw [if_pos hp, if_pos hp]
      have := pairs_steps s f (p + (Utf8.decode s p).2) (a.step (sgn s p))
      simp only [stepsF, List.foldl_cons] at this ⊢
      rw [this]
      simp only [Spot.step, (sgn_dec s p hp).2.2.1]
      omega
    · rw [if_neg hp, if_neg hp]
      simp [stepsF]
theorem lastS_d (s : ByteArray) : (lastS s).d = pairsFrom s s.size 0 := by
  have := pairs_steps s s.size 0 ⟨0, 0, 0⟩
  unfold lastS signs
  rw [this]
  simp
theorem last_most (s : ByteArray) (u : Int) {q : Spot} (h : q ∈ spotsL s) : q.get u ≤ (lastS s).get u := by
  have hl : lastS s ∈ spotsL s := by rw [lastS_eq]; exact spotAt_mem s _
  by_cases hc : (lastS s).get u < q.get u
  · have := rise_of_get (spots_rise s) hl h u 2 hc
    obtain ⟨k, hk, rfl⟩ := spotAt_of h
    simp only [Spot.get] at this
    rw [spotAt_c s k hk, lastS_c] at this
    simp at this
    omega
  · omega
theorem first_mem (s : ByteArray) : zeroSpot ∈ spotsL s := by
  have := spotAt_mem s 0
  simpa [spotAt, stepsF, zeroSpot] using this
theorem first_least (s : ByteArray) (u : Int) {q : Spot} (h : q ∈ spotsL s) : 0 ≤ q.get u := by
  have hz : zeroSpot.get u = 0 := by unfold zeroSpot Spot.get; repeat' split
                                     all_goals rfl
  by_cases hc : q.get u < 0
  · have := rise_of_get (spots_rise s) h (first_mem s) u 2 (by omega)
    obtain ⟨k, hk, rfl⟩ := spotAt_of h
    simp only [Spot.get, zeroSpot] at this
    rw [spotAt_c s k hk] at this
    simp at this
    omega
  · omega
theorem ite_iffU {α : Type} {p q : Prop} [Decidable p] [Decidable q] (h : p ↔ q) (a b : α) : (if p then a else b) = if q then a else b := by
  by_cases hp : p
  · rw [if_pos hp, if_pos (h.1 hp)]
  · rw [if_neg hp, if_neg (fun e => hp (h.2 e))]
theorem cutU (n m b0 b1 b2 b3 c1 c2 c3 : Nat) (hm : 1 ≤ m) (hmn : m ≤ n) (e1 : 1 < m → c1 = b1) (e2 : 2 < m → c2 = b2) (e3 : 3 < m → c3 = b3) (hw : (Lib.decodeN n b0 b1 b2 b3).2 ≤ m) :
    Lib.decodeN m b0 c1 c2 c3 = Lib.decodeN n b0 b1 b2 b3 := by
  unfold Lib.decodeN at hw ⊢
  by_cases h0 : b0 < 128
  · simp [h0]
  · simp only [if_neg h0] at hw ⊢
    by_cases a2 : b0 / 32 = 6
    · have n3 : ¬ b0 / 16 = 14 := by omega
      have n4 : ¬ b0 / 8 = 30 := by omega
      simp only [a2, n3, n4, true_and, false_and, if_false] at hw ⊢
      by_cases h1 : 1 < m
      · rw [e1 h1, ite_iffU (show (1 < m ∧ b1 / 64 = 2) ↔ (1 < n ∧ b1 / 64 = 2) by omega)]
      · rw [if_neg (by omega)]
        split at hw
        · split at hw
          · simp at hw; omega
          · rename_i q1 q2
            rw [if_pos q1, if_neg q2]
        · rename_i q1
          rw [if_neg q1]
    · simp only [a2, false_and, if_false] at hw ⊢
      by_cases a3 : b0 / 16 = 14
      · have n4 : ¬ b0 / 8 = 30 := by omega
        simp only [a3, n4, true_and, false_and, if_false] at hw ⊢
        by_cases h1 : 2 < m
        · rw [e1 (by omega), e2 h1, ite_iffU (show ((1 < m ∧ b1 / 64 = 2) ∧ 2 < m ∧ b2 / 64 = 2) ↔ ((1 < n ∧ b1 / 64 = 2) ∧ 2 < n ∧ b2 / 64 = 2) by omega)]
        · rw [if_neg (by omega)]
          split at hw
          · split at hw
            · simp at hw; omega
            · rename_i q1 q2
              rw [if_pos q1, if_neg q2]
          · rename_i q1
            rw [if_neg q1]
      · simp only [a3, false_and, if_false] at hw ⊢
        by_cases a4 : b0 / 8 = 30
        · simp only [a4, true_and] at hw ⊢
          by_cases h1 : 3 < m
          · rw [e1 (by omega), e2 (by omega), e3 h1, ite_iffU (show ((1 < m ∧ b1 / 64 = 2) ∧ (2 < m ∧ b2 / 64 = 2) ∧ 3 < m ∧ b3 / 64 = 2) ↔ ((1 < n ∧ b1 / 64 = 2) ∧ (2 < n ∧ b2 / 64 = 2) ∧ 3 < n ∧ b3 / 64 = 2) by omega)]
          · rw [if_neg (by omega)]
            split at hw
            · split at hw
              · simp at hw; omega
              · rename_i q1 q2
                rw [if_pos q1, if_neg q2]
            · rename_i q1
              rw [if_neg q1]
        · simp only [a4, false_and, if_false]

theorem get_part (s : ByteArray) (A B i : Nat) (hi : A + i < B) : (s.extract A B).get! i = s.get! (A + i) := by
  rw [← Lib.getD_get!', ← Lib.getD_get!', Lib.extract_data]
  simp only [List.getD_eq_getElem?_getD, List.getElem?_take, List.getElem?_drop]
  rw [if_pos (by omega)]
theorem decode_part (s : ByteArray) (A B p : Nat) (hA : A ≤ p) (hp : p < B) (hB : B ≤ s.size) (hw : p + (Utf8.decode s p).2 ≤ B) : Utf8.decode (s.extract A B) (p - A) = Utf8.decode s p := by
  have hz : (s.extract A B).size = B - A := by rw [ByteArray.size_extract]; omega
  rw [Lib.decode_at] at hw
  rw [Lib.decode_at, Lib.decode_at, hz, get_part s A B _ (by omega), show A + (p - A) = p by omega]
  refine cutU _ _ _ _ _ _ _ _ _ (by omega) (by omega) (fun h => ?_) (fun h => ?_) (fun h => ?_) (by omega)
  · rw [get_part s A B _ (by omega), show A + (p - A + 1) = p + 1 by omega]
  · rw [get_part s A B _ (by omega), show A + (p - A + 2) = p + 2 by omega]
  · rw [get_part s A B _ (by omega), show A + (p - A + 3) = p + 3 by omega]
/-- A sign, so many bytes farther behind. -/
def Sg.up (k : Nat) (x : Sg) : Sg := ⟨x.loc + k, x.len, x.rune, x.bad, x.small⟩
theorem up_loc (k : Nat) (x : Sg) : (x.up k).loc = x.loc + k := rfl
theorem up_len (k : Nat) (x : Sg) : (x.up k).len = x.len := rfl
theorem up_rune (k : Nat) (x : Sg) : (x.up k).rune = x.rune := rfl
theorem up_bad (k : Nat) (x : Sg) : (x.up k).bad = x.bad := rfl
theorem badAt_part (s : ByteArray) (A B p : Nat) (hA : A ≤ p) (hp : p < B) (hB : B ≤ s.size) (hw : p + (Utf8.decode s p).2 ≤ B) : badAt (s.extract A B) (p - A) = badAt s p := by
  unfold badAt; rw [decode_part s A B p hA hp hB hw]
theorem sgn_part (s : ByteArray) (A B p : Nat) (hA : A ≤ p) (hp : p < B) (hB : B ≤ s.size) (hw : p + (Utf8.decode s p).2 ≤ B) : (sgn (s.extract A B) (p - A)).up A = sgn s p := by
  have hz : (s.extract A B).size = B - A := by rw [ByteArray.size_extract]; omega
  obtain ⟨a1, a2, a3, a4, _, _⟩ := sgn_dec s p (by omega)
  obtain ⟨b1, b2, b3, b4, _, _⟩ := sgn_dec (s.extract A B) (p - A) (by omega)
  rw [decode_part s A B p hA hp hB hw] at b2 b3
  rw [badAt_part s A B p hA hp hB hw] at b4
  refine sg_ext ?_ ?_ ?_ ?_
  · rw [up_loc, b1, a1]; omega
  · rw [up_len, b2, a2]
  · rw [up_rune, b3, a3]
  · rw [up_bad, b4, a4]
theorem lies_part {s : ByteArray} {A B : Nat} (hB : B ≤ s.size) : ∀ {l : List Sg} {p e : Nat}, A ≤ p → e ≤ B → Lies s p l e → ∃ m, Lies (s.extract A B) (p - A) m (e - A) ∧ m.map (Sg.up A) = l
  | [], p, e, _, _, h => by simp only [Lies] at h; subst h; exact ⟨[], rfl, rfl⟩
  | x :: l, p, e, hA, he, h => by
    obtain ⟨h1, h2, h3⟩ := h
    have hle := lies_le h3
    obtain ⟨d1, d2, d3, d4, d5, d6⟩ := sgn_dec s p h1
    rw [h2, d2] at h3 hle
    have hle2 : p + (Utf8.decode s p).2 ≤ B := by omega
    obtain ⟨m, m1, m2⟩ := lies_part (A := A) hB (l := l) (p := p + (Utf8.decode s p).2) (by omega) he h3
    have hs := sgn_part s A B p hA (by omega) hB hle2
    refine ⟨sgn (s.extract A B) (p - A) :: m, ⟨by rw [ByteArray.size_extract]; omega, rfl, ?_⟩, by rw [List.map_cons, hs, m2, h2]⟩
    have hl : (sgn (s.extract A B) (p - A)).len = (Utf8.decode s p).2 := by rw [← d2, ← hs, up_len]
    rw [hl, show p - A + (Utf8.decode s p).2 = p + (Utf8.decode s p).2 - A by omega]
    exact m1
/-- The signs of a part that begins and ends where signs do. -/
theorem signs_part {s : ByteArray} {A B : Nat} {l : List Sg} (h : Lies s A l B) (hB : B ≤ s.size) : (signs (s.extract A B)).map (Sg.up A) = l := by
  obtain ⟨m, m1, m2⟩ := lies_part hB (Nat.le_refl A) (Nat.le_refl B) h
  have hl := lies_le h
  have := signs_lies (s.extract A B)
  rw [show (s.extract A B).size = B - A by rw [ByteArray.size_extract]; omega] at this
  rw [Nat.sub_self] at m1
  rw [lies_uniq this m1, m2]
theorem stepsF_up (k : Nat) : ∀ (l : List Sg) (a : Spot), stepsF a (l.map (Sg.up k)) = stepsF a l
  | [], _ => rfl
  | x :: l, a => stepsF_up k l (a.step x)
theorem stepsF_add : ∀ (l : List Sg) (a b : Spot), stepsF ⟨a.b + b.b, a.c + b.c, a.d + b.d⟩ l = ⟨a.b + (stepsF b l).b, a.c + (stepsF b l).c, a.d + (stepsF b l).d⟩
  | [], _, _ => rfl
  | x :: l, a, b => by
    have := stepsF_add l a (b.step x)
    simp only [stepsF, List.foldl_cons] at this ⊢
    rw [← this]
    simp only [Spot.step]
    congr 2 <;> omega
theorem stepsF_append (a : Spot) (l m : List Sg) : stepsF a (l ++ m) = stepsF (stepsF a l) m := by simp [stepsF, List.foldl_append]
def Spot.plus (a b : Spot) : Spot := ⟨a.b + b.b, a.c + b.c, a.d + b.d⟩
theorem plus_get (a b : Spot) (u : Int) : (a.plus b).get u = a.get u + b.get u := by
  unfold Spot.plus Spot.get
  repeat' split
  all_goals rfl
theorem spotAt_lies (s : ByteArray) (k : Nat) (_hk : k ≤ (signs s).length) : ∃ q : Nat, (spotAt s k).b = q ∧ q ≤ s.size ∧ Lies s 0 ((signs s).take k) q ∧ Lies s q ((signs s).drop k) s.size := by
  obtain ⟨q, a, b⟩ := lies_take (signs_lies s) k
  refine ⟨q, ?_, lies_fit a (by omega), a, b⟩
  have := stepsF_b ⟨0, 0, 0⟩ a
  unfold spotAt
  rw [this]
  simp
/-- The part between the i-th and the j-th sign. -/
theorem part_spots (s : ByteArray) (i j A B : Nat) (hij : i ≤ j) (hj : j ≤ (signs s).length) (hA : (spotAt s i).b = A) (hB : (spotAt s j).b = B) :
    A ≤ B ∧ B ≤ s.size ∧ (signs (s.extract A B)).length = j - i ∧ ∀ k, k ≤ j - i → spotAt s (i + k) = (spotAt s i).plus (spotAt (s.extract A B) k) := by
  obtain ⟨a, ha, hal, l1, l2⟩ := spotAt_lies s i (by omega)
  obtain ⟨b, hb, hbl, l3, l4⟩ := spotAt_lies s j hj
  obtain rfl : a = A := by omega
  obtain rfl : b = B := by omega
  have e : (signs s).take j = (signs s).take i ++ ((signs s).drop i).take (j - i) := by
    rw [← List.take_add]
    congr 1
    omega
  rw [e] at l3
  obtain ⟨q, q1, q2⟩ := lies_split l3
  have hq : q = a := by
    have x := stepsF_b ⟨0, 0, 0⟩ l1
    have y := stepsF_b ⟨0, 0, 0⟩ q1
    have h1 := lies_le l1
    have h2 := lies_le q1
    rw [x] at y
    simp at y
    omega
  subst hq
  have hle := lies_le q2
  have hp := signs_part q2 hbl
  refine ⟨by omega, hbl, ?_, fun k hk => ?_⟩
  · have := congrArg List.length hp
    rw [List.length_map, List.length_take, List.length_drop] at this
    omega
  · have ht : (signs s).take (i + k) = (signs s).take i ++ ((signs (s.extract q b)).take k).map (Sg.up q) := by
      rw [List.map_take, hp, List.take_take, Nat.min_eq_left hk, ← List.take_add]
    unfold spotAt
    rw [ht, stepsF_append, stepsF_up]
    have := stepsF_add ((signs (s.extract q b)).take k) (stepsF ⟨0, 0, 0⟩ ((signs s).take i)) ⟨0, 0, 0⟩
    simpa [Spot.plus] using this
end Go.Proofs.YtbiodfeanngkdaaDoor
