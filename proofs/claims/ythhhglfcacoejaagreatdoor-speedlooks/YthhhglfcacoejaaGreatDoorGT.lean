/- Several texts, one behind the other. -/
import Derived.Deep.AppendLies
import Derived.Deep.RegionLaw
import Derived.Deep.QuietTactic
import Derived.Lib.SmallJoins
import Derived.Deep.Slices
import Derived.ChangeOld
import Derived.ShutString
import Derived.DataShut
import Derived.Test.YthhhglfcacoejaaGreatDoorGC
import Derived.Test.YthhhglfcacoejaaGreatDoorGD
import Derived.Test.YthhhglfcacoejaaGreatDoorGS
import Derived.Test.YthhhglfcacoejaaGreatDoorRefB4
import Derived.Test.YthhhglfcacoejaaGreatDoorSp1
/- What a cue lacks, which cues are seen too briefly: as mathematics. -/
namespace Go.Proofs.YthhhglfcacoejaaGreatDoor
open Go.RowKit Go.Shelf

/-- How long a text of so many signs must be seen. -/
def wantA (n : Nat) (S L : Rt) : Rt × Int := if (if (divA ⟨n, 1⟩ S).2 = 0 then timeA (divA ⟨n, 1⟩ S).1 else (divA ⟨n, 1⟩ S).2) = 0 then (if cmpI (divA ⟨n, 1⟩ S).1 L = 1 then (divA ⟨n, 1⟩ S).1 else L, 0) else (⟨0, 0⟩, if (divA ⟨n, 1⟩ S).2 = 0 then timeA (divA ⟨n, 1⟩ S).1 else (divA ⟨n, 1⟩ S).2)
/-- What a cue lacks. -/
def lackA (S L : Rt) (x : Cu) : Rt × Int := if ¬ (wantA (readN (signs x.s)) S L).2 = 0 then (⟨0, 0⟩, (wantA (readN (signs x.s)) S L).2) else if ¬ (subA ⟨x.c, x.d⟩ ⟨x.a, x.b⟩).2 = 0 then (⟨0, 0⟩, (subA ⟨x.c, x.d⟩ ⟨x.a, x.b⟩).2) else if 0 ≤ cmpI (subA ⟨x.c, x.d⟩ ⟨x.a, x.b⟩).1 (wantA (readN (signs x.s)) S L).1 then (⟨0, 1⟩, 0) else subA (wantA (readN (signs x.s)) S L).1 (subA ⟨x.c, x.d⟩ ⟨x.a, x.b⟩).1
/-- What Look refuses. -/
def lookR (sp : Cu → List Sp) (S L G : Rt) (Q : List Cu) : Option (Nat × Int) := match docC (chkF sp) Q with
  | some p => some p
  | none => if (rightB S && decide (0 < S.N) && decide (timeA L = 0) && decide (timeA G = 0)) = true then badC (fun x => (lackA S L x).2) 0 Q else some (0, 1)
/-- The cues that are seen too briefly. -/
def fastG (S L : Rt) : Nat → List Cu → List (Nat × Rt)
  | _, [] => []
  | i, x :: t => if 0 < (lackA S L x).1.N then (i, (lackA S L x).1) :: fastG S L (i + 1) t else fastG S L (i + 1) t
theorem fastG_app (S L : Rt) : ∀ (A B : List Cu) (i : Nat), fastG S L i (A ++ B) = fastG S L i A ++ fastG S L (i + A.length) B
  | [], B, i => by simp [fastG]
  | x :: A, B, i => by
    have e : ∀ (k : Nat) (t : List Cu), fastG S L k (x :: t) = if 0 < (lackA S L x).1.N then (k, (lackA S L x).1) :: fastG S L (k + 1) t else fastG S L (k + 1) t := fun _ _ => rfl
    rw [List.cons_append, e, e, fastG_app S L A B (i + 1), show i + (x :: A).length = i + 1 + A.length by simp; omega]
    split
    · rw [List.cons_append]
    · rfl
theorem fastG_take {S L : Rt} {Q : List Cu} {j : Nat} {x : Cu} (h : Q[j]? = some x) : fastG S L 0 (Q.take (j + 1)) = fastG S L 0 (Q.take j) ++ if 0 < (lackA S L x).1.N then [(j, (lackA S L x).1)] else [] := by
  have hj : j < Q.length := (List.getElem?_eq_some_iff.1 h).1
  rw [List.take_add_one, h, fastG_app]
  simp only [Option.toList_some, Nat.zero_add]
  rw [List.length_take, Nat.min_eq_left (by omega)]
  unfold fastG
  split <;> simp [fastG]
theorem bad_in : RtIn ⟨0, 0⟩ := ⟨⟨by simp, by simp⟩, ⟨by simp, by simp⟩⟩
theorem divA_inL (a b : Rt) : RtIn (divA a b).1 := by
  unfold divA
  split
  · split
    · exact bad_in
    · exact low_in _
  · exact bad_in
theorem subA_inL (a b : Rt) : RtIn (subA a b).1 := by
  unfold subA
  split
  · exact low_in _
  · exact bad_in
theorem wantA_in {n : Nat} {S L : Rt} (hL : RtIn L) : RtIn (wantA n S L).1 := by
  unfold wantA
  by_cases h : (if (divA ⟨n, 1⟩ S).2 = 0 then timeA (divA ⟨n, 1⟩ S).1 else (divA ⟨n, 1⟩ S).2) = 0
  · rw [if_pos h]
    by_cases h2 : cmpI (divA ⟨n, 1⟩ S).1 L = 1
    · rw [if_pos h2]
      exact divA_inL _ _
    · rw [if_neg h2]
      exact hL
  · rw [if_neg h]
    exact bad_in
theorem lackA_in (S L : Rt) (x : Cu) : RtIn (lackA S L x).1 := by
  unfold lackA
  repeat' split
  · exact bad_in
  · exact bad_in
  · exact ⟨⟨by simp, by simp⟩, ⟨by simp, by simp⟩⟩
  · exact subA_inL _ _
theorem signs_leL (s : ByteArray) : (signs s).length ≤ s.size := sgns_length s s.size 0
end Go.Proofs.YthhhglfcacoejaaGreatDoor

/- More signs a second, a lesser least time: no cue lacks more. Mathematics. -/
namespace Go.Proofs.YthhhglfcacoejaaGreatDoor
open Go.RowKit Go.Shelf

theorem val_zeroM : valQ ⟨0, 1⟩ = 0 := by unfold valQ; rfl
theorem right_zeroM : rightB ⟨0, 1⟩ = true := by decide
theorem pos_iffM {r : Rt} (h : rightB r = true) : 0 < r.N ↔ 0 < valQ r := by
  have := cmp_lt right_zeroM h
  rw [val_zeroM] at this
  rw [← this]
  simp
theorem time_rightM {r : Rt} (h : timeA r = 0) : rightB r = true := by
  unfold timeA at h
  split at h
  · rename_i h1
    exact h1.1
  · omega
theorem div_mulM {n s : Rat} (hs : 0 < s) : n / s * s = n := by
  have : s ≠ 0 := by grind
  grind
theorem div_monoM {n s t : Rat} (hn : 0 ≤ n) (hs : 0 < s) (hst : s ≤ t) : n / t ≤ n / s := by
  have ht : 0 < t := by grind
  have h1 := div_mulM (n := n) hs
  have h2 := div_mulM (n := n) ht
  have h0 : 0 ≤ n / t := by
    refine Rat.le_of_mul_le_mul_right (c := t) ?_ ht
    rw [h2, Rat.zero_mul]
    exact hn
  have h3 : n / t * s ≤ n / t * t := Rat.mul_le_mul_of_nonneg_left hst h0
  exact Rat.le_of_mul_le_mul_right (c := s) (by grind) hs
/-- How long a text must be seen, as a number. -/
theorem want_ok {n : Nat} {S L : Rt} (hn : (n : Int) ≤ 4611686018427387904) (hS : rightB S = true) (hS0 : 0 < S.N) (hL : timeA L = 0) (h : (wantA n S L).2 = 0) :
    rightB (wantA n S L).1 = true ∧ (valQ (wantA n S L).1 = valQ ⟨n, 1⟩ / valQ S ∧ valQ L ≤ valQ (wantA n S L).1 ∨ valQ (wantA n S L).1 = valQ L ∧ valQ ⟨n, 1⟩ / valQ S ≤ valQ (wantA n S L).1) := by
  have hnr : rightB ⟨n, 1⟩ = true := by
    rw [right_iff]
    exact ⟨by simp, by simp, by simp only; omega, by simp only; omega, by simp⟩
  unfold wantA at h ⊢
  by_cases h1 : (if (divA ⟨n, 1⟩ S).2 = 0 then timeA (divA ⟨n, 1⟩ S).1 else (divA ⟨n, 1⟩ S).2) = 0
  · rw [if_pos h1]
    have hz : (divA ⟨n, 1⟩ S).2 = 0 := by
      by_cases hz : (divA ⟨n, 1⟩ S).2 = 0
      · exact hz
      · rw [if_neg hz] at h1
        exact h1
    rw [divA_right hnr hS (by omega)] at hz ⊢
    obtain ⟨qr, qv⟩ := low_ok_right _ hz
    have hLr := time_rightM hL
    generalize (low (valQ ⟨(n : Int), 1⟩ / valQ S)).1 = q at *
    have hc := cmp_right qr hLr
    by_cases h2 : cmpI q L = 1
    · rw [if_pos h2]
      refine ⟨qr, .inl ⟨qv, ?_⟩⟩
      rw [h2] at hc
      split at hc
      · omega
      · split at hc
        · rename_i h5
          exact Rat.le_of_lt h5
        · omega
    · rw [if_neg h2]
      refine ⟨hLr, .inr ⟨rfl, ?_⟩⟩
      rw [← qv]
      have h3 := cmp_range q L
      exact (cmp_le qr hLr).1 (by omega)
  · rw [if_neg h1] at h
    exact absurd h h1
theorem want_mono {n : Nat} {S L S2 L2 : Rt} (hn : (n : Int) ≤ 4611686018427387904) (hS : rightB S = true) (hS0 : 0 < S.N) (hL : timeA L = 0) (hS2 : rightB S2 = true) (hS20 : 0 < S2.N) (hL2 : timeA L2 = 0) (h1 : valQ S ≤ valQ S2) (h2 : valQ L2 ≤ valQ L)
    (hw : (wantA n S L).2 = 0) (hw2 : (wantA n S2 L2).2 = 0) : valQ (wantA n S2 L2).1 ≤ valQ (wantA n S L).1 := by
  have a := (want_ok hn hS hS0 hL hw).2
  have b := (want_ok hn hS2 hS20 hL2 hw2).2
  have hp : 0 < valQ S := (pos_iffM hS).1 hS0
  have hn0 : 0 ≤ valQ ⟨(n : Int), 1⟩ := by
    unfold valQ
    exact (Rat.divInt_nonneg_iff_of_pos_right (by simp)).2 (by simp)
  have hd := div_monoM hn0 hp h1
  grind
/-- What a cue lacks, as a number. -/
theorem lack_ok {S L : Rt} {x : Cu} (hn : (readN (signs x.s) : Int) ≤ 4611686018427387904) (hS : rightB S = true) (hS0 : 0 < S.N) (hL : timeA L = 0) (ht : timeA ⟨x.a, x.b⟩ = 0 ∧ timeA ⟨x.c, x.d⟩ = 0) (h : (lackA S L x).2 = 0) :
    (wantA (readN (signs x.s)) S L).2 = 0 ∧ rightB (lackA S L x).1 = true ∧ ((valQ (wantA (readN (signs x.s)) S L).1 ≤ valQ ⟨x.c, x.d⟩ - valQ ⟨x.a, x.b⟩ ∧ (lackA S L x).1 = ⟨0, 1⟩) ∨ (valQ ⟨x.c, x.d⟩ - valQ ⟨x.a, x.b⟩ < valQ (wantA (readN (signs x.s)) S L).1 ∧ valQ (lackA S L x).1 = valQ (wantA (readN (signs x.s)) S L).1 - (valQ ⟨x.c, x.d⟩ - valQ ⟨x.a, x.b⟩))) := by
  have r1 := time_rightM ht.1
  have r2 := time_rightM ht.2
  unfold lackA at h ⊢
  by_cases g1 : (wantA (readN (signs x.s)) S L).2 = 0
  · rw [if_neg (fun h => h g1)] at h ⊢
    have wr := (want_ok hn hS hS0 hL g1).1
    by_cases g2 : (subA ⟨x.c, x.d⟩ ⟨x.a, x.b⟩).2 = 0
    · rw [if_neg (fun h => h g2)] at h ⊢
      rw [subA_right r2 r1] at g2 h ⊢
      obtain ⟨qr, qv⟩ := low_ok_right _ g2
      generalize (low (valQ ⟨x.c, x.d⟩ - valQ ⟨x.a, x.b⟩)).1 = q at *
      generalize (wantA (readN (signs x.s)) S L).1 = p at *
      rw [← qv]
      have hr := cmp_range q p
      have hc := cmp_right qr wr
      by_cases g3 : 0 ≤ cmpI q p
      · rw [if_pos g3]
        refine ⟨g1, right_zeroM, .inl ⟨?_, rfl⟩⟩
        have h5 := (cmp_le wr qr).1 (by rw [cmp_turn]; omega)
        exact h5
      · rw [if_neg g3] at h ⊢
        rw [subA_right wr qr] at h ⊢
        obtain ⟨dr, dv⟩ := low_ok_right _ h
        refine ⟨g1, dr, .inr ⟨?_, dv⟩⟩
        by_cases h6 : valQ q < valQ p
        · exact h6
        · rw [if_neg h6] at hc
          split at hc <;> omega
    · rw [if_pos g2] at h
      exact absurd h g2
  · rw [if_pos g1] at h
    exact absurd h g1
theorem lack_mono {S L S2 L2 : Rt} {x : Cu} (hn : (readN (signs x.s) : Int) ≤ 4611686018427387904) (hS : rightB S = true) (hS0 : 0 < S.N) (hL : timeA L = 0) (hS2 : rightB S2 = true) (hS20 : 0 < S2.N) (hL2 : timeA L2 = 0) (h1 : valQ S ≤ valQ S2) (h2 : valQ L2 ≤ valQ L)
    (ht : timeA ⟨x.a, x.b⟩ = 0 ∧ timeA ⟨x.c, x.d⟩ = 0) (h : (lackA S L x).2 = 0) (h' : (lackA S2 L2 x).2 = 0) (hp : 0 < (lackA S2 L2 x).1.N) : 0 < (lackA S L x).1.N ∧ ¬ cmpI (lackA S L x).1 (lackA S2 L2 x).1 < 0 := by
  obtain ⟨a1, a2, a3⟩ := lack_ok hn hS hS0 hL ht h
  obtain ⟨b1, b2, b3⟩ := lack_ok hn hS2 hS20 hL2 ht h'
  have hm := want_mono hn hS hS0 hL hS2 hS20 hL2 h1 h2 a1 b1
  have hq := (pos_iffM b2).1 hp
  rcases b3 with ⟨_, e⟩ | ⟨b4, b5⟩
  · rw [e] at hp
    simp at hp
  · rcases a3 with ⟨a4, e⟩ | ⟨a4, a5⟩
    · exfalso
      grind
    · have hle : valQ (lackA S2 L2 x).1 ≤ valQ (lackA S L x).1 := by grind
      refine ⟨(pos_iffM a2).2 (by grind), ?_⟩
      have h9 := (cmp_le b2 a2).2 hle
      rw [cmp_turn] at h9
      omega
/-- What stands in the list of cues that are seen too briefly. -/
theorem fastG_mem (S L : Rt) : ∀ (Q : List Cu) (k i : Nat) (y : Rt), (i, y) ∈ fastG S L k Q ↔ ∃ j x, Q[j]? = some x ∧ i = k + j ∧ 0 < (lackA S L x).1.N ∧ y = (lackA S L x).1
  | [], k, i, y => by simp [fastG]
  | z :: Q, k, i, y => by
    have e : fastG S L k (z :: Q) = if 0 < (lackA S L z).1.N then (k, (lackA S L z).1) :: fastG S L (k + 1) Q else fastG S L (k + 1) Q := rfl
    have ih := fastG_mem S L Q (k + 1) i y
    rw [e]
    constructor
    · intro h
      split at h
      · rename_i hz
        rcases List.mem_cons.1 h with h | h
        · cases h
          exact ⟨0, z, rfl, rfl, hz, rfl⟩
        · obtain ⟨j, x, h1, h2, h3⟩ := ih.1 h
          exact ⟨j + 1, x, h1, by omega, h3⟩
      · obtain ⟨j, x, h1, h2, h3⟩ := ih.1 h
        exact ⟨j + 1, x, h1, by omega, h3⟩
    · rintro ⟨j, x, h1, h2, h3, h4⟩
      cases j with
      | zero =>
        simp at h1
        subst h1 h4 h2
        rw [if_pos h3]
        exact List.mem_cons_self
      | succ j =>
        have h5 := ih.2 ⟨j, x, by simpa using h1, by omega, h3, h4⟩
        split
        · exact List.mem_cons_of_mem _ h5
        · exact h5
theorem fastG_rise (S L : Rt) : ∀ (Q : List Cu) (k : Nat), (fastG S L k Q).Pairwise (fun p q => p.1 < q.1)
  | [], _ => List.Pairwise.nil
  | z :: Q, k => by
    have e : fastG S L k (z :: Q) = if 0 < (lackA S L z).1.N then (k, (lackA S L z).1) :: fastG S L (k + 1) Q else fastG S L (k + 1) Q := rfl
    rw [e]
    split
    · refine List.Pairwise.cons (fun q hq => ?_) (fastG_rise S L Q (k + 1))
      obtain ⟨i, y⟩ := q
      obtain ⟨j, x, _, h2, _⟩ := (fastG_mem S L Q (k + 1) i y).1 hq
      show k < i
      omega
    · exact fastG_rise S L Q (k + 1)
theorem pw_at {α : Type} {R : α → α → Prop} {l : List α} (h : l.Pairwise R) {i j : Nat} {a b : α} (hij : i < j) (ha : l[i]? = some a) (hb : l[j]? = some b) : R a b := by
  obtain ⟨h1, rfl⟩ := List.getElem?_eq_some_iff.1 ha
  obtain ⟨h2, rfl⟩ := List.getElem?_eq_some_iff.1 hb
  exact List.pairwise_iff_getElem.1 h i j h1 h2 hij
/-- Where the search stands behind all lesser ones it has found its cue. -/
theorem found_at {A : List (Nat × Rt)} (hA : A.Pairwise (fun p q => p.1 < q.1)) {b : Nat × Rt} {k : Nat} (hk : k ≤ A.length) (hlo : ∀ j p, j < k → A[j]? = some p → p.1 < b.1) (hex : ∃ p ∈ A, p.1 = b.1 ∧ ¬ cmpI p.2 b.2 < 0) (hend : ∀ p, A[k]? = some p → ¬ p.1 < b.1) : ∃ p, A[k]? = some p ∧ p.1 = b.1 ∧ ¬ cmpI p.2 b.2 < 0 := by
  obtain ⟨p, hp, h1, h2⟩ := hex
  obtain ⟨j, hj⟩ := List.getElem?_of_mem hp
  have hjk : ¬ j < k := fun h => by have := hlo j p h hj; omega
  have hjl := (List.getElem?_eq_some_iff.1 hj).1
  by_cases e : j = k
  · subst e
    exact ⟨p, hj, h1, h2⟩
  · obtain ⟨q, hq⟩ : ∃ q, A[k]? = some q := ⟨_, List.getElem?_eq_getElem (by omega)⟩
    have h3 := pw_at hA (show k < j by omega) hq hj
    exact absurd (by omega) (hend q hq)
end Go.Proofs.YthhhglfcacoejaaGreatDoor

/- (pace).lacks at every cue. -/
namespace Go.Proofs.YthhhglfcacoejaaGreatDoor
open Go.RowKit Go.Shelf

set_option maxRecDepth 100000 in
set_option maxHeartbeats 1000000 in
theorem lacks_walk (a0 a1 a2 a3 a4 a5 : Int) (x : Cu) (p0 p1 p2 q0 q1 q2 cc d0 d1 d2 r0 r1 r2 : Int) (w : World)
    (hr : (¬ p2 = 0 ∧ r0 = 0 ∧ r1 = 0 ∧ r2 = p2) ∨ (p2 = 0 ∧ ¬ q2 = 0 ∧ r0 = 0 ∧ r1 = 0 ∧ r2 = q2) ∨ (p2 = 0 ∧ q2 = 0 ∧ 0 ≤ cc ∧ r0 = 0 ∧ r1 = 1 ∧ r2 = 0) ∨ (p2 = 0 ∧ q2 = 0 ∧ ¬ 0 ≤ cc ∧ r0 = d0 ∧ r1 = d1 ∧ r2 = d2))
    (H1 : ∀ W, Below w.heap.size w W → Calls Tryz.prog 30 #[.agg #[.int .i64 a0, .int .i64 a1, .int .i64 a2, .int .i64 a3, .int .i64 a4, .int .i64 a5], .agg #[.string x.s, .slice x.o x.n x.k]] W fun e w' => e = .returned (.tuple #[.agg #[.int .i64 p0, .int .i64 p1], .int .i64 p2]) ∧ Below W.heap.size W w')
    (H2 : ∀ W, Calls Tryz.prog 35 #[.agg #[.int .i64 x.c, .int .i64 x.d], .agg #[.int .i64 x.a, .int .i64 x.b]] W fun e w' => e = .returned (.tuple #[.agg #[.int .i64 q0, .int .i64 q1], .int .i64 q2]) ∧ Below W.heap.size W w')
    (H3 : ∀ W, Calls Tryz.prog 36 #[.agg #[.int .i64 q0, .int .i64 q1], .agg #[.int .i64 p0, .int .i64 p1]] W fun e w' => e = .returned (.int .i64 cc) ∧ Below W.heap.size W w')
    (H4 : ∀ W, Calls Tryz.prog 35 #[.agg #[.int .i64 p0, .int .i64 p1], .agg #[.int .i64 q0, .int .i64 q1]] W fun e w' => e = .returned (.tuple #[.agg #[.int .i64 d0, .int .i64 d1], .int .i64 d2]) ∧ Below W.heap.size W w') :
    Calls Tryz.prog 20 #[.agg #[.int .i64 a0, .int .i64 a1, .int .i64 a2, .int .i64 a3, .int .i64 a4, .int .i64 a5], .agg x.cells] w fun e w' => e = .returned (.tuple #[.agg #[.int .i64 r0, .int .i64 r1], .int .i64 r2]) ∧ Below w.heap.size w w' := by
  have HQ1 : Hid (p2 = 0 → q2 = 0 → 0 ≤ cc → r0 = 0 ∧ r1 = 1 ∧ r2 = 0) := hideC (fun h1 h2 h3 => by rcases hr with h | h | h | h <;> omega)
  have HQ2 : Hid (p2 = 0 → q2 = 0 → ¬ 0 ≤ cc → r0 = d0 ∧ r1 = d1 ∧ r2 = d2) := hideC (fun h1 h2 h3 => by rcases hr with h | h | h | h <;> omega)
  have HQ3 : Hid (p2 = 0 → ¬ q2 = 0 → r0 = 0 ∧ r1 = 0 ∧ r2 = q2) := hideC (fun h1 h2 => by rcases hr with h | h | h | h <;> omega)
  have HQ4 : Hid (¬ p2 = 0 → r0 = 0 ∧ r1 = 0 ∧ r2 = p2) := hideC (fun h1 => by rcases hr with h | h | h | h <;> omega)
  replace H1 := hideC H1
  replace H2 := hideC H2
  replace H3 := hideC H3
  replace H4 := hideC H4
  clear hr
  unfold Cu.cells
  go_enter Tryz.func20, Tryz.ntmps20
  go_wp2_with fail
  obtain ⟨V, hV⟩ : ∃ V, ((w.alloc (.cells #[.int .i64 a0, .int .i64 a1, .int .i64 a2, .int .i64 a3, .int .i64 a4, .int .i64 a5] 67)).alloc (.cells #[.int .i64 x.a, .int .i64 x.b, .int .i64 x.c, .int .i64 x.d, .int .i64 x.la, .int .i64 x.sd, .string x.nm, .string x.s, .slice x.o x.n x.k] 59)).alloc (.cells #[.int .i64 0, .int .i64 0] 26) = V := ⟨_, rfl⟩
  have HV : Hid (Below w.heap.size w V ∧ CueC V (w.heap.size + 1) x.a x.b x.c x.d x.la x.sd x.nm x.s (.slice x.o x.n x.k) ∧ Two V (w.heap.size + 1 + 1) (.int .i64 0) (.int .i64 0)) := hideC (by
    rw [← hV]
    refine ⟨(((Below.refl _ w).alloc (Nat.le_refl _) _).alloc (by simp) _).alloc (by simp <;> omega) _, ?_, ?_⟩
    · have h := World.alloc_heap_new (w.alloc (.cells #[.int .i64 a0, .int .i64 a1, .int .i64 a2, .int .i64 a3, .int .i64 a4, .int .i64 a5] 67)) (.cells #[.int .i64 x.a, .int .i64 x.b, .int .i64 x.c, .int .i64 x.d, .int .i64 x.la, .int .i64 x.sd, .string x.nm, .string x.s, .slice x.o x.n x.k] 59)
      rw [World.size_alloc] at h
      exact (Below.heap_alloc _ _ _ (by simp)).trans h
    · have h := Two.new ((w.alloc (.cells #[.int .i64 a0, .int .i64 a1, .int .i64 a2, .int .i64 a3, .int .i64 a4, .int .i64 a5] 67)).alloc (.cells #[.int .i64 x.a, .int .i64 x.b, .int .i64 x.c, .int .i64 x.d, .int .i64 x.la, .int .i64 x.sd, .string x.nm, .string x.s, .slice x.o x.n x.k] 59)) (.int .i64 0) (.int .i64 0) 26
      rw [World.size_alloc, World.size_alloc] at h
      exact h)
  rw [hV]
  clear hV
  refine (H1.out V HV.out.1).mono ?_
  rintro e w1 ⟨rfl, b1⟩
  have HA : Hid (Below w.heap.size w w1 ∧ CueC w1 (w.heap.size + 1) x.a x.b x.c x.d x.la x.sd x.nm x.s (.slice x.o x.n x.k) ∧ Two w1 (w.heap.size + 1 + 1) (.int .i64 0) (.int .i64 0)) := hideC ⟨bup HV.out.1 b1, HV.out.2.1.keep b1, HV.out.2.2.keep b1⟩
  clear b1
  go_upto_region 2 with fail
  obtain ⟨W1, hW1⟩ : ∃ W1, w1.alloc (.cells #[.int .i64 p0, .int .i64 p1] 26) = W1 := ⟨_, rfl⟩
  have HB : Hid (Below w.heap.size w W1 ∧ CueC W1 (w.heap.size + 1) x.a x.b x.c x.d x.la x.sd x.nm x.s (.slice x.o x.n x.k) ∧ Two W1 (w.heap.size + 1 + 1) (.int .i64 0) (.int .i64 0) ∧ Two W1 w1.heap.size (.int .i64 p0) (.int .i64 p1)) := hideC (by
    rw [← hW1]
    exact ⟨bup HA.out.1 (bel1 _ _), HA.out.2.1.keep (bel1 _ _), HA.out.2.2.keep (bel1 _ _), Two.new _ _ _ _⟩)
  rw [hW1]
  clear hW1
  generalize w1.heap.size = B1 at *
  by_cases hp : p2 = 0
  · subst hp
    have ⟨⟨c0, c1, c2, c3⟩, _⟩ := HB.out.2.1.cells
    go_wp2_with fail
    refine (H2.out W1).mono ?_
    rintro e w2 ⟨rfl, b2⟩
    have HC : Hid (Below w.heap.size w w2 ∧ Two w2 (w.heap.size + 1 + 1) (.int .i64 0) (.int .i64 0) ∧ Two w2 B1 (.int .i64 p0) (.int .i64 p1)) := hideC ⟨bup HB.out.1 b2, HB.out.2.2.1.keep b2, HB.out.2.2.2.keep b2⟩
    clear b2 c0 c1 c2 c3
    go_upto_region 5 with fail
    obtain ⟨W2, hW2⟩ : ∃ W2, w2.alloc (.cells #[.int .i64 q0, .int .i64 q1] 26) = W2 := ⟨_, rfl⟩
    have HD : Hid (Below w.heap.size w W2 ∧ Two W2 (w.heap.size + 1 + 1) (.int .i64 0) (.int .i64 0) ∧ Two W2 B1 (.int .i64 p0) (.int .i64 p1) ∧ Two W2 w2.heap.size (.int .i64 q0) (.int .i64 q1)) := hideC (by
      rw [← hW2]
      exact ⟨bup HC.out.1 (bel1 _ _), HC.out.2.1.keep (bel1 _ _), HC.out.2.2.keep (bel1 _ _), Two.new _ _ _ _⟩)
    rw [hW2]
    clear hW2
    generalize w2.heap.size = B2 at *
    by_cases hq : q2 = 0
    · subst hq
      obtain ⟨_, k0, k1, _, _⟩ := HD.out.2.2.1
      obtain ⟨_, l0, l1, _, _⟩ := HD.out.2.2.2
      go_wp2_with fail
      refine (H3.out W2).mono ?_
      rintro e w3 ⟨rfl, b3⟩
      have HE : Hid (Below w.heap.size w w3 ∧ Two w3 (w.heap.size + 1 + 1) (.int .i64 0) (.int .i64 0) ∧ Two w3 B1 (.int .i64 p0) (.int .i64 p1) ∧ Two w3 B2 (.int .i64 q0) (.int .i64 q1)) := hideC ⟨bup HD.out.1 b3, HD.out.2.1.keep b3, HD.out.2.2.1.keep b3, HD.out.2.2.2.keep b3⟩
      clear b3 k0 k1 l0 l1
      by_cases hc : 0 ≤ cc
      · obtain ⟨rfl, rfl, rfl⟩ : r0 = 0 ∧ r1 = 1 ∧ r2 = 0 := HQ1.out (by first | trivial | rfl) (by first | trivial | rfl) hc
        obtain ⟨_, z0, z1, f0, f1⟩ := HE.out.2.1
        go_wp2_with fail
        refine bodyPost_ret (v := .tuple #[.agg #[.int .i64 0, .int .i64 1], .int .i64 0]) (by simp [results, Tryz.results20, go_sem, z0, z1]) rfl ⟨rfl, ?_⟩
        exact (HE.out.1.setCell (by simp; omega) _).setCell (by simp; omega) _
      · have hr3 : r0 = d0 ∧ r1 = d1 ∧ r2 = d2 := HQ2.out (by first | trivial | rfl) (by first | trivial | rfl) (by omega)
        obtain ⟨rfl, rfl, rfl⟩ := hr3
        obtain ⟨_, k0, k1, _, _⟩ := HE.out.2.2.1
        obtain ⟨_, l0, l1, _, _⟩ := HE.out.2.2.2
        go_wp2_with fail
        refine (H4.out w3).mono ?_
        rintro e w4 ⟨rfl, b4⟩
        have HF : Hid (Below w.heap.size w w4 ∧ Two w4 (w.heap.size + 1 + 1) (.int .i64 0) (.int .i64 0)) := hideC ⟨bup HE.out.1 b4, HE.out.2.1.keep b4⟩
        clear b4 k0 k1 l0 l1
        obtain ⟨_, z0, z1, f0, f1⟩ := HF.out.2
        go_wp2_with fail
        refine bodyPost_ret (v := .tuple #[.agg #[.int .i64 r0, .int .i64 r1], .int .i64 r2]) (by simp [results, Tryz.results20, go_sem, z0, z1]) rfl ⟨rfl, ?_⟩
        exact (HF.out.1.setCell (by simp; omega) _).setCell (by simp; omega) _
    · obtain ⟨rfl, rfl, rfl⟩ : r0 = 0 ∧ r1 = 0 ∧ r2 = q2 := HQ3.out (by first | trivial | rfl) hq
      obtain ⟨_, z0, z1, f0, f1⟩ := HD.out.2.1
      go_wp2_with fail
      refine bodyPost_ret (v := .tuple #[.agg #[.int .i64 0, .int .i64 0], .int .i64 r2]) (by simp [results, Tryz.results20, go_sem, z0, z1]) rfl ⟨rfl, ?_⟩
      exact (HD.out.1.setCell (by simp; omega) _).setCell (by simp; omega) _
  · obtain ⟨rfl, rfl, rfl⟩ : r0 = 0 ∧ r1 = 0 ∧ r2 = p2 := HQ4.out hp
    obtain ⟨_, z0, z1, f0, f1⟩ := HB.out.2.2.1
    go_wp2_with fail
    refine bodyPost_ret (v := .tuple #[.agg #[.int .i64 0, .int .i64 0], .int .i64 r2]) (by simp [results, Tryz.results20, go_sem, z0, z1]) rfl ⟨rfl, ?_⟩
    exact (HB.out.1.setCell (by simp; omega) _).setCell (by simp; omega) _
theorem nrd_in (s : ByteArray) (hs : s.size ≤ 140737488355328) : RtIn ⟨(readN (signs s) : Nat), 1⟩ := by
  have hle := signs_leL s
  have hrl := readN_le (signs s)
  exact ⟨⟨by show (-9223372036854775808 : Int) ≤ (readN (signs s) : Int); omega, by show (readN (signs s) : Int) ≤ 9223372036854775807; omega⟩, ⟨by simp, by simp⟩⟩
theorem pwants_any (s : ByteArray) (v : Value) (S L G : Rt) (hs : s.size ≤ 140737488355328) (hS : RtIn S) (hL : RtIn L) (T : Nat) (w : World) (hT : Tabs T w) :
    Calls Tryz.prog 30 #[.agg #[.int .i64 S.N, .int .i64 S.D, .int .i64 L.N, .int .i64 L.D, .int .i64 G.N, .int .i64 G.D], .agg #[.string s, v]] w fun e w' => e = .returned (.tuple #[.agg #[.int .i64 (wantA (readN (signs s)) S L).1.N, .int .i64 (wantA (readN (signs s)) S L).1.D], .int .i64 (wantA (readN (signs s)) S L).2]) ∧ Below w.heap.size w w' := by
  have hle := signs_leL s
  have hrl := readN_le (signs s)
  refine paceWants_walk s v S.N S.D L.N L.D G.N G.D (readN (signs s)) _ _ _ _ _ _ _ (by omega) rfl w (fun W2 b2 => scount_any s (by omega) _ T W2 (hT.below b2)) (quo_any ⟨(readN (signs s) : Nat), 1⟩ S (nrd_in s hs) hS) (time_any _ (divA_inL _ _)) (fun B W2 hr => most_pair L _ hL (divA_inL _ _) B W2 hr) _ _ _ ?_
  unfold wantA
  by_cases h : (if (divA ⟨(readN (signs s) : Nat), 1⟩ S).2 = 0 then timeA (divA ⟨(readN (signs s) : Nat), 1⟩ S).1 else (divA ⟨(readN (signs s) : Nat), 1⟩ S).2) = 0
  · rw [if_pos h]
    exact .inr ⟨h, rfl, rfl, rfl⟩
  · rw [if_neg h]
    exact .inl ⟨h, rfl, rfl, rfl⟩
theorem lacks_any (x : Cu) (S L G : Rt) (hs : x.s.size ≤ 140737488355328) (h1 : RtIn ⟨x.a, x.b⟩) (h2 : RtIn ⟨x.c, x.d⟩) (hS : RtIn S) (hL : RtIn L) (T : Nat) (w : World) (hT : Tabs T w) :
    Calls Tryz.prog 20 #[.agg #[.int .i64 S.N, .int .i64 S.D, .int .i64 L.N, .int .i64 L.D, .int .i64 G.N, .int .i64 G.D], .agg x.cells] w fun e w' => e = .returned (.tuple #[.agg #[.int .i64 (lackA S L x).1.N, .int .i64 (lackA S L x).1.D], .int .i64 (lackA S L x).2]) ∧ Below w.heap.size w w' := by
  refine lacks_walk S.N S.D L.N L.D G.N G.D x _ _ _ _ _ _ _ _ _ _ _ _ _ w ?_ (fun W b => pwants_any x.s _ S L G hs hS hL T W (hT.below b)) (sub_any ⟨x.c, x.d⟩ ⟨x.a, x.b⟩ h2 h1) (cmp_any _ _ (subA_inL _ _) (wantA_in hL)) (sub_any _ _ (wantA_in hL) (subA_inL _ _))
  unfold lackA
  by_cases g1 : (wantA (readN (signs x.s)) S L).2 = 0
  · rw [if_neg (fun h => h g1)]
    by_cases g2 : (subA ⟨x.c, x.d⟩ ⟨x.a, x.b⟩).2 = 0
    · rw [if_neg (fun h => h g2)]
      by_cases g3 : 0 ≤ cmpI (subA ⟨x.c, x.d⟩ ⟨x.a, x.b⟩).1 (wantA (readN (signs x.s)) S L).1
      · rw [if_pos g3]
        exact .inr (.inr (.inl ⟨g1, g2, g3, rfl, rfl, rfl⟩))
      · rw [if_neg g3]
        exact .inr (.inr (.inr ⟨g1, g2, g3, rfl, rfl, rfl⟩))
    · rw [if_pos g2]
      exact .inr (.inl ⟨g1, g2, rfl, rfl, rfl⟩)
  · rw [if_pos g1]
    exact .inl ⟨g1, rfl, rfl, rfl⟩
end Go.Proofs.YthhhglfcacoejaaGreatDoor

/- speed.each at (pace).lacks: what all cues lack, or the first that is refused. -/
namespace Go.Proofs.YthhhglfcacoejaaGreatDoor
open Go.RowKit Go.Shelf

def flatRt (L : List Rt) : List Value := L.flatMap fun r => [.int .i64 r.N, .int .i64 r.D]
theorem flatRt_app (L : List Rt) (r : Rt) : flatRt (L ++ [r]) = flatRt L ++ [.int .i64 r.N, .int .i64 r.D] := by
  unfold flatRt
  rw [List.flatMap_append]
  simp
theorem infoRtE : (Tryz.prog.info? 26).map (fun i => (i.zero, i.size, i.bytes)) = some (some (.agg #[.int .i64 0, .int .i64 0]), 2, 16) := by kernel_rfl
theorem info_partsE {P : Program} {t : TypeId} {z : Option Value} {a b : Nat} (h : (P.info? t).map (fun i => (i.zero, i.size, i.bytes)) = some (z, a, b)) : ∃ i, P.info? t = some i ∧ i.zero = z ∧ i.size = a ∧ i.bytes = b := by
  obtain ⟨i, hi, e⟩ := Option.map_eq_some_iff.1 h
  simp only [Prod.mk.injEq] at e
  exact ⟨i, hi, e.1, e.2.1, e.2.2⟩
theorem own_butE {A B : World} {M : Nat → Prop} {base e size n : Nat} {v : Value} {xs : List Value} (h : A.ownsRow base e size v n xs) (hb : But M A B) (hne : ∀ k, v.ownBlock = some k → ¬ M k) : B.ownsRow base e size v n xs := by
  refine ⟨h.1, ?_⟩
  rcases h.2 with hn | ⟨g, cap, cur, rfl, hg, hgg, rest⟩
  · exact .inl hn
  · exact .inr ⟨g, cap, cur, rfl, hg, (hb.same g (Array.getElem?_eq_some_iff.1 hgg).1 (hne g rfl)).trans hgg, rest⟩
/-- What each tells: the ratios of all, or the first error. -/
def EaV (w w' : World) (f : Cu → Rt × Int) (L : List Cu) (v er : Value) : Prop := WrV w' w.heap.size (badC (fun x => (f x).2) 0 L) er ∧ (badC (fun x => (f x).2) 0 L = none → w'.ownsRow w.heap.size 26 2 v L.length (flatRt (L.map fun x => (f x).1)))

set_option maxRecDepth 100000 in
set_option maxHeartbeats 2000000 in
theorem each_walk (f : Cu → Rt × Int) (a0 a1 a2 a3 a4 a5 : Int) (L : List Cu) (oa : Option Addr) (cap : Nat) (hc : L.length ≤ cap ∧ cap ≤ maxLen) (hn : L.length ≤ 1000000) (w : World) (hR : CuO w oa L)
    (HL : ∀ x ∈ L, ∀ W, Below w.heap.size w W → Calls Tryz.prog 20 #[.agg #[.int .i64 a0, .int .i64 a1, .int .i64 a2, .int .i64 a3, .int .i64 a4, .int .i64 a5], .agg x.cells] W fun e w' => e = .returned (.tuple #[.agg #[.int .i64 (f x).1.N, .int .i64 (f x).1.D], .int .i64 (f x).2]) ∧ Below W.heap.size W w') :
    Calls Tryz.prog 19 #[.slice oa L.length cap, .func (.func 20) #[.agg #[.int .i64 a0, .int .i64 a1, .int .i64 a2, .int .i64 a3, .int .i64 a4, .int .i64 a5]] #[]] w fun e w' => ∃ v er, e = .returned (.tuple #[v, er]) ∧ EaV w w' f L v er ∧ Below w.heap.size w w' := by
  obtain ⟨i0, hi, hz0, hz1, hz2⟩ := info_partsE infoRtE
  obtain ⟨N, hN⟩ : ∃ N, L.length = N := ⟨_, rfl⟩
  have HN := hideC hN
  rw [hN] at hc hn
  rw [hN]
  have hcm : cap ≤ 9223372036854775807 := hc.2
  have HR := hideC hR
  replace HL := hideC HL
  clear hR hN
  go_enter Tryz.func19, Tryz.ntmps19
  go_wp2_with (at_make; refine wpList_make_own _ rfl _ _ 62 rfl w.heap.size 26 i0 (.agg #[.int .i64 0, .int .i64 0]) 2 Tryz.underlying62 hi hz0 hz1 .i64 .i64 _ N rfl rfl (by first | rfl | simp) (by rw [hz2]; omega) (by unfold maxLen; omega) (Nat.le_refl _) ?_; intro w1 own1 gr1)
  have HV : Hid (Below w.heap.size w w1 ∧ w1.ownsRow w.heap.size 26 2 (.slice (some ⟨w.heap.size, 0, none⟩) 0 N) 0 []) := hideC ⟨Below.grown (Below.refl w.heap.size w) gr1 (Nat.le_refl _) (fun k hk => by cases hk), own1⟩
  clear own1 gr1
  go_loopw [6, 16] (fun lv iv wq => ∃ j : Nat, iv = .int .i64 (j : Nat) ∧ j ≤ N ∧ wq.ownsRow w.heap.size 26 2 lv j (flatRt ((L.take j).map fun x => (f x).1)) ∧ badC (fun x => (f x).2) 0 L = badC (fun x => (f x).2) j (L.drop j) ∧ Below w.heap.size w wq) (fun _ iv _ => N - (intOf iv).toNat)
  case atStart => exact ⟨0, rfl, Nat.zero_le _, HV.out.2, rfl, HV.out.1⟩
  case round =>
    obtain ⟨j, rfl, hj, hown, hbad, hb⟩ := hrel
    obtain ⟨wq, rfl⟩ : ∃ wq, wq = wr := ⟨_, rfl⟩
    by_cases hlt : j < N
    · obtain ⟨x, hx⟩ : ∃ x, L[j]? = some x := ⟨_, List.getElem?_eq_getElem (by rw [HN.out]; exact hlt)⟩
      obtain ⟨a, rfl, hab, ⟨c0, c1, c2, c3⟩, ⟨c4, c5⟩, ⟨c6, c7, c8⟩⟩ := HR.out.keep hb j x hx
      have d2 : (j : Int) < (N : Int) := by omega
      have wi : IntKind.i64.wrap ((j : Int) + 1) = ((j + 1 : Nat) : Int) := by rw [show ((j + 1 : Nat) : Int) = (j : Int) + 1 by omega]; exact IntWalk.i64_in _ ⟨by omega, by omega⟩
      have HC := hideC (HL.out x (List.mem_of_getElem? hx))
      unfold Cu.cells at HC
      obtain ⟨r0, h0⟩ : ∃ r0, (f x).1.N = r0 := ⟨_, rfl⟩
      obtain ⟨r1, h1⟩ : ∃ r1, (f x).1.D = r1 := ⟨_, rfl⟩
      obtain ⟨r2, h2⟩ : ∃ r2, (f x).2 = r2 := ⟨_, rfl⟩
      rw [h0, h1, h2] at HC
      have HA := hideC (And.intro hx (And.intro (And.intro h0 (And.intro h1 h2)) (And.intro hown (And.intro hbad hb))))
      clear hx h0 h1 h2 hown hbad hb
      go_wp2_with fail
      obtain ⟨V, hV⟩ : ∃ V, wq.alloc (.cells #[.int .i64 x.a, .int .i64 x.b, .int .i64 x.c, .int .i64 x.d, .int .i64 x.la, .int .i64 x.sd, .string x.nm, .string x.s, .slice x.o x.n x.k] 59) = V := ⟨_, rfl⟩
      have HV2 : Hid (Below wq.heap.size wq V) := hideC (by rw [← hV]; exact bel1 _ _)
      rw [hV]
      clear hV c0 c1 c2 c3 c4 c5 c6 c7 c8
      refine (HC.out V (bup HA.out.2.2.2.2 HV2.out)).mono ?_
      rintro e w2 ⟨rfl, b2⟩
      have HB := hideC (bup HV2.out b2)
      clear b2
      go_upto_region 6 with fail
      obtain ⟨W, hW⟩ : ∃ W, w2.alloc (.cells #[.int .i64 r0, .int .i64 r1] 26) = W := ⟨_, rfl⟩
      have HW : Hid (Below wq.heap.size wq W ∧ Two W w2.heap.size (.int .i64 r0) (.int .i64 r1) ∧ w2.heap.size < W.heap.size) := hideC (by
        rw [← hW]
        exact ⟨bup HB.out (bel1 _ _), Two.new _ _ _ _, by simp⟩)
      rw [hW]
      clear hW
      by_cases hr : r2 = 0
      · obtain ⟨_, k0, k1, _, _⟩ := HW.out.2.1
        have hownW := own_butE HA.out.2.2.1 (But.grown (M := fun _ => False) HW.out.1) (fun _ _ h => h)
        have hzW := HW.out.1.size
        have hz9 := HA.out.2.2.2.2.size
        go_wp2_with (at_builtin; refine wpList_append_lies _ rfl _ _ 62 rfl w.heap.size 26 i0 _ 2 16 Tryz.underlying62 hi hz0 hz1 hz2 rfl (by decide) _ j (flatRt ((L.take j).map fun x => (f x).1)) rfl (hownW.alloc _) ⟨W.heap.size, 0, none⟩ 1 1 [.int .i64 r0, .int .i64 r1] rfl rfl (World.news_of_block (cs := #[.int .i64 r0, .int .i64 r1]) (t := 26) (fr := (0, 0)) (World.alloc_heap_new W _)) (by simp [Value.oneCell']) (by omega) (by unfold maxLen; omega) (by omega) (by simp; omega) (W.heap.size + 1) (by simp) ?_; intro gg cap2 w6 hown6 hgrow6 hat6 hlt6)
        go_roundw
        case rel =>
          refine ⟨j + 1, by first | rfl | simp, by omega, ?_, ?_, ?_⟩
          · have e1 : (L.take (j + 1)).map (fun x => (f x).1) = (L.take j).map (fun x => (f x).1) ++ [(f x).1] := by
              rw [List.take_add_one, HA.out.1, List.map_append]
              rfl
            rw [e1, flatRt_app, HA.out.2.1.1, HA.out.2.1.2.1]
            exact hown6
          · rw [HA.out.2.2.2.1, badC_drop _ L j x HA.out.1, if_pos (HA.out.2.1.2.2.trans hr)]
          · exact Below.grown ((HA.out.2.2.2.2.trans (HW.out.1.mono hz9)).alloc (by omega) _) hgrow6 (by rw [World.size_alloc]; omega) (fun k hk => (hownW.lt k hk).1)
        case measure => simp [intOf]; omega
      · have hbb : badC (fun x => (f x).2) 0 L = some (j, r2) := by
          rw [HA.out.2.2.2.1, badC_drop _ L j x HA.out.1, if_neg (by rw [HA.out.2.1.2.2]; exact hr), HA.out.2.1.2.2]
        have HBB := hideC hbb
        clear hbb
        go_wp2_with fail
        go_ret2
        refine ⟨_, _, rfl, ⟨?_, fun h => ?_⟩, ?_⟩
        · rw [HBB.out]
          exact ⟨W.heap.size, rfl, by have h1 := HA.out.2.2.2.2.size; have h2 := HW.out.1.size; omega, World.alloc_heap_new _ _⟩
        · rw [HBB.out] at h
          cases h
        · exact (bup HA.out.2.2.2.2 HW.out.1).alloc (by have h1 := HA.out.2.2.2.2.size; have h2 := HW.out.1.size; omega) _
    · obtain rfl : j = N := by omega
      have d2 : ¬ (j : Int) < (j : Int) := by omega
      have hk : L.take j = L := List.take_of_length_le (by rw [HN.out]; exact Nat.le_refl _)
      have hk2 : L.drop j = [] := List.drop_eq_nil_of_le (by rw [HN.out]; exact Nat.le_refl _)
      rw [hk] at hown
      rw [hk2] at hbad
      have HA := hideC (And.intro hown (And.intro hbad hb))
      clear hk hk2 hown hbad hb
      go_wp2_with fail
      go_ret2
      refine ⟨_, _, rfl, ⟨?_, fun h => ?_⟩, HA.out.2.2⟩
      · rw [HA.out.2.1]
        rfl
      · rw [HN.out]
        exact HA.out.1
end Go.Proofs.YthhhglfcacoejaaGreatDoor

/- speed.check, speed.Look at every document and all rules. -/
namespace Go.Proofs.YthhhglfcacoejaaGreatDoor
open Go.RowKit Go.Shelf

/-- Ratios that lie one behind the other at an address. -/
def RtO (V : World) (oa : Option Addr) (Q : List Rt) : Prop := ∀ (i : Nat) (r : Rt), Q[i]? = some r → ∃ a : Addr, oa = some a ∧ a.block < V.heap.size ∧ V.cell? (a.add (i * 2)) = some (.int .i64 r.N) ∧ V.cell? ⟨(a.add (i * 2)).block, (a.add (i * 2)).off + 1, none⟩ = some (.int .i64 r.D)
theorem RtO.keep {V V2 : World} {oa : Option Addr} {Q : List Rt} (h : RtO V oa Q) (b : Below V.heap.size V V2) : RtO V2 oa Q := fun i p hp => by
  obtain ⟨a, ha, hb, h0, h1⟩ := h i p hp
  have k : (a.add (i * 2)).block < V.heap.size := by rw [addrK_block]; exact hb
  exact ⟨a, ha, Nat.lt_of_lt_of_le hb b.size, (b.cell k).trans h0, (b.cell (p := ⟨(a.add (i * 2)).block, _, none⟩) k).trans h1⟩
theorem flatRt_at : ∀ (M : List Rt) (i j : Nat) (y : Rt), M[i]? = some y → j < 2 → (flatRt M)[i * 2 + j]? = [Value.int .i64 y.N, .int .i64 y.D][j]?
  | [], i, j, y, h, _ => by simp at h
  | x :: M, 0, j, y, h, hj => by
    simp at h
    subst h
    show ([Value.int .i64 x.N, .int .i64 x.D] ++ flatRt M)[0 * 2 + j]? = _
    rw [Nat.zero_mul, Nat.zero_add, List.getElem?_append_left (by show j < 2; exact hj)]
  | x :: M, i + 1, j, y, h, hj => by
    show ([Value.int .i64 x.N, .int .i64 x.D] ++ flatRt M)[(i + 1) * 2 + j]? = _
    rw [List.getElem?_append_right (by show 2 ≤ _; omega), show (i + 1) * 2 + j - [Value.int .i64 x.N, .int .i64 x.D].length = i * 2 + j by show (i + 1) * 2 + j - 2 = _; omega]
    exact flatRt_at M i j y (by simpa using h) hj
theorem addZE (B n : Nat) : (⟨B, 0, none⟩ : Addr).add n = ⟨B, n, none⟩ := by unfold Addr.add; split <;> simp_all
theorem rto_own {W : World} {m e n : Nat} {v : Value} {M : List Rt} (h : W.ownsRow m e 2 v n (flatRt M)) (hn : M.length = n) : ∃ oa ca, v = .slice oa n ca ∧ (n ≤ ca ∧ ca ≤ maxLen) ∧ RtO W oa M := by
  have h' := h
  obtain ⟨h1, ⟨rfl, h0⟩ | ⟨g, cap, cur, rfl, hg, hh, hcn, hcap, hsz, htake⟩⟩ := h
  · refine ⟨none, 0, by rw [h0], ⟨by omega, Nat.zero_le _⟩, fun i p hp => ?_⟩
    have := (List.getElem?_eq_some_iff.1 hp).1
    omega
  · refine ⟨_, _, rfl, ⟨hcn, hcap⟩, fun i p hp => ?_⟩
    have c : ∀ j u, j < 2 → [Value.int .i64 p.N, .int .i64 p.D][j]? = some u → W.cell? ⟨g, i * 2 + j, none⟩ = some u := fun j u hj hu => by
      have := World.ownsRow.cells h' (g := g) rfl (i * 2 + j) u (by rw [flatRt_at M i j p hp hj]; exact hu)
      rwa [addZE] at this
    refine ⟨⟨g, 0, none⟩, rfl, (Array.getElem?_eq_some_iff.1 hh).1, ?_⟩
    rw [addZE]
    exact ⟨c 0 _ (by omega) rfl, c 1 _ (by omega) rfl⟩
/-- What check refuses. -/
def chkR (sp : Cu → List Sp) (S L G : Rt) (Q : List Cu) : Option (Nat × Int) := match docC (chkF sp) Q with
  | some p => some p
  | none => if (rightB S && decide (0 < S.N) && decide (timeA L = 0) && decide (timeA G = 0)) = true then none else some (0, 1)

set_option maxRecDepth 100000 in
set_option maxHeartbeats 1000000 in
theorem scheck_any (sp : Cu → List Sp) (S L G : Rt) (Q : List Cu) (oa : Option Addr) (cap : Nat) (hc : Q.length ≤ cap ∧ cap ≤ maxLen) (hS : RtIn S) (hL : RtIn L) (hG : RtIn G) (w : World) (hR : CuO w oa Q) (hP : ∀ x ∈ Q, CuP w sp x) :
    Calls Tryz.prog 18 #[.agg #[.slice oa Q.length cap], .agg #[.int .i64 S.N, .int .i64 S.D, .int .i64 L.N, .int .i64 L.D, .int .i64 G.N, .int .i64 G.D]] w fun e w' => ∃ er, e = .returned er ∧ WrV w' w.heap.size (chkR sp S L G Q) er ∧ Below w.heap.size w w' := by
  have HD := hideC (fun (W : World) (b : Below w.heap.size w W) => checkdoc_any sp Q oa cap hc W (hR.keep b) (fun x hx => (hP x hx).keep b))
  have HK := hideC (fun (W : World) => rulesRight_walk S.N S.D L.N L.D G.N G.D (rightB S) (timeA L) (timeA G) W (right_any S hS) (time_any L hL) (time_any G hG))
  unfold chkR
  obtain ⟨N, hN⟩ : ∃ N, Q.length = N := ⟨_, rfl⟩
  rw [hN] at HD ⊢
  generalize (rightB S && decide (0 < S.N) && decide (timeA L = 0) && decide (timeA G = 0)) = rb at *
  generalize docC (chkF sp) Q = R at *
  clear hN hc hS hL hG hR hP
  generalize S.N = s0 at *
  generalize S.D = s1 at *
  generalize L.N = l0 at *
  generalize L.D = l1 at *
  generalize G.N = g0 at *
  generalize G.D = g1 at *
  cases R with
  | some p =>
    obtain ⟨i, k⟩ := p
    go_enter Tryz.func18, Tryz.ntmps18
    go_wp2_with fail
    refine (HD.out _ (((Below.refl _ w).alloc (Nat.le_refl _) _).alloc (by simp) _)).mono ?_
    rintro e w1 ⟨v, rfl, ⟨g, rfl, hg1, hg2⟩, b1⟩
    have HG := hideC (And.intro hg1 (And.intro hg2 b1))
    clear hg1 hg2 b1
    go_wp2_with fail
    go_ret
    refine ⟨_, rfl, ⟨g, rfl, ?_, HG.out.2.1⟩, bup (((Below.refl _ w).alloc (Nat.le_refl _) _).alloc (by simp) _) HG.out.2.2⟩
    have := HG.out.1
    rw [World.size_alloc, World.size_alloc] at this
    omega
  | none =>
    go_enter Tryz.func18, Tryz.ntmps18
    go_wp2_with fail
    have hz3 : w.heap.size + 1 < ((w.alloc (.cells #[.slice oa N cap] 24)).alloc (.cells #[.int .i64 s0, .int .i64 s1, .int .i64 l0, .int .i64 l1, .int .i64 g0, .int .i64 g1] 37)).heap.size := by simp
    have SX : SixC ((w.alloc (.cells #[.slice oa N cap] 24)).alloc (.cells #[.int .i64 s0, .int .i64 s1, .int .i64 l0, .int .i64 l1, .int .i64 g0, .int .i64 g1] 37)) (w.heap.size + 1) 37 s0 s1 l0 l1 g0 g1 := by
      have h := World.alloc_heap_new (w.alloc (.cells #[.slice oa N cap] 24)) (.cells #[.int .i64 s0, .int .i64 s1, .int .i64 l0, .int .i64 l1, .int .i64 g0, .int .i64 g1] 37)
      rw [World.size_alloc] at h
      exact h
    refine (HD.out _ (((Below.refl _ w).alloc (Nat.le_refl _) _).alloc (by simp) _)).mono ?_
    rintro e w1 ⟨v, rfl, hv, b1⟩
    obtain rfl : v = .nilIface := hv
    have HB : Hid (Below w.heap.size w w1 ∧ SixC w1 (w.heap.size + 1) 37 s0 s1 l0 l1 g0 g1) := hideC ⟨bup (((Below.refl _ w).alloc (Nat.le_refl _) _).alloc (by simp) _) b1, SX.keep b1⟩
    clear SX b1 hz3
    have ⟨c0, c1, c2, c3, c4, c5⟩ := HB.out.2.cells
    go_wp2_with fail
    refine (HK.out _).mono ?_
    rintro e w2 ⟨rfl, b2⟩
    have HC := hideC (bup HB.out.1 b2)
    clear b2 c0 c1 c2 c3 c4 c5
    cases rb with
    | true =>
      go_wp2_with fail
      go_ret
      exact ⟨_, rfl, rfl, HC.out⟩
    | false =>
      go_wp2_with fail
      go_ret
      exact ⟨_, rfl, ⟨w2.heap.size, rfl, HC.out.size, World.alloc_heap_new _ _⟩, HC.out.alloc HC.out.size _⟩
end Go.Proofs.YthhhglfcacoejaaGreatDoor

/- speed.Look at every document and all rules. -/
namespace Go.Proofs.YthhhglfcacoejaaGreatDoor
open Go.RowKit Go.Shelf

/-- Cues that are seen too briefly, as cells. -/
def flatF (M : List (Nat × Rt)) : List Value := M.flatMap fun p => [.int .i64 (p.1 : Int), .int .i64 p.2.N, .int .i64 p.2.D]
theorem flatF_app (M : List (Nat × Rt)) (p : Nat × Rt) : flatF (M ++ [p]) = flatF M ++ [.int .i64 (p.1 : Int), .int .i64 p.2.N, .int .i64 p.2.D] := by
  unfold flatF
  rw [List.flatMap_append]
  simp
theorem infoFast : (Tryz.prog.info? 69).map (fun i => (i.zero, i.size, i.bytes)) = some (some (.agg #[.int .i64 0, .int .i64 0, .int .i64 0]), 3, 24) := by kernel_rfl
theorem fastG_len (S L : Rt) : ∀ (Q : List Cu) (i : Nat), (fastG S L i Q).length ≤ Q.length
  | [], _ => Nat.le_refl _
  | x :: Q, i => by
    have h := fastG_len S L Q (i + 1)
    have e : fastG S L i (x :: Q) = if 0 < (lackA S L x).1.N then (i, (lackA S L x).1) :: fastG S L (i + 1) Q else fastG S L (i + 1) Q := rfl
    rw [e]
    split
    · simp
      exact h
    · simp
      omega
/-- Cues that are seen too briefly, read at an address. -/
def FaO (V : World) (oa : Option Addr) (M : List (Nat × Rt)) : Prop := ∀ (i : Nat) (p : Nat × Rt), M[i]? = some p → ∃ a : Addr, oa = some a ∧ a.block < V.heap.size ∧ V.cell? (a.add (i * 3)) = some (.int .i64 (p.1 : Int)) ∧ V.cell? ⟨(a.add (i * 3)).block, (a.add (i * 3)).off + 1, none⟩ = some (.int .i64 p.2.N) ∧ V.cell? ⟨(a.add (i * 3)).block, (a.add (i * 3)).off + 2, none⟩ = some (.int .i64 p.2.D)
theorem FaO.keep {V V2 : World} {oa : Option Addr} {M : List (Nat × Rt)} (h : FaO V oa M) (b : Below V.heap.size V V2) : FaO V2 oa M := fun i p hp => by
  obtain ⟨a, ha, hb, h0, h1, h2⟩ := h i p hp
  have k : (a.add (i * 3)).block < V.heap.size := by rw [addrK_block]; exact hb
  exact ⟨a, ha, Nat.lt_of_lt_of_le hb b.size, (b.cell k).trans h0, (b.cell (p := ⟨(a.add (i * 3)).block, _, none⟩) k).trans h1, (b.cell (p := ⟨(a.add (i * 3)).block, _, none⟩) k).trans h2⟩
theorem flatF_at : ∀ (M : List (Nat × Rt)) (i j : Nat) (y : Nat × Rt), M[i]? = some y → j < 3 → (flatF M)[i * 3 + j]? = [Value.int .i64 (y.1 : Int), .int .i64 y.2.N, .int .i64 y.2.D][j]?
  | [], i, j, y, h, _ => by simp at h
  | x :: M, 0, j, y, h, hj => by
    simp at h
    subst h
    show ([Value.int .i64 (x.1 : Int), .int .i64 x.2.N, .int .i64 x.2.D] ++ flatF M)[0 * 3 + j]? = _
    rw [Nat.zero_mul, Nat.zero_add, List.getElem?_append_left (by show j < 3; exact hj)]
  | x :: M, i + 1, j, y, h, hj => by
    show ([Value.int .i64 (x.1 : Int), .int .i64 x.2.N, .int .i64 x.2.D] ++ flatF M)[(i + 1) * 3 + j]? = _
    rw [List.getElem?_append_right (by show 3 ≤ _; omega), show (i + 1) * 3 + j - [Value.int .i64 (x.1 : Int), .int .i64 x.2.N, .int .i64 x.2.D].length = i * 3 + j by show (i + 1) * 3 + j - 3 = _; omega]
    exact flatF_at M i j y (by simpa using h) hj
theorem fao_own {W : World} {m e n : Nat} {v : Value} {M : List (Nat × Rt)} (h : W.ownsRow m e 3 v n (flatF M)) (hn : M.length = n) : ∃ oa ca, v = .slice oa n ca ∧ (n ≤ ca ∧ ca ≤ maxLen) ∧ FaO W oa M := by
  have h' := h
  obtain ⟨h1, ⟨rfl, h0⟩ | ⟨g, cap, cur, rfl, hg, hh, hcn, hcap, hsz, htake⟩⟩ := h
  · refine ⟨none, 0, by rw [h0], ⟨by omega, Nat.zero_le _⟩, fun i p hp => ?_⟩
    have := (List.getElem?_eq_some_iff.1 hp).1
    omega
  · refine ⟨_, _, rfl, ⟨hcn, hcap⟩, fun i p hp => ?_⟩
    have c : ∀ j u, j < 3 → [Value.int .i64 (p.1 : Int), .int .i64 p.2.N, .int .i64 p.2.D][j]? = some u → W.cell? ⟨g, i * 3 + j, none⟩ = some u := fun j u hj hu => by
      have := World.ownsRow.cells h' (g := g) rfl (i * 3 + j) u (by rw [flatF_at M i j p hp hj]; exact hu)
      rwa [addZE] at this
    refine ⟨⟨g, 0, none⟩, rfl, (Array.getElem?_eq_some_iff.1 hh).1, ?_⟩
    rw [addZE]
    exact ⟨c 0 _ (by omega) rfl, c 1 _ (by omega) rfl, c 2 _ (by omega) rfl⟩
/-- What Look tells. -/
def LkV (w w' : World) (r : Option (Nat × Int)) (M : List (Nat × Rt)) (v er : Value) : Prop := WrV w' w.heap.size r er ∧ (r = none → w'.ownsRow w.heap.size 69 3 v M.length (flatF M)) ∧ (¬ r = none → v = .slice none 0 0)
theorem lookR_of {sp : Cu → List Sp} {S L G : Rt} {Q : List Cu} : lookR sp S L G Q = match chkR sp S L G Q with | some p => some p | none => badC (fun x => (lackA S L x).2) 0 Q := by
  unfold lookR chkR
  cases docC (chkF sp) Q with
  | some p => rfl
  | none =>
    simp only
    split <;> rfl

set_option maxRecDepth 100000 in
set_option maxHeartbeats 2000000 in
theorem look11_any (sp : Cu → List Sp) (S L G : Rt) (Q : List Cu) (oa : Option Addr) (cap : Nat) (hc : Q.length ≤ cap ∧ cap ≤ maxLen) (hn : Q.length ≤ 1000000) (hS : RtIn S) (hL : RtIn L) (hG : RtIn G) (T : Nat) (w : World) (hT : Tabs T w) (hR : CuO w oa Q) (hP : ∀ x ∈ Q, CuP w sp x) :
    Calls Tryz.prog 7 #[.agg #[.slice oa Q.length cap], .agg #[.int .i64 S.N, .int .i64 S.D, .int .i64 L.N, .int .i64 L.D, .int .i64 G.N, .int .i64 G.D]] w fun e w' => ∃ v er, e = .returned (.tuple #[v, er]) ∧ LkV w w' (lookR sp S L G Q) (fastG S L 0 Q) v er ∧ Below w.heap.size w w' := by
  obtain ⟨i0, hi, hz0, hz1, hz2⟩ := info_partsE infoFast
  have HD := hideC (fun (W : World) (b : Below w.heap.size w W) => scheck_any sp S L G Q oa cap hc hS hL hG W (hR.keep b) (fun x hx => (hP x hx).keep b))
  have HE := hideC (fun (W : World) (b : Below w.heap.size w W) => each_walk (lackA S L) S.N S.D L.N L.D G.N G.D Q oa cap hc hn W (hR.keep b) (fun x hx W2 b2 => lacks_any x S L G (hP x hx).2.2.1 (hP x hx).1 (hP x hx).2.1 hS hL T W2 (hT.below (bup b b2))))
  have HM : Hid (∀ (j : Nat) (x : Cu), Q[j]? = some x → fastG S L 0 (Q.take (j + 1)) = fastG S L 0 (Q.take j) ++ if 0 < (lackA S L x).1.N then [(j, (lackA S L x).1)] else []) := hideC (fun j x h => fastG_take h)
  have HLn : Hid (∀ j, (fastG S L 0 (Q.take j)).length ≤ 1000000) := hideC (fun j => by
    have h1 := fastG_len S L (Q.take j) 0
    have h2 := List.length_take_le j Q
    have h3 : (Q.take j).length ≤ Q.length := by rw [List.length_take]; omega
    omega)
  rw [lookR_of]
  obtain ⟨N, hN⟩ : ∃ N, Q.length = N := ⟨_, rfl⟩
  have HN := hideC hN
  rw [hN] at HD HE hn ⊢
  generalize hf : lackA S L = f at *
  generalize chkR sp S L G Q = R at *
  clear hN hc hS hL hG hR hP hT
  generalize S.N = s0 at *
  generalize S.D = s1 at *
  generalize L.N = l0 at *
  generalize L.D = l1 at *
  generalize G.N = g0 at *
  generalize G.D = g1 at *
  obtain ⟨V, hV⟩ : ∃ V, (w.alloc (.cells #[.slice oa N cap] 24)).alloc (.cells #[.int .i64 s0, .int .i64 s1, .int .i64 l0, .int .i64 l1, .int .i64 g0, .int .i64 g1] 37) = V := ⟨_, rfl⟩
  have HV : Hid (Below w.heap.size w V ∧ SixC V (w.heap.size + 1) 37 s0 s1 l0 l1 g0 g1 ∧ V.heap[w.heap.size]? = some (.cells #[.slice oa N cap] 24)) := hideC (by
    rw [← hV]
    refine ⟨((Below.refl _ w).alloc (Nat.le_refl _) _).alloc (by simp) _, ?_, (Below.heap_alloc _ _ _ (by simp)).trans (World.alloc_heap_new w _)⟩
    have h := World.alloc_heap_new (w.alloc (.cells #[.slice oa N cap] 24)) (.cells #[.int .i64 s0, .int .i64 s1, .int .i64 l0, .int .i64 l1, .int .i64 g0, .int .i64 g1] 37)
    rw [World.size_alloc] at h
    exact h)
  have HVV := hideC hV
  clear hV
  cases R with
  | some p =>
    obtain ⟨i, k⟩ := p
    go_enter Tryz.func7, Tryz.ntmps7
    go_wp2_with fail
    rw [HVV.out]
    clear HVV
    refine (HD.out V HV.out.1).mono ?_
    rintro e w1 ⟨v, rfl, ⟨g, rfl, hg1, hg2⟩, b1⟩
    have HG := hideC (And.intro hg1 (And.intro hg2 b1))
    clear hg1 hg2 b1
    go_wp2_with fail
    go_ret2
    refine ⟨_, _, rfl, ⟨⟨g, rfl, ?_, HG.out.2.1⟩, fun h => (nomatch h), fun _ => rfl⟩, bup HV.out.1 HG.out.2.2⟩
    have h1 := HG.out.1
    have h2 := HV.out.1.size
    omega
  | none =>
    obtain ⟨R2, hR2⟩ : ∃ R2, badC (fun x => (f x).2) 0 Q = R2 := ⟨_, rfl⟩
    simp only
    rw [hR2]
    have HR2 := hideC hR2
    clear hR2
    cases R2 with
    | some p =>
      obtain ⟨i, k⟩ := p
      go_enter Tryz.func7, Tryz.ntmps7
      go_wp2_with fail
      rw [HVV.out]
      clear HVV
      refine (HD.out V HV.out.1).mono ?_
      rintro e w1 ⟨v, rfl, hv, b1⟩
      obtain rfl : v = .nilIface := hv
      have HB : Hid (Below w.heap.size w w1 ∧ SixC w1 (w.heap.size + 1) 37 s0 s1 l0 l1 g0 g1) := hideC ⟨bup HV.out.1 b1, HV.out.2.1.keep b1⟩
      have cD : w1.cell? ⟨w.heap.size, 0, none⟩ = some (.slice oa N cap) := by
        rw [World.cell?_of_block (b1.block w.heap.size (Array.getElem?_eq_some_iff.1 HV.out.2.2).1), World.cell?, HV.out.2.2]
        rfl
      clear b1 HD
      have ⟨c0, c1, c2, c3, c4, c5⟩ := HB.out.2.cells
      go_wp2_with fail
      refine (HE.out w1 HB.out.1).mono ?_
      rintro e w2 ⟨v2, er2, rfl, ⟨hw2, ho2⟩, b2⟩
      have HC : Hid (Below w.heap.size w w2 ∧ w1.heap.size ≤ w2.heap.size) := hideC ⟨bup HB.out.1 b2, b2.size⟩
      clear b2 c0 c1 c2 c3 c4 c5 cD HE
      rw [HR2.out] at hw2
      obtain ⟨g, rfl, hg1, hg2⟩ := hw2
      have HG := hideC (And.intro hg1 hg2)
      clear hg1 hg2 ho2
      go_wp2_with fail
      go_ret2
      refine ⟨_, _, rfl, ⟨⟨g, rfl, ?_, HG.out.2⟩, fun h => (nomatch h), fun _ => rfl⟩, HC.out.1⟩
      have h1 := HG.out.1
      have h2 := HB.out.1.size
      omega
    | none =>
      go_enter Tryz.func7, Tryz.ntmps7
      go_wp2_with fail
      rw [HVV.out]
      clear HVV
      refine (HD.out V HV.out.1).mono ?_
      rintro e w1 ⟨v, rfl, hv, b1⟩
      obtain rfl : v = .nilIface := hv
      have HB : Hid (Below w.heap.size w w1 ∧ SixC w1 (w.heap.size + 1) 37 s0 s1 l0 l1 g0 g1) := hideC ⟨bup HV.out.1 b1, HV.out.2.1.keep b1⟩
      have cD : w1.cell? ⟨w.heap.size, 0, none⟩ = some (.slice oa N cap) := by
        rw [World.cell?_of_block (b1.block w.heap.size (Array.getElem?_eq_some_iff.1 HV.out.2.2).1), World.cell?, HV.out.2.2]
        rfl
      clear b1 HD
      have ⟨c0, c1, c2, c3, c4, c5⟩ := HB.out.2.cells
      go_wp2_with fail
      refine (HE.out w1 HB.out.1).mono ?_
      rintro e w2 ⟨v2, er2, rfl, ⟨hw2, ho2⟩, b2⟩
      have HC : Hid (Below w.heap.size w w2 ∧ w1.heap.size ≤ w2.heap.size) := hideC ⟨bup HB.out.1 b2, b2.size⟩
      clear b2 c0 c1 c2 c3 c4 c5 cD HE
      rw [HR2.out] at hw2 ho2
      obtain rfl : er2 = .nilIface := hw2
      obtain ⟨ov, cv, rfl, hcv, hro⟩ := rto_own (ho2 rfl) (by rw [List.length_map])
      have HR := hideC hro
      clear ho2 hro
      have hNm : (Q.map fun x => (f x).1).length = N := by rw [List.length_map]; exact HN.out
      rw [HN.out] at hcv ⊢
      clear hNm
      have hcm2 : cv ≤ 9223372036854775807 := hcv.2
      go_wp2_with fail
      go_loopw [9, 32] (fun lv iv wq => ∃ j : Nat, iv = .int .i64 (j : Nat) ∧ j ≤ N ∧ wq.ownsRow w2.heap.size 69 3 lv (fastG S L 0 (Q.take j)).length (flatF (fastG S L 0 (Q.take j))) ∧ Below w2.heap.size w2 wq) (fun _ iv _ => N - (intOf iv).toNat)
      case atStart => exact ⟨0, rfl, Nat.zero_le _, World.ownsRow_nil _ _ _ _, Below.refl _ _⟩
      case round =>
        obtain ⟨j, rfl, hj, hown, hb⟩ := hrel
        obtain ⟨wq, rfl⟩ : ∃ wq, wq = wr := ⟨_, rfl⟩
        by_cases hlt : j < N
        · obtain ⟨x, hx⟩ : ∃ x, Q[j]? = some x := ⟨_, List.getElem?_eq_getElem (by rw [HN.out]; exact hlt)⟩
          have hxm : (Q.map fun x => (f x).1)[j]? = some (f x).1 := by rw [List.getElem?_map, hx]; rfl
          obtain ⟨a, rfl, hab, c0, c1⟩ := HR.out.keep hb j _ hxm
          have d2 : (j : Int) < (N : Int) := by omega
          have wi : IntKind.i64.wrap ((j : Int) + 1) = ((j + 1 : Nat) : Int) := by rw [show ((j + 1 : Nat) : Int) = (j : Int) + 1 by omega]; exact IntWalk.i64_in _ ⟨by omega, by omega⟩
          have hm := HM.out j x hx
          have hln := HLn.out j
          generalize (f x).1 = r at *
          obtain ⟨M, hM⟩ : ∃ M, fastG S L 0 (Q.take j) = M := ⟨_, rfl⟩
          rw [hM] at hown hm hln
          have HA := hideC (And.intro hm (And.intro hown hb))
          clear hx hxm hm hown hb hM
          by_cases hp : 0 < r.N
          · have hownW := own_butE (HA.out.2.1) (But.grown (M := fun _ => False) (bel1 wq (.cells #[.int .i64 r.N, .int .i64 r.D] 26))) (fun _ _ h => h)
            have hz9 := HA.out.2.2.size
            go_wp2_with (at_builtin; refine wpList_append_lies _ rfl _ _ 32 rfl w2.heap.size 69 i0 _ 3 24 Tryz.underlying32 hi hz0 hz1 hz2 rfl (by decide) _ M.length (flatF M) rfl (hownW.alloc _) ⟨wq.heap.size + 1, 0, none⟩ 1 1 [.int .i64 (j : Int), .int .i64 r.N, .int .i64 r.D] rfl rfl (World.news_of_block (cs := #[.int .i64 (j : Int), .int .i64 r.N, .int .i64 r.D]) (t := 69) (fr := (0, 0)) (by have h := World.alloc_heap_new (wq.alloc (.cells #[.int .i64 r.N, .int .i64 r.D] 26)) (.cells #[.int .i64 (j : Int), .int .i64 r.N, .int .i64 r.D] 69); rw [World.size_alloc] at h; exact h)) (by simp [Value.oneCell']) (by omega) (by unfold maxLen; omega) (by omega) (by simp; omega) (wq.heap.size + 1 + 1) (by simp) ?_; intro gg cap2 w6 hown6 hgrow6 hat6 hlt6)
            go_roundw
            case rel =>
              refine ⟨j + 1, by first | rfl | simp, by omega, ?_, ?_⟩
              · rw [HA.out.1, if_pos hp, List.length_append, flatF_app]
                exact hown6
              · exact Below.grown ((HA.out.2.2.alloc (by omega) _).alloc (by rw [World.size_alloc]; omega) _) hgrow6 (by rw [World.size_alloc, World.size_alloc]; omega) (fun k hk => (hownW.lt k hk).1)
            case measure => simp [intOf]; omega
          · go_wp2_with fail
            go_roundw
            case rel =>
              refine ⟨j + 1, by first | rfl | simp, by omega, ?_, ?_⟩
              · rw [HA.out.1, if_neg hp, List.append_nil]
                exact own_butE (HA.out.2.1) (But.grown (M := fun _ => False) (bel1 wq _)) (fun _ _ h => h)
              · exact HA.out.2.2.alloc (by have := HA.out.2.2.size; omega) _
            case measure => simp [intOf]; omega
        · obtain rfl : j = N := by omega
          have d2 : ¬ (j : Int) < (j : Int) := by omega
          have hk : Q.take j = Q := List.take_of_length_le (by rw [HN.out]; exact Nat.le_refl _)
          rw [hk] at hown
          have HA := hideC (And.intro hown hb)
          clear hk hown hb
          go_wp2_with fail
          go_ret2
          refine ⟨_, _, rfl, ⟨rfl, fun _ => ?_, fun h => absurd rfl h⟩, bup HC.out.1 HA.out.2⟩
          refine ⟨HA.out.1.1, HA.out.1.2.imp id ?_⟩
          rintro ⟨g, cap3, cur, h1, h2, h3⟩
          exact ⟨g, cap3, cur, h1, Nat.le_trans HC.out.1.size h2, h3⟩
end Go.Proofs.YthhhglfcacoejaaGreatDoor

/- A cue's spans as memory tells them; of two documents with the same times, names and texts CheckDoc tells the same. -/
namespace Go.Proofs.YthhhglfcacoejaaGreatDoor
open Go.RowKit Go.Shelf

theorem spo_inj {W : World} {o : Option Addr} {D E : List Sp} (h1 : SpO W o D) (h2 : SpO W o E) (hl : D.length = E.length) : D = E := by
  refine List.ext_getElem? fun i => ?_
  by_cases hi : i < D.length
  · obtain ⟨p, hp⟩ : ∃ p, D[i]? = some p := ⟨_, List.getElem?_eq_getElem hi⟩
    obtain ⟨q, hq⟩ : ∃ q, E[i]? = some q := ⟨_, List.getElem?_eq_getElem (by omega)⟩
    obtain ⟨a, ha, _, c0, c1, c2, c3⟩ := h1 i p hp
    obtain ⟨a', ha', _, k0, k1, k2, k3⟩ := h2 i q hq
    obtain rfl : a = a' := by rw [ha] at ha'; exact Option.some.inj ha'
    rw [hp, hq]
    rw [c0] at k0
    rw [c1] at k1
    rw [c2] at k2
    rw [c3] at k3
    cases p
    cases q
    simp_all
  · rw [List.getElem?_eq_none (by omega), List.getElem?_eq_none (by omega)]
open Classical in
/-- The spans of a cue, as memory tells them. -/
noncomputable def spW (W : World) (y : Cu) : List Sp := if h : ∃ D : List Sp, D.length = y.n ∧ SpO W y.o D then h.choose else []
theorem spW_eq {W : World} {y : Cu} {D : List Sp} (hl : D.length = y.n) (hR : SpO W y.o D) : spW W y = D := by
  have h : ∃ D : List Sp, D.length = y.n ∧ SpO W y.o D := ⟨D, hl, hR⟩
  unfold spW
  rw [dif_pos h]
  exact spo_inj h.choose_spec.2 hR (h.choose_spec.1.trans hl.symm)
/-- A cue whose parts lie in memory as they should. -/
def CuQ (W : World) (x : Cu) : Prop := ∃ D : List Sp, RtIn ⟨x.a, x.b⟩ ∧ RtIn ⟨x.c, x.d⟩ ∧ x.s.size ≤ 140737488355328 ∧ (D.length = x.n ∧ D.length ≤ 4398046510976) ∧ (x.n ≤ x.k ∧ x.k ≤ maxLen) ∧ (x.o = none → D = [] ∧ x.k = 0) ∧ SpO W x.o D
theorem CuQ.keep {W W2 : World} {x : Cu} (h : CuQ W x) (b : Below W.heap.size W W2) : CuQ W2 x := by
  obtain ⟨D, h1, h2, h3, h4, h5, h6, h7⟩ := h
  exact ⟨D, h1, h2, h3, h4, h5, h6, h7.keep b⟩
theorem CuQ.sp {W : World} {x : Cu} (h : CuQ W x) : (spW W x).length = x.n ∧ (spW W x).length ≤ 4398046510976 ∧ SpO W x.o (spW W x) ∧ (x.o = none → spW W x = [] ∧ x.k = 0) := by
  obtain ⟨D, h1, h2, h3, h4, h5, h6, h7⟩ := h
  rw [spW_eq h4.1 h7]
  exact ⟨h4.1, h4.2, h7, h6⟩
theorem CuQ.p {W : World} {x : Cu} (h : CuQ W x) : CuP W (spW W) x := by
  have hs := h.sp
  obtain ⟨D, h1, h2, h3, h4, h5, h6, h7⟩ := h
  exact ⟨h1, h2, h3, hs.1, h5, hs.2.2.2, hs.2.2.1⟩
theorem spW_keep {W W2 : World} {x : Cu} (h : CuQ W x) (b : Below W.heap.size W W2) : spW W2 x = spW W x := by
  obtain ⟨D, h1, h2, h3, h4, h5, h6, h7⟩ := h
  rw [spW_eq h4.1 h7, spW_eq h4.1 (h7.keep b)]
/-- A cue and its twin in another world: the same but for where its spans lie. -/
def TwR (W W2 : World) (x y : Cu) : Prop := (x.a = y.a ∧ x.b = y.b ∧ x.c = y.c ∧ x.d = y.d) ∧ (x.la = y.la ∧ x.sd = y.sd) ∧ x.nm = y.nm ∧ x.s = y.s ∧ x.n = y.n ∧ spW W x = spW W2 y ∧ CuQ W2 y
theorem TwR.chk {W W2 : World} {x y : Cu} (h : TwR W W2 x y) : chkF (spW W) x = chkF (spW W2) y := by
  obtain ⟨⟨h1, h2, h3, h4⟩, ⟨h5, h6⟩, h7, h8, _, h9, _⟩ := h
  unfold chkF
  rw [h1, h2, h3, h4, h5, h6, h7, h8, h9]
theorem TwR.keep {W W2 W3 : World} {x y : Cu} (h : TwR W W2 x y) (b : Below W2.heap.size W2 W3) : TwR W W3 x y :=
  ⟨h.1, h.2.1, h.2.2.1, h.2.2.2.1, h.2.2.2.2.1, h.2.2.2.2.2.1.trans (spW_keep h.2.2.2.2.2.2 b).symm, h.2.2.2.2.2.2.keep b⟩
theorem badC_tw (f g : Cu → Int) : ∀ (L M : List Cu) (i : Nat), L.length = M.length → (∀ (j : Nat) (x y : Cu), L[j]? = some x → M[j]? = some y → f x = g y) → badC f i L = badC g i M
  | [], [], _, _, _ => rfl
  | [], _ :: _, _, h, _ => by simp at h
  | _ :: _, [], _, h, _ => by simp at h
  | x :: L, y :: M, i, h, hr => by
    unfold badC
    rw [hr 0 x y rfl rfl, badC_tw f g L M (i + 1) (by simpa using h) (fun j a b ha hb => hr (j + 1) a b (by simpa using ha) (by simpa using hb))]
theorem cmpC_tw {x y x2 y2 : Cu} (h : x.a = y.a ∧ x.b = y.b ∧ x.c = y.c ∧ x.d = y.d) (h2 : x2.a = y2.a ∧ x2.b = y2.b ∧ x2.c = y2.c ∧ x2.d = y2.d) : cmpC x x2 = cmpC y y2 := by
  unfold cmpC
  rw [h.1, h.2.1, h.2.2.1, h.2.2.2, h2.1, h2.2.1, h2.2.2.1, h2.2.2.2]
theorem disC_tw : ∀ (L M : List Cu) (i : Nat), L.length = M.length → (∀ (j : Nat) (x y : Cu), L[j]? = some x → M[j]? = some y → x.a = y.a ∧ x.b = y.b ∧ x.c = y.c ∧ x.d = y.d) → disC i L = disC i M
  | [], [], _, _, _ => rfl
  | [], _ :: _, _, h, _ => by simp at h
  | _ :: _, [], _, h, _ => by simp at h
  | [_], [_], _, _, _ => rfl
  | [_], _ :: _ :: _, _, h, _ => by simp at h
  | _ :: _ :: _, [_], _, h, _ => by simp at h
  | x :: x2 :: L, y :: y2 :: M, i, h, hr => by
    unfold disC
    rw [cmpC_tw (hr 0 x y rfl rfl) (hr 1 x2 y2 rfl rfl), disC_tw (x2 :: L) (y2 :: M) (i + 1) (by simpa using h) (fun j a b ha hb => hr (j + 1) a b (by simpa using ha) (by simpa using hb))]
theorem docC_tw {W W2 : World} {L M : List Cu} (hl : L.length = M.length) (h : ∀ (j : Nat) (x y : Cu), L[j]? = some x → M[j]? = some y → TwR W W2 x y) : docC (chkF (spW W)) L = docC (chkF (spW W2)) M := by
  unfold docC
  rw [hl, badC_tw _ _ L M 0 hl (fun j x y hx hy => (h j x y hx hy).chk), disC_tw L M 0 hl (fun j x y hx hy => (h j x y hx hy).1)]
theorem badC_at (f : Cu → Int) : ∀ (L : List Cu) (i : Nat) (p : Nat × Int), badC f i L = some p → i ≤ p.1 ∧ p.1 < i + L.length ∧ ∃ x ∈ L, p.2 = f x ∧ ¬ f x = 0
  | [], _, _, h => by cases h
  | x :: L, i, p, h => by
    unfold badC at h
    split at h
    · obtain ⟨h1, h2, y, hy, h3⟩ := badC_at f L (i + 1) p h
      exact ⟨by omega, by simp; omega, y, List.mem_cons_of_mem _ hy, h3⟩
    · cases h
      rename_i h0
      exact ⟨Nat.le_refl _, by simp, x, List.mem_cons_self, rfl, h0⟩
theorem disC_at : ∀ (L : List Cu) (i : Nat) (p : Nat × Int), disC i L = some p → p.1 < i + L.length ∧ p.2 = 33
  | [], _, _, h => by cases h
  | [_], _, _, h => by cases h
  | x :: y :: L, i, p, h => by
    unfold disC at h
    split at h
    · cases h
      exact ⟨by simp, rfl⟩
    · obtain ⟨h1, h2⟩ := disC_at (y :: L) (i + 1) p h
      exact ⟨by simp at h1 ⊢; omega, h2⟩
end Go.Proofs.YthhhglfcacoejaaGreatDoor

/- The reference's TwinText at every text. -/
namespace Go.Proofs.YthhhglfcacoejaaGreatDoor
open Go.RowKit Go.Shelf

theorem own_blk {k m : Nat} (e : some k = (Value.slice (some ⟨m, 0, none⟩) 0 0).ownBlock) : k = m := by simpa [Value.ownBlock] using e
theorem own_butT {A B : World} {M : Nat → Prop} {base e size n : Nat} {v : Value} {xs : List Value} (h : A.ownsRow base e size v n xs) (hb : But M A B) (hne : ∀ k, v.ownBlock = some k → ¬ M k) : B.ownsRow base e size v n xs := by
  refine ⟨h.1, ?_⟩
  rcases h.2 with hn | ⟨g, cap, cur, rfl, hg, hgg, rest⟩
  · exact .inl hn
  · exact .inr ⟨g, cap, cur, rfl, hg, (hb.same g (Array.getElem?_eq_some_iff.1 hgg).1 (hne g rfl)).trans hgg, rest⟩
set_option maxRecDepth 100000 in
set_option maxHeartbeats 1000000 in
theorem twintext_some (s : ByteArray) (D : List Sp) (a : Addr) (cap : Nat) (hD : 0 < D.length) (hl : D.length ≤ 4398046510976) (w : World) (hR : SpO w (some a) D) :
    Calls Tryz.prog 33 #[.agg #[.string s, .slice (some a) D.length cap]] w fun e w' => ∃ v, e = .returned (.agg #[.string s, v]) ∧ w'.ownsRow (w.heap.size + 1 + 1) 138 4 v D.length (flat4 D) ∧ Below w.heap.size w w' := by
  obtain ⟨i0, hi, hz0, hz1, hz2⟩ := info_parts infoSp
  have HFl := hideS hR.flat
  have HBk : Hid (∀ j u, (flat4 D)[j]? = some u → (a.add j).block < w.heap.size) := hideS fun j u hj => by
    obtain ⟨p, hp, _⟩ := flat4_cell hj
    obtain ⟨a', ha, hb, _⟩ := hR _ p hp
    obtain rfl : a = a' := by simpa using ha
    rw [addrS_block]
    exact hb
  have HO := hideS (flat4_one D)
  have HL := hideS (flat4_len D)
  clear hR
  obtain ⟨n, hn⟩ : ∃ n, D.length = n := ⟨_, rfl⟩
  rw [hn] at hD hl HL ⊢
  clear hn
  go_enter Tryz.func33, Tryz.ntmps33
  go_wp2_with fail
  obtain ⟨V, hV⟩ : ∃ V, (w.alloc (.cells #[.string s, .slice (some a) n cap] 52)).alloc (.cells #[.string ⟨#[]⟩, .slice none 0 0] 52) = V := ⟨_, rfl⟩
  have HV : Hid (Below w.heap.size w V ∧ V.heap.size = w.heap.size + 1 + 1 ∧ V.heap[w.heap.size]? = some (.cells #[.string s, .slice (some a) n cap] 52) ∧ V.heap[w.heap.size + 1]? = some (.cells #[.string ⟨#[]⟩, .slice none 0 0] 52)) := hideS (by
    rw [← hV]
    refine ⟨((Below.refl _ w).alloc (Nat.le_refl _) _).alloc (by simp) _, by rw [World.size_alloc, World.size_alloc], (Below.heap_alloc _ _ _ (by simp)).trans (World.alloc_heap_new w _), ?_⟩
    have h := World.alloc_heap_new (w.alloc (.cells #[.string s, .slice (some a) n cap] 52)) (.cells #[.string ⟨#[]⟩, .slice none 0 0] 52)
    rw [World.size_alloc] at h
    exact h)
  rw [hV]
  clear hV
  have c0 : V.cell? ⟨w.heap.size, 0, none⟩ = some (.string s) := by simp [World.cell?, HV.out.2.2.1]
  have c1 : V.cell? ⟨w.heap.size, 1, none⟩ = some (.slice (some a) n cap) := by simp [World.cell?, HV.out.2.2.1]
  have hz : w.heap.size < V.heap.size := by rw [HV.out.2.1]; omega
  have hq2 : w.heap.size + 1 < V.heap.size := by rw [HV.out.2.1]; omega
  have c0' : (V.alloc (.cells #[] 138)).cell? ⟨w.heap.size, 0, none⟩ = some (.string s) := (World.cell?_of_block (Below.heap_alloc V _ _ hz)).trans c0
  have c1' : (V.alloc (.cells #[] 138)).cell? ⟨w.heap.size, 1, none⟩ = some (.slice (some a) n cap) := (World.cell?_of_block (Below.heap_alloc V _ _ hz)).trans c1
  have HN : Hid (∀ j u, (flat4 D)[j]? = some u → (V.alloc (.cells #[] 138)).cell? (a.add j) = some u) := hideS fun j u hj => ((bup HV.out.1 (bel1 V _)).cell (HBk.out j u hj)).trans (HFl.out j u hj)
  go_region_law
    ((refine step_append_lies _ (by rfl) _ _ _ (by rfl) V.heap.size 138 i0 _ 4 32 Tryz.underlying50 hi hz0 hz1 hz2 rfl (by omega) (.slice (some ⟨V.heap.size, 0, none⟩) 0 0) 0 [] (by rfl) ((own_empty V _ 4).drew) a n cap (flat4 D) (by rfl) HL.out HN.out HO.out hD (by unfold maxLen; omega) (by omega) (by show _ ≤ (V.alloc _).heap.size; rw [World.size_alloc]; omega) (V.heap.size + 1) (by simp) ?_; intro gg cap' w5 hown5 hgrow hat hlt;
      have hw5 : ∀ k, k < V.heap.size → w5.heap[k]? = V.heap[k]? := fun k hk => (hgrow.block k (by show k < (V.alloc _).heap.size; rw [World.size_alloc]; omega) (fun e => absurd (own_blk e) (Nat.ne_of_lt hk))).trans (Below.heap_alloc V _ k hk);
      have k0 : w5.cell? ⟨w.heap.size, 0, none⟩ = some (.string s) := (World.cell?_of_block (hw5 _ hz)).trans c0;
      have k1 : w5.cell? ⟨w.heap.size, 1, none⟩ = some (.slice (some a) n cap) := (World.cell?_of_block (hw5 _ hz)).trans c1;
      have r0 : w5.cell? ⟨w.heap.size + 1, 0, none⟩ = some (.string ⟨#[]⟩) := by (rw [World.cell?, hw5 (w.heap.size + 1) hq2, HV.out.2.2.2]; rfl);
      have r1 : w5.cell? ⟨w.heap.size + 1, 1, none⟩ = some (.slice none 0 0) := by (rw [World.cell?, hw5 (w.heap.size + 1) hq2, HV.out.2.2.2]; rfl);
      have f0 : w5.frozen? ⟨w.heap.size + 1, 0, none⟩ = false := by (simp [World.frozen?, hw5 (w.heap.size + 1) hq2, HV.out.2.2.2]);
      have f1 : w5.frozen? ⟨w.heap.size + 1, 1, none⟩ = false := by (simp [World.frozen?, hw5 (w.heap.size + 1) hq2, HV.out.2.2.2])))
  all_goals
    have hgne : gg ≠ w.heap.size + 1 := by
      rcases hat with e | e
      · rw [own_blk e.symm]; omega
      · omega
    have HB : Hid (Below w.heap.size w w5) := hideS (Below.grown (bup HV.out.1 ((bel1 V _).drew)) hgrow (by show _ ≤ (V.alloc _).heap.size; rw [World.size_alloc]; omega) (fun k hk => by rw [own_blk hk.symm]; omega))
    have HW := hideS hown5
    go_wp2_with fail
    refine bodyPost_ret (v := .agg #[.string s, .slice (some ⟨gg, 0, none⟩) n cap']) (by simp [results, Tryz.results33, go_sem, r0, r1]) rfl ⟨_, rfl, ?_, (HB.out.setCell (by simp) _).setCell (by simp) _⟩
    have h9 := HW.out
    rw [List.nil_append, Nat.zero_add, HV.out.2.1] at h9
    exact own_butT h9 (((But.refl (fun k => k = w.heap.size + 1) w5).setCell (p := ⟨w.heap.size + 1, 0, none⟩) rfl _).setCell (p := ⟨w.heap.size + 1, 1, none⟩) rfl _) (fun k hk e => hgne (by rw [← e]; simpa [Value.ownBlock] using hk))

theorem own_sl {W : World} {base e size n : Nat} {v : Value} {xs : List Value} (h : W.ownsRow base e size v n xs) : ∃ o c, v = .slice o n c := by
  rcases h.2 with ⟨rfl, rfl⟩ | ⟨g, cap, cur, rfl, _⟩
  · exact ⟨none, 0, rfl⟩
  · exact ⟨_, _, rfl⟩
/-- append of no element to an empty row that is owned, as one step of a region that draws. -/
theorem step_append_nothing {P : Program} {w : World} {ops : Array Oper} {o : Oper} {a : Act} {K : Act → World → Prop} {Q : Exit → Act → World → Prop} {E : Prop} (hgd : o.guard = none) (s x : Operand) (t : TypeId)
    (ho : o.op = .call { callee := .builtin .append, args := #[s, x], argTypes := #[t, t] })
    (base : Nat) (e : TypeId) (i : TypeInfo) (z : Value) (size bytes : Nat) (ht : P.underlying t = some (.slice e)) (hi : P.info? e = some i) (hz : i.zero = some z) (hsize : i.size = size) (hby : i.bytes = bytes) (hzs : z.cells.size = size) (hsz : 0 < size)
    (v : Value) (hs : a.eval s = v) (hown : w.ownsRow base e size v 0 []) (oa : Option Addr) (c : Nat) (hx : a.eval x = .slice oa 0 c) (hn : oa = none → c = 0) (hbase : base ≤ w.heap.size)
    (h : ∀ o' c' w', w'.ownsRow base e size (.slice o' 0 c') 0 [] → w.grownBy w' v.ownBlock → K (a.put o.dst (.slice o' 0 c')) w') :
    if Region.wanted o (yielded ops a.tmps) = true then Oper.wp P o a w K Q else E := by
  have hw : Region.wanted o (yielded ops a.tmps) = true := by simp [Region.wanted, hgd]
  rw [if_pos hw]
  cases oa with
  | none =>
    obtain rfl := hn rfl
    have hrun := run_append_owned_none (P := P) (w := w) base t o.type e i size ht hi v 0 [] hown
    obtain ⟨o', c', rfl⟩ := own_sl hown
    unfold Oper.wp
    simp [execOp, ho, resolve, invoke, builtin, hs, hx, hrun, Result.andThen]
    exact h _ _ _ hown (World.grownBy.refl _ _)
  | some ad =>
    obtain ⟨v', w', hr, o1, o2, _⟩ := run_append_own (P := P) w base t o.type e i z size bytes ht hi hz hsize hby hzs hsz v 0 [] hown ad 0 c [] (by simp) (fun j u hu => by simp at hu) (fun u hu => by simp at hu) (by unfold maxLen; omega) (by omega) hbase
    obtain ⟨o', c', rfl⟩ := own_sl o1
    unfold Oper.wp
    simp [execOp, ho, resolve, invoke, builtin, hs, hx, hr, Result.andThen]
    exact h _ _ _ o1 o2

set_option maxRecDepth 100000 in
set_option maxHeartbeats 1000000 in
theorem twintext_none (s : ByteArray) (oa : Option Addr) (cap : Nat) (hn : oa = none → cap = 0) (w : World) :
    Calls Tryz.prog 33 #[.agg #[.string s, .slice oa 0 cap]] w fun e w' => ∃ v, e = .returned (.agg #[.string s, v]) ∧ w'.ownsRow (w.heap.size + 1 + 1) 138 4 v 0 [] ∧ Below w.heap.size w w' := by
  obtain ⟨i0, hi, hz0, hz1, hz2⟩ := info_parts infoSp
  go_enter Tryz.func33, Tryz.ntmps33
  go_wp2_with fail
  obtain ⟨V, hV⟩ : ∃ V, (w.alloc (.cells #[.string s, .slice oa 0 cap] 52)).alloc (.cells #[.string ⟨#[]⟩, .slice none 0 0] 52) = V := ⟨_, rfl⟩
  have HV : Hid (Below w.heap.size w V ∧ V.heap.size = w.heap.size + 1 + 1 ∧ V.heap[w.heap.size]? = some (.cells #[.string s, .slice oa 0 cap] 52) ∧ V.heap[w.heap.size + 1]? = some (.cells #[.string ⟨#[]⟩, .slice none 0 0] 52)) := hideS (by
    rw [← hV]
    refine ⟨((Below.refl _ w).alloc (Nat.le_refl _) _).alloc (by simp) _, by rw [World.size_alloc, World.size_alloc], (Below.heap_alloc _ _ _ (by simp)).trans (World.alloc_heap_new w _), ?_⟩
    have h := World.alloc_heap_new (w.alloc (.cells #[.string s, .slice oa 0 cap] 52)) (.cells #[.string ⟨#[]⟩, .slice none 0 0] 52)
    rw [World.size_alloc] at h
    exact h)
  rw [hV]
  clear hV
  have c0 : V.cell? ⟨w.heap.size, 0, none⟩ = some (.string s) := by simp [World.cell?, HV.out.2.2.1]
  have c1 : V.cell? ⟨w.heap.size, 1, none⟩ = some (.slice oa 0 cap) := by simp [World.cell?, HV.out.2.2.1]
  have hz : w.heap.size < V.heap.size := by rw [HV.out.2.1]; omega
  have hq2 : w.heap.size + 1 < V.heap.size := by rw [HV.out.2.1]; omega
  have c0' : (V.alloc (.cells #[] 138)).cell? ⟨w.heap.size, 0, none⟩ = some (.string s) := (World.cell?_of_block (Below.heap_alloc V _ _ hz)).trans c0
  have c1' : (V.alloc (.cells #[] 138)).cell? ⟨w.heap.size, 1, none⟩ = some (.slice oa 0 cap) := (World.cell?_of_block (Below.heap_alloc V _ _ hz)).trans c1
  go_region_law
    ((refine step_append_nothing (by rfl) _ _ _ (by rfl) V.heap.size 138 i0 _ 4 32 Tryz.underlying50 hi hz0 hz1 hz2 rfl (by omega) (.slice (some ⟨V.heap.size, 0, none⟩) 0 0) (by rfl) ((own_empty V _ 4).drew) oa cap (by rfl) hn (by show _ ≤ (V.alloc _).heap.size; rw [World.size_alloc]; omega) ?_; intro oo cap' w5 hown5 hgrow;
      have hw5 : ∀ k, k < V.heap.size → w5.heap[k]? = V.heap[k]? := fun k hk => (hgrow.block k (by show k < (V.alloc _).heap.size; rw [World.size_alloc]; omega) (fun e => absurd (own_blk e) (Nat.ne_of_lt hk))).trans (Below.heap_alloc V _ k hk);
      have k0 : w5.cell? ⟨w.heap.size, 0, none⟩ = some (.string s) := (World.cell?_of_block (hw5 _ hz)).trans c0;
      have k1 : w5.cell? ⟨w.heap.size, 1, none⟩ = some (.slice oa 0 cap) := (World.cell?_of_block (hw5 _ hz)).trans c1;
      have r0 : w5.cell? ⟨w.heap.size + 1, 0, none⟩ = some (.string ⟨#[]⟩) := by (rw [World.cell?, hw5 (w.heap.size + 1) hq2, HV.out.2.2.2]; rfl);
      have r1 : w5.cell? ⟨w.heap.size + 1, 1, none⟩ = some (.slice none 0 0) := by (rw [World.cell?, hw5 (w.heap.size + 1) hq2, HV.out.2.2.2]; rfl);
      have f0 : w5.frozen? ⟨w.heap.size + 1, 0, none⟩ = false := by (simp [World.frozen?, hw5 (w.heap.size + 1) hq2, HV.out.2.2.2]);
      have f1 : w5.frozen? ⟨w.heap.size + 1, 1, none⟩ = false := by (simp [World.frozen?, hw5 (w.heap.size + 1) hq2, HV.out.2.2.2])))
  all_goals
    have HB : Hid (Below w.heap.size w w5) := hideS (Below.grown (bup HV.out.1 ((bel1 V _).drew)) hgrow (by show _ ≤ (V.alloc _).heap.size; rw [World.size_alloc]; omega) (fun k hk => by rw [own_blk hk.symm]; omega))
    have HW := hideS hown5
    go_wp2_with fail
    refine bodyPost_ret (v := .agg #[.string s, .slice oo 0 cap']) (by simp [results, Tryz.results33, go_sem, r0, r1]) rfl ⟨_, rfl, ?_, (HB.out.setCell (by simp) _).setCell (by simp) _⟩
    have h9 := HW.out
    rw [HV.out.2.1] at h9
    exact own_butT h9 (((But.refl (fun k => k = w.heap.size + 1) w5).setCell (p := ⟨w.heap.size + 1, 0, none⟩) rfl _).setCell (p := ⟨w.heap.size + 1, 1, none⟩) rfl _) (fun k hk e => by have := (h9.lt k hk).1; omega)

theorem twintext_any (s : ByteArray) (D : List Sp) (oa : Option Addr) (cap : Nat) (hl : D.length ≤ 4398046510976) (hn : oa = none → D = [] ∧ cap = 0) (w : World) (hR : SpO w oa D) :
    Calls Tryz.prog 33 #[.agg #[.string s, .slice oa D.length cap]] w fun e w' => ∃ v, e = .returned (.agg #[.string s, v]) ∧ w'.ownsRow (w.heap.size + 1 + 1) 138 4 v D.length (flat4 D) ∧ Below w.heap.size w w' := by
  by_cases h : D = []
  · subst h
    exact twintext_none s oa cap (fun e => (hn e).2) w
  · cases oa with
    | none => exact absurd (hn rfl).1 h
    | some a => exact twintext_some s D a cap (List.length_pos_iff.2 h) hl w hR

end Go.Proofs.YthhhglfcacoejaaGreatDoor

/- The reference's TwinCue at every cue. -/
namespace Go.Proofs.YthhhglfcacoejaaGreatDoor
open Go.RowKit Go.Shelf

theorem own_readT {W : World} {base n : Nat} {v : Value} {Q : List Sp} (h : W.ownsRow base 138 4 v n (flat4 Q)) (hn : Q.length = n) : ∃ o cap, v = .slice o n cap ∧ (n ≤ cap ∧ cap ≤ maxLen) ∧ SpO W o Q ∧ (o = none → Q = [] ∧ cap = 0) ∧ (∀ a, o = some a → base ≤ a.block ∧ a.block < W.heap.size) := by
  have h0 := h
  obtain ⟨o, cap, e, hc, hz, hs, hel⟩ := own_sc h hn
  refine ⟨o, cap, e, hc, ?_, fun ho => ⟨hel ho, hz ho⟩, fun a ha => ?_⟩
  · cases o with
    | none => rw [hel rfl]; exact SpO.nil _ _
    | some ad =>
      obtain ⟨g, rfl, _, hsc⟩ := hs ad rfl
      exact hsc.spo
  · obtain ⟨g, rfl, hg, _⟩ := hs a ha
    subst ha e
    exact ⟨hg, (h0.lt g rfl).2⟩
theorem SpO.butT {V V2 : World} {oa : Option Addr} {Q : List Sp} {M : Nat → Prop} (h : SpO V oa Q) (b : But M V V2) (hM : ∀ a, oa = some a → ¬ M a.block) : SpO V2 oa Q := h.but b hM

set_option maxRecDepth 100000 in
set_option maxHeartbeats 1000000 in
theorem twincue_any (x : Cu) (w : World) (hq : CuQ w x) :
    Calls Tryz.prog 17 #[.agg x.cells] w fun e w' => ∃ y : Cu, e = .returned (.agg y.cells) ∧ TwR w w' x y ∧ (∀ a, y.o = some a → w.heap.size ≤ a.block ∧ a.block < w'.heap.size) ∧ Below w.heap.size w w' := by
  have hs := hq.sp
  obtain ⟨D0, h1, h2, h3, -, h5, -, -⟩ := hq
  obtain ⟨D, hD⟩ : ∃ D, spW w x = D := ⟨_, rfl⟩
  rw [hD] at hs
  obtain ⟨hn, hl, hR, ho⟩ := hs
  have HQ := hideC (And.intro hD (And.intro (And.intro h1 h2) (And.intro h3 (And.intro hn hl))))
  have HT := hideC (fun (W : World) (b : Below w.heap.size w W) => twintext_any x.s D x.o x.k hl ho W (hR.keep b))
  rw [hn] at HT
  clear hD h1 h2 h3 hn hl hR ho h5
  unfold Cu.cells
  go_enter Tryz.func17, Tryz.ntmps17
  go_wp2_with fail
  obtain ⟨V, hV⟩ : ∃ V, (w.alloc (.cells #[.int .i64 x.a, .int .i64 x.b, .int .i64 x.c, .int .i64 x.d, .int .i64 x.la, .int .i64 x.sd, .string x.nm, .string x.s, .slice x.o x.n x.k] 59)).alloc (.cells #[.int .i64 0, .int .i64 0, .int .i64 0, .int .i64 0, .int .i64 0, .int .i64 0, .string ⟨#[]⟩, .string ⟨#[]⟩, .slice none 0 0] 59) = V := ⟨_, rfl⟩
  have HV : Hid (Below w.heap.size w V ∧ V.heap.size = w.heap.size + 1 + 1 ∧ V.heap[w.heap.size]? = some (.cells #[.int .i64 x.a, .int .i64 x.b, .int .i64 x.c, .int .i64 x.d, .int .i64 x.la, .int .i64 x.sd, .string x.nm, .string x.s, .slice x.o x.n x.k] 59) ∧ V.heap[w.heap.size + 1]? = some (.cells #[.int .i64 0, .int .i64 0, .int .i64 0, .int .i64 0, .int .i64 0, .int .i64 0, .string ⟨#[]⟩, .string ⟨#[]⟩, .slice none 0 0] 59)) := hideC (by
    rw [← hV]
    refine ⟨((Below.refl _ w).alloc (Nat.le_refl _) _).alloc (by simp) _, by rw [World.size_alloc, World.size_alloc], (Below.heap_alloc _ _ _ (by simp)).trans (World.alloc_heap_new w _), ?_⟩
    have h := World.alloc_heap_new (w.alloc (.cells #[.int .i64 x.a, .int .i64 x.b, .int .i64 x.c, .int .i64 x.d, .int .i64 x.la, .int .i64 x.sd, .string x.nm, .string x.s, .slice x.o x.n x.k] 59)) (.cells #[.int .i64 0, .int .i64 0, .int .i64 0, .int .i64 0, .int .i64 0, .int .i64 0, .string ⟨#[]⟩, .string ⟨#[]⟩, .slice none 0 0] 59)
    rw [World.size_alloc] at h
    exact h)
  rw [hV]
  clear hV
  refine (HT.out V HV.out.1).mono ?_
  rintro e w1 ⟨v, rfl, hown, b1⟩
  obtain ⟨oy, ky, rfl, hk, hS, hN, hB⟩ := own_readT hown HQ.out.2.2.2.1
  have kz := HV.out.2.1
  have K1 : w1.heap[w.heap.size]? = some (.cells #[.int .i64 x.a, .int .i64 x.b, .int .i64 x.c, .int .i64 x.d, .int .i64 x.la, .int .i64 x.sd, .string x.nm, .string x.s, .slice x.o x.n x.k] 59) := (b1.block _ (by omega)).trans HV.out.2.2.1
  have K2 : w1.heap[w.heap.size + 1]? = some (.cells #[.int .i64 0, .int .i64 0, .int .i64 0, .int .i64 0, .int .i64 0, .int .i64 0, .string ⟨#[]⟩, .string ⟨#[]⟩, .slice none 0 0] 59) := (b1.block _ (by omega)).trans HV.out.2.2.2
  have HY := hideC (And.intro hk (And.intro hS (And.intro hN (And.intro hB (And.intro (bup HV.out.1 b1) (And.intro kz b1.size))))))
  clear hown hk hS hN hB b1 kz
  have f7 : w1.frozen? ⟨w.heap.size, 7, none⟩ = false := by simp [World.frozen?, K1]
  have f8 : w1.frozen? ⟨w.heap.size, 8, none⟩ = false := by simp [World.frozen?, K1]
  have c7 : w1.cell? ⟨w.heap.size, 7, none⟩ = some (.string x.s) := by simp [World.cell?, K1]
  have c8 : w1.cell? ⟨w.heap.size, 8, none⟩ = some (.slice x.o x.n x.k) := by simp [World.cell?, K1]
  go_upto_region 2 with fail
  obtain ⟨W, hW⟩ : ∃ W, (w1.setCell ⟨w.heap.size, 7, none⟩ (.string x.s)).setCell ⟨w.heap.size, 8, none⟩ (.slice oy x.n ky) = W := ⟨_, rfl⟩
  have HW : Hid (Below w.heap.size w W ∧ But (fun k => k = w.heap.size) w1 W ∧ W.heap[w.heap.size]? = some (.cells #[.int .i64 x.a, .int .i64 x.b, .int .i64 x.c, .int .i64 x.d, .int .i64 x.la, .int .i64 x.sd, .string x.nm, .string x.s, .slice oy x.n ky] 59) ∧ W.heap[w.heap.size + 1]? = some (.cells #[.int .i64 0, .int .i64 0, .int .i64 0, .int .i64 0, .int .i64 0, .int .i64 0, .string ⟨#[]⟩, .string ⟨#[]⟩, .slice none 0 0] 59)) := hideC (by
    have hb : But (fun k => k = w.heap.size) w1 W := by rw [← hW]; exact ((But.refl (fun k => k = w.heap.size) w1).setCell (p := ⟨w.heap.size, 7, none⟩) rfl _).setCell (p := ⟨w.heap.size, 8, none⟩) rfl _
    refine ⟨?_, hb, ?_, (hb.same _ (by have := HY.out.2.2.2.2.2; omega) (by show ¬ w.heap.size + 1 = w.heap.size; omega)).trans K2⟩
    · rw [← hW]
      exact (HY.out.2.2.2.2.1.setCell (by simp) _).setCell (by simp) _
    · rw [← hW]
      simp [World.setCell, Array.getElem?_modify, K1])
  rw [hW]
  clear hW K1 K2 f7 f8 c7 c8
  have ⟨⟨c0, c1, c2, c3⟩, ⟨c4, c5⟩, ⟨c6, c7, c8⟩⟩ := CueC.cells (w := W) (B := w.heap.size) HW.out.2.2.1
  have ⟨⟨z0, z1, z2, z3⟩, ⟨z4, z5⟩, ⟨z6, z7, z8⟩⟩ := CueC.cells (w := W) (B := w.heap.size + 1) HW.out.2.2.2
  have fz : ∀ n, n < 9 → W.frozen? ⟨w.heap.size + 1, n, none⟩ = false := fun n hn => by simp [World.frozen?, HW.out.2.2.2]
  have f0 := fz 0 (by omega)
  have f1 := fz 1 (by omega)
  have f2 := fz 2 (by omega)
  have f3 := fz 3 (by omega)
  have f4 := fz 4 (by omega)
  have f5 := fz 5 (by omega)
  have f6 := fz 6 (by omega)
  have f7 := fz 7 (by omega)
  have f8 := fz 8 (by omega)
  clear fz
  go_wp2_with fail
  refine bodyPost_ret (v := .agg #[.int .i64 x.a, .int .i64 x.b, .int .i64 x.c, .int .i64 x.d, .int .i64 x.la, .int .i64 x.sd, .string x.nm, .string x.s, .slice oy x.n ky]) (by simp [results, Tryz.results17, go_sem, z0, z1, z2, z3, z4, z5, z6, z7, z8]) rfl ?_
  have HB2 : But (fun k => k = w.heap.size + 1) W (((((((((W.setCell ⟨w.heap.size + 1, 0, none⟩ (.int .i64 x.a)).setCell ⟨w.heap.size + 1, 1, none⟩ (.int .i64 x.b)).setCell ⟨w.heap.size + 1, 2, none⟩ (.int .i64 x.c)).setCell ⟨w.heap.size + 1, 3, none⟩ (.int .i64 x.d)).setCell ⟨w.heap.size + 1, 4, none⟩ (.int .i64 x.la)).setCell ⟨w.heap.size + 1, 5, none⟩ (.int .i64 x.sd)).setCell ⟨w.heap.size + 1, 6, none⟩ (.string x.nm)).setCell ⟨w.heap.size + 1, 7, none⟩ (.string x.s)).setCell ⟨w.heap.size + 1, 8, none⟩ (.slice oy x.n ky)) :=
    (((((((((But.refl (fun k => k = w.heap.size + 1) W).setCell (p := ⟨w.heap.size + 1, 0, none⟩) rfl _).setCell (p := ⟨w.heap.size + 1, 1, none⟩) rfl _).setCell (p := ⟨w.heap.size + 1, 2, none⟩) rfl _).setCell (p := ⟨w.heap.size + 1, 3, none⟩) rfl _).setCell (p := ⟨w.heap.size + 1, 4, none⟩) rfl _).setCell (p := ⟨w.heap.size + 1, 5, none⟩) rfl _).setCell (p := ⟨w.heap.size + 1, 6, none⟩) rfl _).setCell (p := ⟨w.heap.size + 1, 7, none⟩) rfl _).setCell (p := ⟨w.heap.size + 1, 8, none⟩) rfl _
  generalize (((((((((W.setCell ⟨w.heap.size + 1, 0, none⟩ (.int .i64 x.a)).setCell ⟨w.heap.size + 1, 1, none⟩ (.int .i64 x.b)).setCell ⟨w.heap.size + 1, 2, none⟩ (.int .i64 x.c)).setCell ⟨w.heap.size + 1, 3, none⟩ (.int .i64 x.d)).setCell ⟨w.heap.size + 1, 4, none⟩ (.int .i64 x.la)).setCell ⟨w.heap.size + 1, 5, none⟩ (.int .i64 x.sd)).setCell ⟨w.heap.size + 1, 6, none⟩ (.string x.nm)).setCell ⟨w.heap.size + 1, 7, none⟩ (.string x.s)).setCell ⟨w.heap.size + 1, 8, none⟩ (.slice oy x.n ky)) = U at *
  have hT : But (fun k => k = w.heap.size ∨ k = w.heap.size + 1) w1 U := (HW.out.2.1.mono (fun _ _ h => .inl h)).trans (HB2.mono (fun _ _ h => .inr h))
  have hS2 : SpO U oy D := HY.out.2.1.butT hT (fun a ha => by have := (HY.out.2.2.2.1 a ha).1; have := HY.out.2.2.2.2.2.1; omega)
  have hbw : Below w.heap.size w U := HW.out.1.trans (HB2.below (by have := HW.out.1.size; omega) (fun k hk => by omega))
  refine ⟨⟨x.a, x.b, x.c, x.d, x.la, x.sd, x.nm, x.s, oy, x.n, ky⟩, rfl, ⟨⟨rfl, rfl, rfl, rfl⟩, ⟨rfl, rfl⟩, rfl, rfl, rfl, ?_, ?_⟩, fun a ha => ?_, hbw⟩
  · rw [HQ.out.1]
    exact (spW_eq (W := U) (y := ⟨x.a, x.b, x.c, x.d, x.la, x.sd, x.nm, x.s, oy, x.n, ky⟩) HQ.out.2.2.2.1 hS2).symm
  · exact ⟨D, HQ.out.2.1.1, HQ.out.2.1.2, HQ.out.2.2.1, HQ.out.2.2.2, HY.out.1, HY.out.2.2.1, hS2⟩
  · have h1 := HY.out.2.2.2.1 a ha
    have h2 := hT.size
    have h3 := HY.out.2.2.2.2.2.1
    exact ⟨by omega, by omega⟩
end Go.Proofs.YthhhglfcacoejaaGreatDoor

/- The reference's Twin at every document. -/
namespace Go.Proofs.YthhhglfcacoejaaGreatDoor
open Go.RowKit Go.Shelf

/-- Cues as cells, one behind the other. -/
def flatC (M : List Cu) : List Value := M.flatMap fun y => y.cells.toList
theorem flatC_app (M : List Cu) (y : Cu) : flatC (M ++ [y]) = flatC M ++ y.cells.toList := by
  unfold flatC
  rw [List.flatMap_append]
  simp
theorem flatC_len : ∀ M : List Cu, (flatC M).length = M.length * 9
  | [] => rfl
  | x :: M => by
    show (x.cells.toList ++ flatC M).length = _
    rw [List.length_append, flatC_len M]
    show 9 + _ = _
    simp
    omega
theorem flatC_at : ∀ (M : List Cu) (i j : Nat) (y : Cu), M[i]? = some y → j < 9 → (flatC M)[i * 9 + j]? = y.cells.toList[j]?
  | [], i, j, y, h, _ => by simp at h
  | x :: M, 0, j, y, h, hj => by
    simp at h
    subst h
    show (x.cells.toList ++ flatC M)[0 * 9 + j]? = _
    rw [Nat.zero_mul, Nat.zero_add, List.getElem?_append_left (by show j < 9; exact hj)]
  | x :: M, i + 1, j, y, h, hj => by
    show (x.cells.toList ++ flatC M)[(i + 1) * 9 + j]? = _
    rw [List.getElem?_append_right (by show 9 ≤ _; omega), show (i + 1) * 9 + j - x.cells.toList.length = i * 9 + j by show (i + 1) * 9 + j - 9 = _; omega]
    exact flatC_at M i j y (by simpa using h) hj
theorem addZC (B n : Nat) : (⟨B, 0, none⟩ : Addr).add n = ⟨B, n, none⟩ := by unfold Addr.add; split <;> simp_all
theorem cuo_ownC {W : World} {m e n : Nat} {v : Value} {M : List Cu} (h : W.ownsRow m e 9 v n (flatC M)) (hn : M.length = n) : ∃ oa ca, v = .slice oa n ca ∧ (n ≤ ca ∧ ca ≤ maxLen) ∧ (oa = none → M = [] ∧ ca = 0) ∧ CuO W oa M ∧ (∀ a, oa = some a → v.ownBlock = some a.block ∧ m ≤ a.block ∧ a.block < W.heap.size ∧ a = ⟨a.block, 0, none⟩) := by
  have h' := h
  obtain ⟨h1, ⟨rfl, h0⟩ | ⟨g, cap, cur, rfl, hg, hh, hcn, hcap, hsz, htake⟩⟩ := h
  · refine ⟨none, 0, by rw [h0], ⟨by omega, Nat.zero_le _⟩, fun _ => ⟨List.eq_nil_of_length_eq_zero (by omega), rfl⟩, fun i p hp => ?_, fun a ha => by cases ha⟩
    have := (List.getElem?_eq_some_iff.1 hp).1
    omega
  · refine ⟨_, _, rfl, ⟨hcn, hcap⟩, (fun e => nomatch e), fun i p hp => ?_, fun a ha => ?_⟩
    · have c : ∀ j u, j < 9 → p.cells.toList[j]? = some u → W.cell? ⟨g, i * 9 + j, none⟩ = some u := fun j u hj hu => by
        have := World.ownsRow.cells h' (g := g) rfl (i * 9 + j) u (by rw [flatC_at M i j p hp hj]; exact hu)
        rwa [addZC] at this
      refine ⟨⟨g, 0, none⟩, rfl, (Array.getElem?_eq_some_iff.1 hh).1, ?_⟩
      rw [addZC]
      exact ⟨⟨c 0 _ (by omega) rfl, c 1 _ (by omega) rfl, c 2 _ (by omega) rfl, c 3 _ (by omega) rfl⟩, ⟨c 4 _ (by omega) rfl, c 5 _ (by omega) rfl⟩, ⟨c 6 _ (by omega) rfl, c 7 _ (by omega) rfl, c 8 _ (by omega) rfl⟩⟩
    · cases ha
      exact ⟨rfl, hg, (Array.getElem?_eq_some_iff.1 hh).1, rfl⟩
theorem TwR.but {W W2 W3 : World} {x y : Cu} {M : Nat → Prop} (h : TwR W W2 x y) (b : But M W2 W3) (hM : ∀ a, y.o = some a → ¬ M a.block) : TwR W W3 x y := by
  obtain ⟨D, h1, h2, h3, h4, h5, h6, h7⟩ := h.2.2.2.2.2.2
  have h8 := h7.butT b hM
  refine ⟨h.1, h.2.1, h.2.2.1, h.2.2.2.1, h.2.2.2.2.1, ?_, ⟨D, h1, h2, h3, h4, h5, h6, h8⟩⟩
  rw [h.2.2.2.2.2.1, spW_eq h4.1 h7, spW_eq h4.1 h8]
theorem TwR.from {W W1 W2 : World} {x y : Cu} (h : TwR W1 W2 x y) (hx : CuQ W x) (b : Below W.heap.size W W1) : TwR W W2 x y :=
  ⟨h.1, h.2.1, h.2.2.1, h.2.2.2.1, h.2.2.2.2.1, (spW_keep hx b).symm.trans h.2.2.2.2.2.1, h.2.2.2.2.2.2⟩
theorem but_grown {A B : World} {r : Option Nat} (h : A.grownBy B r) : But (fun k => r = some k) A B := ⟨h.os, h.tape, h.output, h.size, fun k hk hn => h.block k hk (fun e => hn e.symm)⟩
theorem infoCueC : (Tryz.prog.info? 59).map (fun i => (i.zero, i.size, i.bytes)) = some (some (.agg #[.int .i64 0, .int .i64 0, .int .i64 0, .int .i64 0, .int .i64 0, .int .i64 0, .string ⟨#[]⟩, .string ⟨#[]⟩, .slice none 0 0]), 9, 104) := by kernel_rfl
theorem info_partsC {P : Program} {t : TypeId} {z : Option Value} {a b : Nat} (h : (P.info? t).map (fun i => (i.zero, i.size, i.bytes)) = some (z, a, b)) : ∃ i, P.info? t = some i ∧ i.zero = z ∧ i.size = a ∧ i.bytes = b := by
  obtain ⟨i, hi, e⟩ := Option.map_eq_some_iff.1 h
  simp only [Prod.mk.injEq] at e
  exact ⟨i, hi, e.1, e.2.1, e.2.2⟩
/-- A twin's cues so far: each is the twin of its cue, its spans lie in blocks made since, apart from the row. -/
def TwI (w wq : World) (b : Nat) (L M : List Cu) (lv : Value) : Prop := (∀ (i : Nat) (x y : Cu), L[i]? = some x → M[i]? = some y → TwR w wq x y) ∧ ∀ y ∈ M, ∀ a, y.o = some a → b ≤ a.block ∧ a.block < wq.heap.size ∧ ¬ lv.ownBlock = some a.block

set_option maxRecDepth 100000 in
set_option maxHeartbeats 2000000 in
theorem twin_any (L : List Cu) (oa : Option Addr) (cap : Nat) (hc : L.length ≤ cap ∧ cap ≤ maxLen) (hN6 : L.length ≤ 1000000) (w : World) (hR : CuO w oa L) (hQ : ∀ x ∈ L, CuQ w x) :
    Calls Tryz.prog 6 #[.agg #[.slice oa L.length cap]] w fun e w' => ∃ (M : List Cu) (v : Value), e = .returned (.agg #[v]) ∧ M.length = L.length ∧ w'.ownsRow (w.heap.size + 1 + 1) 59 9 v L.length (flatC M) ∧ TwI w w' (w.heap.size + 1 + 1) L M v ∧ Below w.heap.size w w' := by
  obtain ⟨i0, hi, hz0, hz1, hz2⟩ := info_partsC infoCueC
  obtain ⟨N, hN⟩ : ∃ N, L.length = N := ⟨_, rfl⟩
  have HN := hideC hN
  rw [hN] at hc hN6 ⊢
  have hcm : cap ≤ 9223372036854775807 := hc.2
  have HR := hideC hR
  have HQ := hideC hQ
  clear hR hN hQ
  go_enter Tryz.func6, Tryz.ntmps6
  go_wp2_with fail
  obtain ⟨V, hV⟩ : ∃ V, (w.alloc (.cells #[.slice oa N cap] 24)).alloc (.cells #[.slice none 0 0] 24) = V := ⟨_, rfl⟩
  have HV : Hid (Below w.heap.size w V ∧ V.heap.size = w.heap.size + 1 + 1 ∧ V.heap[w.heap.size]? = some (.cells #[.slice oa N cap] 24) ∧ V.heap[w.heap.size + 1]? = some (.cells #[.slice none 0 0] 24)) := hideC (by
    rw [← hV]
    refine ⟨((Below.refl _ w).alloc (Nat.le_refl _) _).alloc (by simp) _, by rw [World.size_alloc, World.size_alloc], (Below.heap_alloc _ _ _ (by simp)).trans (World.alloc_heap_new w _), ?_⟩
    have h := World.alloc_heap_new (w.alloc (.cells #[.slice oa N cap] 24)) (.cells #[.slice none 0 0] 24)
    rw [World.size_alloc] at h
    exact h)
  rw [hV]
  clear hV
  go_loopw [3, 4] (fun lv iv wq => ∃ (j : Nat) (M : List Cu), iv = .int .i64 (j : Nat) ∧ j ≤ N ∧ M.length = j ∧ wq.ownsRow V.heap.size 59 9 lv j (flatC M) ∧ TwI w wq V.heap.size L M lv ∧ Below V.heap.size V wq) (fun _ iv _ => N - (intOf iv).toNat)
  case atStart => exact ⟨0, [], rfl, Nat.zero_le _, rfl, World.ownsRow_nil _ _ _ _, ⟨fun i x y _ hy => by simp at hy, fun y hy => by simp at hy⟩, Below.refl _ _⟩
  case round =>
    obtain ⟨j, M, rfl, hj, hM, hown, hI, hb⟩ := hrel
    obtain ⟨wq, rfl⟩ : ∃ wq, wq = wr := ⟨_, rfl⟩
    have bw := bup HV.out.1 hb
    have hz := hb.size
    have cD : wq.cell? ⟨w.heap.size, 0, none⟩ = some (.slice oa N cap) := by
      rw [World.cell?_of_block (hb.block w.heap.size (by rw [HV.out.2.1]; omega)), World.cell?, HV.out.2.2.1]
      rfl
    by_cases hlt : j < N
    · obtain ⟨x, hx⟩ : ∃ x, L[j]? = some x := ⟨_, List.getElem?_eq_getElem (by rw [HN.out]; exact hlt)⟩
      obtain ⟨a, rfl, hab, ⟨c0, c1, c2, c3⟩, ⟨c4, c5⟩, ⟨c6, c7, c8⟩⟩ := HR.out.keep bw j x hx
      have d2 : (j : Int) < (N : Int) := by omega
      have wi : IntKind.i64.wrap ((j : Int) + 1) = ((j + 1 : Nat) : Int) := by rw [show ((j + 1 : Nat) : Int) = (j : Int) + 1 by omega]; exact IntWalk.i64_in _ ⟨by omega, by omega⟩
      have hq := HQ.out x (List.mem_of_getElem? hx)
      have HC := hideC (twincue_any x wq (hq.keep bw))
      unfold Cu.cells at HC
      have HA := hideC (And.intro hx (And.intro hq (And.intro bw (And.intro hI (And.intro hb (And.intro hown hM))))))
      clear hx hq bw hI hb hown hM
      go_wp2_with fail
      refine HC.out.mono ?_
      rintro e w1 ⟨y, rfl, hT, hB, b1⟩
      have hown1 := own_butT HA.out.2.2.2.2.2.1 (But.grown (M := fun _ => False) b1) (fun _ _ h => h)
      have hz1' := b1.size
      go_wp2_with (at_builtin; refine wpList_append_lies _ rfl _ _ 22 rfl V.heap.size 59 i0 _ 9 104 Tryz.underlying22 hi hz0 hz1 hz2 rfl (by decide) _ j (flatC M) rfl (hown1.alloc _) ⟨w1.heap.size, 0, none⟩ 1 1 [.int .i64 y.a, .int .i64 y.b, .int .i64 y.c, .int .i64 y.d, .int .i64 y.la, .int .i64 y.sd, .string y.nm, .string y.s, .slice y.o y.n y.k] rfl rfl (World.news_of_block (cs := #[.int .i64 y.a, .int .i64 y.b, .int .i64 y.c, .int .i64 y.d, .int .i64 y.la, .int .i64 y.sd, .string y.nm, .string y.s, .slice y.o y.n y.k]) (t := 59) (fr := (0, 0)) (World.alloc_heap_new w1 _)) (by simp [Value.oneCell']) (by omega) (by unfold maxLen; omega) (by omega) (by simp; omega) (w1.heap.size + 1) (by simp) ?_; intro gg cap2 w6 hown6 hgrow6 hat6 hlt6)
      go_roundw
      case rel =>
        have hal : But (fun _ => False) w1 (w1.alloc (.cells #[.int .i64 y.a, .int .i64 y.b, .int .i64 y.c, .int .i64 y.d, .int .i64 y.la, .int .i64 y.sd, .string y.nm, .string y.s, .slice y.o y.n y.k] 59)) := But.grown (bel1 _ _)
        have hg := but_grown hgrow6
        have hsz6 := hg.size
        rw [World.size_alloc] at hsz6
        refine ⟨j + 1, M ++ [y], by first | rfl | simp, by omega, by rw [List.length_append, HA.out.2.2.2.2.2.2]; rfl, ?_, ⟨fun i x2 y2 hx2 hy2 => ?_, fun y2 hy2 a2 ha2 => ?_⟩, ?_⟩
        · rw [flatC_app]
          exact hown6
        · by_cases hij : i < M.length
          · rw [List.getElem?_append_left hij] at hy2
            have h1 := HA.out.2.2.2.1.1 i x2 y2 hx2 hy2
            have h2 := HA.out.2.2.2.1.2 y2 (List.mem_of_getElem? hy2)
            refine (((h1.keep b1).but hal (fun _ _ h => h)).but hg (fun a2 ha2 => (h2 a2 ha2).2.2))
          · have hi2 : i = M.length := by
              have := (List.getElem?_eq_some_iff.1 hy2).1
              rw [List.length_append] at this
              simp at this
              omega
            subst hi2
            rw [List.getElem?_append_right (Nat.le_refl _)] at hy2
            simp at hy2
            subst hy2
            obtain rfl : x = x2 := by
              rw [HA.out.2.2.2.2.2.2, HA.out.1] at hx2
              exact Option.some.inj hx2
            refine (((hT.from HA.out.2.1 HA.out.2.2.1).but hal (fun _ _ h => h)).but hg (fun a2 ha2 h => ?_))
            have h3 := (HA.out.2.2.2.2.2.1.lt _ h).2
            have h4 := (hB a2 ha2).1
            omega
        · rcases List.mem_append.1 hy2 with h | h
          · have h2 := HA.out.2.2.2.1.2 y2 h a2 ha2
            refine ⟨h2.1, by omega, fun e => ?_⟩
            have e2 : gg = a2.block := by simpa [Value.ownBlock] using e
            rcases hat6 with h5 | h5
            · exact h2.2.2 (h5.trans (congrArg some e2))
            · omega
          · obtain rfl := List.mem_singleton.1 h
            have h4 := hB a2 ha2
            refine ⟨by omega, by omega, fun e => ?_⟩
            have e2 : gg = a2.block := by simpa [Value.ownBlock] using e
            rcases hat6 with h5 | h5
            · have h3 := (HA.out.2.2.2.2.2.1.lt _ h5).2
              omega
            · omega
        · exact Below.grown ((HA.out.2.2.2.2.1.trans (b1.mono (by omega))).alloc (by omega) _) hgrow6 (by rw [World.size_alloc]; omega) (fun k hk => (hown1.lt k hk).1)
      case measure => simp [intOf]; omega
    · obtain rfl : j = N := by omega
      have d2 : ¬ (j : Int) < (j : Int) := by omega
      have K1 : wq.heap[w.heap.size + 1]? = some (.cells #[.slice none 0 0] 24) := (hb.block _ (by rw [HV.out.2.1]; omega)).trans HV.out.2.2.2
      obtain ⟨ov, cv, rfl, hcv, hnv, hcu, hbv⟩ := cuo_ownC hown hM
      have HA := hideC (And.intro hM (And.intro hown (And.intro hI bw)))
      clear hM hown hI bw hb hcv hnv hcu
      have z0 : wq.cell? ⟨w.heap.size + 1, 0, none⟩ = some (.slice none 0 0) := by simp [World.cell?, K1]
      have f0 : wq.frozen? ⟨w.heap.size + 1, 0, none⟩ = false := by simp [World.frozen?, K1]
      go_wp2_with fail
      refine bodyPost_ret (v := .agg #[.slice ov j cv]) (by simp [results, Tryz.results6, go_sem, z0]) rfl ?_
      have hB2 : But (fun k => k = w.heap.size + 1) wq (wq.setCell ⟨w.heap.size + 1, 0, none⟩ (.slice ov j cv)) := (But.refl (fun k => k = w.heap.size + 1) wq).setCell (p := ⟨w.heap.size + 1, 0, none⟩) rfl _
      have kz := HV.out.2.1
      refine ⟨M, _, rfl, HA.out.1, ?_, ⟨fun i x2 y2 hx2 hy2 => ?_, fun y2 hy2 a2 ha2 => ?_⟩, ?_⟩
      · have h := own_butT HA.out.2.1 hB2 (fun k hk e => by have := (HA.out.2.1.lt k hk).1; omega)
        rw [kz] at h
        exact h
      · exact (HA.out.2.2.1.1 i x2 y2 hx2 hy2).but hB2 (fun a2 ha2 e => by have := (HA.out.2.2.1.2 y2 (List.mem_of_getElem? hy2) a2 ha2).1; omega)
      · have h2 := HA.out.2.2.1.2 y2 hy2 a2 ha2
        have h3 := hB2.size
        exact ⟨by omega, by omega, h2.2.2⟩
      · exact HA.out.2.2.2.setCell (by simp) _
end Go.Proofs.YthhhglfcacoejaaGreatDoor

/- law9's Few at every document: it answers, and where it says yes there are no more than 300 cues. -/
namespace Go.Proofs.YthhhglfcacoejaaGreatDoor
open Go.RowKit Go.Shelf

theorem below_dnF {B : Nat} {a w : World} (h : Below B a w) (n : Nat) : Below B a (w.drewN n) := h.trans ⟨rfl, rfl, rfl, Nat.le_refl _, fun _ _ => rfl⟩
/-- What Few answers. -/
def FewA (n : Nat) (e : Ending) : Prop := ∃ b, e = .returned (.bool b) ∧ (b = true → n ≤ 300)
set_option maxRecDepth 100000 in
set_option maxHeartbeats 2000000 in
theorem few_any (L : List Cu) (oa : Option Addr) (cap : Nat) (hc : L.length ≤ cap ∧ cap ≤ maxLen) (w : World) (hR : CuO w oa L) :
    Calls Tryz.prog 5 #[.agg #[.slice oa L.length cap]] w fun e w' => FewA L.length e ∧ Below w.heap.size w w' := by
  obtain ⟨N, hN⟩ : ∃ N, L.length = N := ⟨_, rfl⟩
  have HN := hideC hN
  rw [hN] at hc ⊢
  have hcm : cap ≤ 9223372036854775807 := hc.2
  have HR := hideC hR
  clear hR hN
  go_enter Tryz.func5, Tryz.ntmps5
  go_wp2_with fail
  obtain ⟨V, hV⟩ : ∃ V, w.alloc (.cells #[.slice oa N cap] 24) = V := ⟨_, rfl⟩
  have HV : Hid (Below w.heap.size w V ∧ V.heap.size = w.heap.size + 1 ∧ V.cell? ⟨w.heap.size, 0, none⟩ = some (.slice oa N cap)) := hideC (by rw [← hV]; exact ⟨bel1 _ _, World.size_alloc _ _, by simp⟩)
  rw [hV]
  clear hV
  go_loopw [3, 4] (fun nv iv wq => ∃ (z : Int) (i : Nat), nv = .int .i64 z ∧ iv = .int .i64 (i : Nat) ∧ i ≤ N ∧ Below V.heap.size V wq) (fun _ iv _ => N - (intOf iv).toNat)
  case atStart => exact ⟨0, 0, rfl, rfl, Nat.zero_le _, Below.refl _ _⟩
  case round =>
    obtain ⟨z, i, rfl, rfl, hi, hb⟩ := hrel
    obtain ⟨wq, rfl⟩ : ∃ wq, wq = wr := ⟨_, rfl⟩
    have bw := bup HV.out.1 hb
    have cD : wq.cell? ⟨w.heap.size, 0, none⟩ = some (.slice oa N cap) := (hb.cell (p := ⟨w.heap.size, 0, none⟩) (by rw [HV.out.2.1]; exact Nat.lt_succ_self _)).trans HV.out.2.2
    by_cases hlt : i < N
    · by_cases h3 : i ≤ 300
      · obtain ⟨x, hx⟩ : ∃ x, L[i]? = some x := ⟨_, List.getElem?_eq_getElem (by rw [HN.out]; exact hlt)⟩
        obtain ⟨a, rfl, hab, _, _, ⟨c6, c7, c8⟩⟩ := HR.out.keep bw i x hx
        have d2 : (i : Int) < (N : Int) := by omega
        have d3 : (i : Int) ≤ 300 := by omega
        have wi : IntKind.i64.wrap ((i : Int) + 1) = ((i + 1 : Nat) : Int) := by rw [show ((i + 1 : Nat) : Int) = (i : Int) + 1 by omega]; exact IntWalk.i64_in _ ⟨by omega, by omega⟩
        go_wp2_with fail
        go_quiet (fail)
        go_wp2_with fail
        exact ⟨⟨_, i + 1, rfl, by first | rfl | simp, by omega, below_dnF hb nq⟩, by simp [intOf]; omega⟩
      · have d2 : (i : Int) < (N : Int) := by omega
        have d3 : ¬ (i : Int) ≤ 300 := by omega
        have d4 : ¬ (N : Int) ≤ 300 := by omega
        go_wp2_with fail
        go_ret
        exact ⟨⟨false, by first | rfl | simp, fun h => by cases h⟩, bw⟩
    · have d2 : ¬ (i : Int) < (N : Int) := by omega
      by_cases d4 : (N : Int) ≤ 300
      · go_wp2_with fail
        go_ret
        exact ⟨⟨_, rfl, fun _ => by omega⟩, bw⟩
      · go_wp2_with fail
        go_ret
        exact ⟨⟨false, by first | rfl | simp, fun h => by cases h⟩, bw⟩

end Go.Proofs.YthhhglfcacoejaaGreatDoor

/- A text with spans that is handed in, opened (chapter 7). -/
namespace Go.Proofs.YthhhglfcacoejaaGreatDoor
open Go.ChangeShapes Go.WideShapes Go.ChangeAt Go.RowKit Go.Joins

instance : Inhabited Sp := ⟨⟨0, 0, 0, 0⟩⟩
theorem cellsTx : Tryz.prog.cellsOf 52 = 2 := by kernel_rfl
theorem cellsSp : Tryz.prog.cellsOf 138 = 4 := by kernel_rfl
theorem bytesSp : Tryz.prog.bytesOf 138 = 32 := by kernel_rfl
theorem addrS_zero (a : Addr) : a.add 0 = a := by unfold Addr.add; rw [if_pos rfl]
theorem addrS_succ (a : Addr) (j : Nat) : a.add (j + 1) = ⟨a.block, a.off + (j + 1), none⟩ := by unfold Addr.add; rw [if_neg (by omega)]
set_option maxRecDepth 100000 in
theorem open_sp {H : Type} {enc : TypeId × Value → H} {W : World} {base : Nat} {spare : Nat → Bool} {held : Bool} {fuel : Nat} {v : Value} {x : DataW H × List MemPlace}
    (h : DataW.trod enc Tryz.prog W base spare held fuel 50 [v] = some x) :
    ∃ (D : List Sp) (o : Option Addr) (cap : Nat), v = .slice o D.length cap ∧ (D.length ≤ cap ∧ cap ≤ maxLen) ∧ (o = none → D = [] ∧ cap = 0) ∧ SpO W o D ∧
      ((x.1 = .nil ∧ D = []) ∨ ∃ el sp, x.1 = .slice el sp ∧ el.length = D.length) := by
  rcases Deep.open_slice Tryz.underlying50 h with ⟨hcs, hx⟩ | ⟨a, len, cap, m, n, E, Pl, hcs, hb, hl, hm, hmm, hx, hel⟩
  · simp at hcs
    subst hcs
    exact ⟨[], none, 0, rfl, ⟨by simp, by decide⟩, fun _ => ⟨rfl, rfl⟩, SpO.nil W none, .inl ⟨by rw [hx], rfl⟩⟩
  · simp at hcs
    subst hcs
    have hlm : len ≤ m := by rw [hmm]; split <;> omega
    have key : ∀ i, i < len → ∃ q : Sp, a.block < W.heap.size ∧
        W.cell? (a.add (i * 4)) = some (.int .i64 q.fr) ∧ W.cell? ⟨(a.add (i * 4)).block, (a.add (i * 4)).off + 1, none⟩ = some (.int .i64 q.tt) ∧ W.cell? ⟨(a.add (i * 4)).block, (a.add (i * 4)).off + 2, none⟩ = some (.int .i64 q.kd) ∧ W.cell? ⟨(a.add (i * 4)).block, (a.add (i * 4)).off + 3, none⟩ = some (.int .i64 q.vl) := by
      intro i hi
      obtain ⟨cs', h1, h2⟩ := hel i (by omega)
      rw [cellsSp] at h1
      have hbl := World.cells?_block h1 (by decide)
      rw [addrS_block] at hbl
      obtain ⟨_, hlen, hcell⟩ := World.cells?_some h1
      match cs', hlen with
      | [v0, v1, v2, v3], _ =>
        obtain ⟨y0, y1, y2, y3, k, _, _, t0, t1, t2, t3⟩ := trod_struct4 Tryz.underlying138 h2
        obtain ⟨k0, a0, _, w0⟩ := DataW.trod_int Tryz.underlying3 t0
        obtain ⟨k1, a1, _, w1⟩ := DataW.trod_int Tryz.underlying3 t1
        obtain ⟨k2, a2, _, w2⟩ := DataW.trod_int Tryz.underlying3 t2
        obtain ⟨k3, a3, _, w3⟩ := DataW.trod_int Tryz.underlying3 t3
        have c3 : Tryz.prog.cellsOf 3 = 1 := by kernel_rfl
        simp [c3] at a0 a1 a2 a3
        subst a0 a1 a2 a3
        have e0 := hcell 0 (by omega)
        have e1 := hcell 1 (by omega)
        have e2 := hcell 2 (by omega)
        have e3 := hcell 3 (by omega)
        rw [addrS_zero] at e0
        rw [addrS_succ] at e1 e2 e3
        exact ⟨⟨k0, k1, k2, k3⟩, hbl, e0, e1, e2, e3⟩
    obtain ⟨q, hq⟩ := Deep.choose_lt key
    refine ⟨(List.range len).map q, some a, cap, by simp, ⟨by simpa using hl, hm⟩, (fun e => nomatch e), fun i r hr => ?_, .inr ⟨_, _, by rw [hx], by simp⟩⟩
    have hi : i < len := by
      have := (List.getElem?_eq_some_iff.1 hr).1
      simpa using this
    have er : r = q i := by
      rw [List.getElem?_map, List.getElem?_range hi] at hr
      simpa using hr.symm
    rw [er]
    exact ⟨a, rfl, hq i hi⟩
set_option maxRecDepth 100000 in
theorem open_text {H : Type} {enc : TypeId × Value → H} {W : World} {r : Reach} {b0 base : Nat} {spare : Nat → Bool} {held : Bool} {v : Value} {d : DataW H} {p : List MemPlace}
    (hv : Value.okWide Tryz.prog W r b0 52 v) (h : DataW.Trod enc Tryz.prog W base spare held 52 v d p)
    (hsz : (DataW.weights Tryz.prog 52 d).all (· ≤ reachBytes) = true) :
    ∃ (s : ByteArray) (D : List Sp) (o : Option Addr) (cap : Nat), v = .agg #[.string s, .slice o D.length cap] ∧ (D.length ≤ cap ∧ cap ≤ maxLen) ∧ (o = none → D = [] ∧ cap = 0) ∧ SpO W o D ∧ s.size ≤ 140737488355328 ∧ D.length ≤ 4398046510976 := by
  obtain ⟨c0, c1, y0, y1, m, rfl, rfl, rfl, hy0, hy1⟩ := open_agg2 Tryz.underlying52 (by kernel_rfl) cellsTx hv h
  obtain ⟨s, e0, rfl, _⟩ := DataW.trod_string Tryz.underlying9 hy0
  simp at e0
  subst e0
  obtain ⟨D, o, cap, rfl, hc, hn, hR, hd⟩ := open_sp hy1
  have hu : Tryz.prog.underlying 52 = _ := Tryz.underlying52
  unfold DataW.weights at hsz
  rw [hu] at hsz
  simp only [List.map_cons, List.map_nil, DataW.weightsEach, List.all_append, Bool.and_eq_true, List.append_nil, reachBytes] at hsz
  obtain ⟨hs0, hs1⟩ := hsz
  refine ⟨s, D, o, cap, rfl, hc, hn, hR, ?_, ?_⟩
  · simp only [DataW.weights, List.all_cons, Bool.and_eq_true] at hs0
    have h1 := of_decide_eq_true (by first | exact hs0 | exact hs0.1 : decide _ = true)
    rw [Lib.size_eq]
    omega
  · rcases hd with ⟨_, rfl⟩ | ⟨el, sp, e, hl⟩
    · simp
    · rw [e] at hs1
      unfold DataW.weights at hs1
      have hv2 : Tryz.prog.underlying 50 = _ := Tryz.underlying50
      rw [hv2] at hs1
      simp only [List.all_cons, Bool.and_eq_true, bytesSp] at hs1
      have h1 := of_decide_eq_true hs1.1
      omega
end Go.Proofs.YthhhglfcacoejaaGreatDoor

/- A document that is handed in, opened: its cues, their texts' spans. -/
namespace Go.Proofs.YthhhglfcacoejaaGreatDoor
open Go.ChangeShapes Go.WideShapes Go.ChangeAt Go.RowKit Go.Joins

theorem dc_i64 {n : Int} (h : (Lit.int .i64 n).wf = true) : I64 n := (Lit.wf_int_iff .i64 n).1 h
theorem dc_cellsRt : Tryz.prog.cellsOf 26 = 2 := by kernel_rfl
theorem dc_cellsCue : Tryz.prog.cellsOf 59 = 9 := by kernel_rfl
theorem dc_cellsDoc : Tryz.prog.cellsOf 24 = 1 := by kernel_rfl
theorem dc_cells64 : Tryz.prog.cellsOf 2 = 1 := by kernel_rfl
theorem dc_cellsI : Tryz.prog.cellsOf 3 = 1 := by kernel_rfl
theorem dc_cellsS : Tryz.prog.cellsOf 9 = 1 := by kernel_rfl
theorem dc_cellsSl : Tryz.prog.cellsOf 50 = 1 := by kernel_rfl
theorem dc_cellsCs : Tryz.prog.cellsOf 22 = 1 := by kernel_rfl
theorem dc_array9 {α : Type} {cs : Array α} (h : cs.size = 9) : ∃ c0 c1 c2 c3 c4 c5 c6 c7 c8, cs = #[c0, c1, c2, c3, c4, c5, c6, c7, c8] := by
  obtain ⟨l⟩ := cs
  match l, h with
  | [c0, c1, c2, c3, c4, c5, c6, c7, c8], _ => exact ⟨c0, c1, c2, c3, c4, c5, c6, c7, c8, rfl⟩
theorem dc_rt {H : Type} {enc : TypeId × Value → H} {W : World} {base : Nat} {spare : Nat → Bool} {held : Bool} {m : Nat} {a b : Value} {x : DataW H × List MemPlace}
    (h : DataW.trod enc Tryz.prog W base spare held m 26 [a, b] = some x) : ∃ r : Rt, a = .int .i64 r.N ∧ b = .int .i64 r.D ∧ RtIn r := by
  obtain ⟨y0, y1, k, _, _, t0, t1⟩ := trod_struct2 Tryz.underlying26 h
  obtain ⟨k0, a0, _, w0⟩ := DataW.trod_int Tryz.underlying2 t0
  obtain ⟨k1, a1, _, w1⟩ := DataW.trod_int Tryz.underlying2 t1
  simp [dc_cells64] at a0 a1
  exact ⟨⟨k0, k1⟩, a0, a1, ⟨dc_i64 w0, dc_i64 w1⟩⟩
theorem dc_six {H : Type} {enc : TypeId × Value → H} {P : Program} {w : World} {base : Nat} {spare : Nat → Bool} {held : Bool} {t : TypeId} {f0 f1 f2 f3 f4 f5 : Field} {fuel : Nat} {cs : List Value} {x : DataW H × List MemPlace} (ht : P.underlying t = some (.struct #[f0, f1, f2, f3, f4, f5])) (h : DataW.trod enc P w base spare held fuel t cs = some x) :
    ∃ y0 y1 y2 y3 y4 y5 n, x.1 = .agg [y0.1, y1.1, y2.1, y3.1, y4.1, y5.1] ∧ DataW.trod enc P w base spare held n f0.type ((cs.drop f0.offset).take (P.cellsOf f0.type)) = some y0 ∧ DataW.trod enc P w base spare held n f1.type ((cs.drop f1.offset).take (P.cellsOf f1.type)) = some y1 ∧
      DataW.trod enc P w base spare held n f2.type ((cs.drop f2.offset).take (P.cellsOf f2.type)) = some y2 ∧ DataW.trod enc P w base spare held n f3.type ((cs.drop f3.offset).take (P.cellsOf f3.type)) = some y3 ∧
      DataW.trod enc P w base spare held n f4.type ((cs.drop f4.offset).take (P.cellsOf f4.type)) = some y4 ∧ DataW.trod enc P w base spare held n f5.type ((cs.drop f5.offset).take (P.cellsOf f5.type)) = some y5 := by
  obtain ⟨xs, n, _, rfl, hl, hlen, hf⟩ := DataW.trod_struct ht h
  match xs, hlen with
  | [y0, y1, y2, y3, y4, y5], _ => exact ⟨y0, y1, y2, y3, y4, y5, n, by simp, by simpa using hf 0 f0 rfl, by simpa using hf 1 f1 rfl, by simpa using hf 2 f2 rfl, by simpa using hf 3 f3 rfl, by simpa using hf 4 f4 rfl, by simpa using hf 5 f5 rfl⟩
theorem dc_all {H : Type} {P : Program} {e : TypeId} : ∀ {l : List (DataW H)}, (DataW.weightsAll P e l).all (· ≤ reachBytes) = true → ∀ d ∈ l, (d.weights P e).all (· ≤ reachBytes) = true
  | [], _, _, hd => by simp at hd
  | x :: r, h, d, hd => by
    unfold DataW.weightsAll at h
    rw [List.all_append, Bool.and_eq_true] at h
    rcases List.mem_cons.1 hd with rfl | hd
    · exact h.1
    · exact dc_all h.2 d hd
set_option maxRecDepth 100000 in
theorem dc_text {H : Type} {enc : TypeId × Value → H} {W : World} {base : Nat} {spare : Nat → Bool} {held : Bool} {fuel : Nat} {a b : Value} {x : DataW H × List MemPlace}
    (h : DataW.trod enc Tryz.prog W base spare held fuel 52 [a, b] = some x) (hsz : (DataW.weights Tryz.prog 52 x.1).all (· ≤ reachBytes) = true) :
    ∃ (s : ByteArray) (D : List Sp) (o : Option Addr) (cap : Nat), a = .string s ∧ b = .slice o D.length cap ∧ (D.length ≤ cap ∧ cap ≤ maxLen) ∧ (o = none → D = [] ∧ cap = 0) ∧ SpO W o D ∧ s.size ≤ 140737488355328 ∧ D.length ≤ 4398046510976 := by
  obtain ⟨z0, z1, k, hx, _, t0, t1⟩ := trod_struct2 Tryz.underlying52 h
  simp [dc_cellsS, dc_cellsSl] at t0 t1
  obtain ⟨s, a5, e5, _⟩ := DataW.trod_string Tryz.underlying9 t0
  obtain ⟨D, o, cap, a6, hc, hn, hR, hd⟩ := open_sp t1
  simp at a5
  subst a5 a6 e5
  rw [hx] at hsz
  have hu : Tryz.prog.underlying 52 = _ := Tryz.underlying52
  unfold DataW.weights at hsz
  rw [hu] at hsz
  simp only [List.map_cons, List.map_nil, DataW.weightsEach, List.all_append, Bool.and_eq_true, List.append_nil, reachBytes] at hsz
  obtain ⟨hs0, hs1⟩ := hsz
  refine ⟨s, D, o, cap, rfl, rfl, hc, hn, hR, ?_, ?_⟩
  · simp only [DataW.weights, List.all_cons, Bool.and_eq_true] at hs0
    have h1 := of_decide_eq_true (by first | exact hs0 | exact hs0.1 : decide _ = true)
    rw [Lib.size_eq]
    omega
  · rcases hd with ⟨_, rfl⟩ | ⟨el, sp, e, hl⟩
    · simp
    · rw [e] at hs1
      unfold DataW.weights at hs1
      have hv2 : Tryz.prog.underlying 50 = _ := Tryz.underlying50
      rw [hv2] at hs1
      simp only [List.all_cons, Bool.and_eq_true, bytesSp] at hs1
      have h1 := of_decide_eq_true hs1.1
      omega
set_option maxRecDepth 100000 in
theorem dc_cue {H : Type} {enc : TypeId × Value → H} {W : World} {base : Nat} {spare : Nat → Bool} {held : Bool} {fuel : Nat} {c0 c1 c2 c3 c4 c5 c6 c7 c8 : Value} {x : DataW H × List MemPlace}
    (h : DataW.trod enc Tryz.prog W base spare held fuel 59 [c0, c1, c2, c3, c4, c5, c6, c7, c8] = some x) (hsz : (DataW.weights Tryz.prog 59 x.1).all (· ≤ reachBytes) = true) :
    ∃ q : Cu, [c0, c1, c2, c3, c4, c5, c6, c7, c8] = q.cells.toList ∧ CuQ W q := by
  obtain ⟨y0, y1, y2, y3, y4, y5, n, hx, h0, h1, h2, h3, h4, h5⟩ := dc_six Tryz.underlying59 h
  simp [dc_cellsRt, dc_cellsI, dc_cellsS, cellsTx] at h0 h1 h2 h3 h4 h5
  obtain ⟨S, rfl, rfl, hS⟩ := dc_rt h0
  obtain ⟨E, rfl, rfl, hE⟩ := dc_rt h1
  obtain ⟨k2, a2, _, w2⟩ := DataW.trod_int Tryz.underlying3 h2
  obtain ⟨k3, a3, _, w3⟩ := DataW.trod_int Tryz.underlying3 h3
  obtain ⟨nm, a4, _, _⟩ := DataW.trod_string Tryz.underlying9 h4
  rw [hx] at hsz
  have hu : Tryz.prog.underlying 59 = _ := Tryz.underlying59
  unfold DataW.weights at hsz
  rw [hu] at hsz
  simp only [List.map_cons, List.map_nil, DataW.weightsEach, List.all_append, Bool.and_eq_true, List.append_nil] at hsz
  obtain ⟨s, D, o, cap, rfl, rfl, hc, hn, hR, hs, hl⟩ := dc_text h5 (by first | exact hsz.2.2.2.2.2 | exact hsz.2.2.2.2.2.1)
  simp at a2 a3 a4
  subst a2 a3 a4
  exact ⟨⟨S.N, S.D, E.N, E.D, k2, k3, nm, s, o, D.length, cap⟩, rfl, D, hS, hE, hs, ⟨rfl, hl⟩, hc, hn, hR⟩
instance : Inhabited Cu := ⟨⟨0, 0, 0, 0, 0, 0, ⟨#[]⟩, ⟨#[]⟩, none, 0, 0⟩⟩
set_option maxRecDepth 100000 in
theorem dc_cues {H : Type} {enc : TypeId × Value → H} {W : World} {base : Nat} {spare : Nat → Bool} {held : Bool} {fuel : Nat} {v : Value} {x : DataW H × List MemPlace}
    (h : DataW.trod enc Tryz.prog W base spare held fuel 22 [v] = some x) (hsz : (DataW.weights Tryz.prog 22 x.1).all (· ≤ reachBytes) = true) :
    ∃ (L : List Cu) (o : Option Addr) (cap : Nat), v = .slice o L.length cap ∧ (L.length ≤ cap ∧ cap ≤ maxLen) ∧ (o = none → L = [] ∧ cap = 0) ∧ CuO W o L ∧ ∀ q ∈ L, CuQ W q := by
  rcases Deep.open_slice Tryz.underlying22 h with ⟨hcs, hx⟩ | ⟨a, len, cap, m, n, E, Pl, hcs, hb, hl, hm, hmm, hx, hel⟩
  · simp at hcs
    subst hcs
    exact ⟨[], none, 0, rfl, ⟨by simp, by decide⟩, fun _ => ⟨rfl, rfl⟩, fun i p hp => by simp at hp, fun q hq => by simp at hq⟩
  · simp at hcs
    subst hcs
    have hlm : len ≤ m := by rw [hmm]; split <;> omega
    rw [hx] at hsz
    unfold DataW.weights at hsz
    have hu : Tryz.prog.underlying 22 = _ := Tryz.underlying22
    rw [hu] at hsz
    simp only [List.all_cons, List.all_append, Bool.and_eq_true] at hsz
    have hall := dc_all hsz.2.1
    have key : ∀ i, i < len → ∃ x : Cu, CuQ W x ∧ a.block < W.heap.size ∧
        (W.cell? (a.add (i * 9)) = some (.int .i64 x.a) ∧ W.cell? ⟨(a.add (i * 9)).block, (a.add (i * 9)).off + 1, none⟩ = some (.int .i64 x.b) ∧ W.cell? ⟨(a.add (i * 9)).block, (a.add (i * 9)).off + 2, none⟩ = some (.int .i64 x.c) ∧ W.cell? ⟨(a.add (i * 9)).block, (a.add (i * 9)).off + 3, none⟩ = some (.int .i64 x.d)) ∧
        (W.cell? ⟨(a.add (i * 9)).block, (a.add (i * 9)).off + 4, none⟩ = some (.int .i64 x.la) ∧ W.cell? ⟨(a.add (i * 9)).block, (a.add (i * 9)).off + 5, none⟩ = some (.int .i64 x.sd)) ∧
        (W.cell? ⟨(a.add (i * 9)).block, (a.add (i * 9)).off + 6, none⟩ = some (.string x.nm) ∧ W.cell? ⟨(a.add (i * 9)).block, (a.add (i * 9)).off + 7, none⟩ = some (.string x.s) ∧ W.cell? ⟨(a.add (i * 9)).block, (a.add (i * 9)).off + 8, none⟩ = some (.slice x.o x.n x.k)) := by
      intro i hi
      obtain ⟨cs', h1, h2⟩ := hel i (by omega)
      rw [dc_cellsCue] at h1
      have hbl := World.cells?_block h1 (by decide)
      rw [addrS_block] at hbl
      obtain ⟨_, hlen, hcell⟩ := World.cells?_some h1
      match cs', hlen with
      | [v0, v1, v2, v3, v4, v5, v6, v7, v8], _ =>
        obtain ⟨q, hq, hQ⟩ := dc_cue h2 (hall (E i) (List.mem_map.2 ⟨i, List.mem_range.2 hi, rfl⟩))
        have e0 := hcell 0 (by omega)
        have e1 := hcell 1 (by omega)
        have e2 := hcell 2 (by omega)
        have e3 := hcell 3 (by omega)
        have e4 := hcell 4 (by omega)
        have e5 := hcell 5 (by omega)
        have e6 := hcell 6 (by omega)
        have e7 := hcell 7 (by omega)
        have e8 := hcell 8 (by omega)
        rw [addrS_zero] at e0
        rw [addrS_succ] at e1 e2 e3 e4 e5 e6 e7 e8
        unfold Cu.cells at hq
        simp only [List.cons.injEq, and_true] at hq
        obtain ⟨rfl, rfl, rfl, rfl, rfl, rfl, rfl, rfl, rfl⟩ := hq
        exact ⟨q, hQ, hbl, ⟨e0, e1, e2, e3⟩, ⟨e4, e5⟩, ⟨e6, e7, e8⟩⟩
    obtain ⟨q, hq⟩ := Deep.choose_lt key
    refine ⟨(List.range len).map q, some a, cap, by simp, ⟨by simpa using hl, hm⟩, (fun e => nomatch e), fun i r hr => ?_, fun r hr => ?_⟩
    · have hi : i < len := by
        have := (List.getElem?_eq_some_iff.1 hr).1
        simpa using this
      have er : r = q i := by
        rw [List.getElem?_map, List.getElem?_range hi] at hr
        simpa using hr.symm
      rw [er]
      exact ⟨a, rfl, (hq i hi).2⟩
    · obtain ⟨i, hi, rfl⟩ := List.mem_map.1 hr
      exact (hq i (List.mem_range.1 hi)).1
set_option maxRecDepth 100000 in
theorem open_doc {H : Type} {enc : TypeId × Value → H} {W : World} {r : Reach} {b0 base : Nat} {spare : Nat → Bool} {held : Bool} {v : Value} {d : DataW H} {p : List MemPlace}
    (hv : Value.okWide Tryz.prog W r b0 24 v) (h : DataW.Trod enc Tryz.prog W base spare held 24 v d p)
    (hsz : (DataW.weights Tryz.prog 24 d).all (· ≤ reachBytes) = true) :
    ∃ (L : List Cu) (o : Option Addr) (cap : Nat), v = .agg #[.slice o L.length cap] ∧ (L.length ≤ cap ∧ cap ≤ maxLen) ∧ (o = none → L = [] ∧ cap = 0) ∧ CuO W o L ∧ ∀ q ∈ L, CuQ W q := by
  obtain ⟨cs, rfl, hn⟩ := okWide_struct Tryz.underlying24 hv
  obtain ⟨c0, rfl⟩ : ∃ c0, cs = #[c0] := by
    obtain ⟨l⟩ := cs
    match l, hn.trans dc_cellsDoc with
    | [c0], _ => exact ⟨c0, rfl⟩
  obtain ⟨fuel, hf⟩ := h
  obtain ⟨y0, n, hx, _, h0⟩ := trod_struct1 Tryz.underlying24 hf
  simp [Value.cells, dc_cellsCs] at h0
  simp only [Prod.mk.injEq] at hx
  rw [hx.1] at hsz
  have hu : Tryz.prog.underlying 24 = _ := Tryz.underlying24
  unfold DataW.weights at hsz
  rw [hu] at hsz
  simp only [List.map_cons, List.map_nil, DataW.weightsEach, List.append_nil] at hsz
  obtain ⟨L, o, cap, rfl, hc, hn, hR, hQ⟩ := dc_cues h0 hsz
  exact ⟨L, o, cap, rfl, hc, hn, hR, hQ⟩
end Go.Proofs.YthhhglfcacoejaaGreatDoor
