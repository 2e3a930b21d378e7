/- Several texts, one behind the other. -/
import Derived.Test.YtdikfcnbkckinaaGreatDoorGA
import Derived.Test.YtdikfcnbkckinaaGreatDoorRatT
/- Rows of ratios: their memory; what Sum, Least and Most tell of them. -/
namespace Go.Proofs.YtdikfcnbkckinaaGreatDoor
open Go.RowKit Go.Shelf

/-- Ratios that lie one behind the other. -/
def RowAt (l : List Rt) (a : Addr) (V : World) : Prop := a.block < V.heap.size ∧ ∀ (i : Nat) (p : Rt), l[i]? = some p → V.cell? (a.add (i * 2)) = some (.int .i64 p.N) ∧ V.cell? (a.add (i * 2 + 1)) = some (.int .i64 p.D)
theorem addr_block (a : Addr) (n : Nat) : (a.add n).block = a.block := by unfold Addr.add; split <;> rfl
theorem addr_next (a : Addr) (n : Nat) : a.add (n + 1) = ⟨(a.add n).block, (a.add n).off + 1, none⟩ := by
  unfold Addr.add
  by_cases h : n = 0
  · subst h; rfl
  · simp [h]; omega
theorem RowAt.keep {l : List Rt} {a : Addr} {V V2 : World} (h : RowAt l a V) (b : Below V.heap.size V V2) : RowAt l a V2 :=
  ⟨Nat.lt_of_lt_of_le h.1 b.size, fun i p hp => ⟨(b.cell (p := a.add (i * 2)) (by rw [addr_block]; exact h.1)).trans (h.2 i p hp).1, (b.cell (p := a.add (i * 2 + 1)) (by rw [addr_block]; exact h.1)).trans (h.2 i p hp).2⟩⟩
theorem RowAt.pair {l : List Rt} {a : Addr} {V : World} (h : RowAt l a V) {i : Nat} {p : Rt} (hp : l[i]? = some p) : V.cell? (a.add (i * 2)) = some (.int .i64 p.N) ∧ V.cell? ⟨(a.add (i * 2)).block, (a.add (i * 2)).off + 1, none⟩ = some (.int .i64 p.D) := by
  obtain ⟨h1, h2⟩ := h.2 i p hp
  rw [addr_next] at h2
  exact ⟨h1, h2⟩
theorem RowAt.alloc {l : List Rt} {a : Addr} {V : World} (h : RowAt l a V) (o : Obj) : RowAt l a (V.alloc o) := h.keep (bel1 V o)
theorem RowAt.old {l : List Rt} {a : Addr} {w V : World} (h : RowAt l a w) (b : Below w.heap.size w V) : RowAt l a V := h.keep b

/-- What Sum tells. -/
def sumF (s : Rt) : List Rt → Rt × Int
  | [] => (s, 0)
  | r :: t => if (addA s r).2 = 0 then sumF (addA s r).1 t else (⟨0, 0⟩, (addA s r).2)
def sumA (l : List Rt) : Rt × Int := sumF ⟨0, 1⟩ l
theorem sumF_step {l : List Rt} {k : Nat} {p : Rt} (hp : l[k]? = some p) (s : Rt) : sumF s (l.drop k) = if (addA s p).2 = 0 then sumF (addA s p).1 (l.drop (k + 1)) else (⟨0, 0⟩, (addA s p).2) := by
  obtain ⟨hk, e⟩ := List.getElem?_eq_some_iff.1 hp
  rw [List.drop_eq_getElem_cons hk, e]
  rfl
theorem sumF_end (l : List Rt) (s : Rt) : sumF s (l.drop l.length) = (s, 0) := by rw [List.drop_length]; rfl
theorem low_in (q : Rat) : RtIn (low q).1 := by
  unfold low
  by_cases h : fitsQ q = true
  · rw [if_pos h]
    have h2 : _ := of_decide_eq_true h
    unfold RtIn I64
    simp only
    omega
  · rw [if_neg h]
    exact ⟨⟨by simp, by simp⟩, ⟨by simp, by simp⟩⟩
theorem addA_in (a b : Rt) : RtIn (addA a b).1 := by
  unfold addA
  split
  · exact low_in _
  · exact ⟨⟨by simp [bad], by simp [bad]⟩, ⟨by simp [bad], by simp [bad]⟩⟩
/-- What Least and Most tell. -/
def bestF (side : Int) (b : Rt) : List Rt → Rt
  | [] => b
  | r :: t => bestF side (if cmpI r b = side then r else b) t
def bestA (side : Int) (l : List Rt) : Rt × Bool := match l with
  | [] => (⟨0, 0⟩, false)
  | b :: t => (bestF side b t, true)
theorem bestF_step {l : List Rt} {k : Nat} {p : Rt} (hp : l[k]? = some p) (side : Int) (b : Rt) : bestF side b (l.drop k) = bestF side (if cmpI p b = side then p else b) (l.drop (k + 1)) := by
  obtain ⟨hk, e⟩ := List.getElem?_eq_some_iff.1 hp
  rw [List.drop_eq_getElem_cons hk, e]
  rfl
theorem bestF_end (l : List Rt) (side : Int) (b : Rt) : bestF side b (l.drop l.length) = b := by rw [List.drop_length]; rfl
end Go.Proofs.YtdikfcnbkckinaaGreatDoor

/- The contracts of ratio.outermost, Least, Most. -/
namespace Go.Proofs.YtdikfcnbkckinaaGreatDoor
open Go.RowKit Go.Shelf
attribute [local go_sem] Oper.semAt_some

theorem addr_tail (a : Addr) (i : Nat) : (⟨a.block, a.off + 2, none⟩ : Addr).add (i * 2) = a.add ((i + 1) * 2) ∧ (⟨a.block, a.off + 2, none⟩ : Addr).add (i * 2 + 1) = a.add ((i + 1) * 2 + 1) := by
  unfold Addr.add
  constructor
  · by_cases h : i = 0
    · subst h; rfl
    · rw [if_neg (by omega), if_neg (by omega)]; simp only [Addr.mk.injEq, and_true, true_and]; omega
  · rw [if_neg (by omega), if_neg (by omega)]; simp only [Addr.mk.injEq, and_true, true_and]; omega
theorem addr_flat (b o n : Nat) : (⟨b, o, none⟩ : Addr).add n = ⟨b, o + n, none⟩ := by
  unfold Addr.add
  by_cases h : n = 0
  · subst h; rfl
  · rw [if_neg h]
theorem RowAt.tail {l : List Rt} {a : Addr} {V : World} (h : RowAt l a V) : RowAt (l.drop 1) ⟨a.block, a.off + 2, none⟩ V := by
  refine ⟨h.1, fun i p hp => ?_⟩
  rw [List.getElem?_drop] at hp
  rw [(addr_tail a i).1, (addr_tail a i).2, Nat.add_comm i 1]
  exact h.2 (1 + i) p hp

end Go.Proofs.YtdikfcnbkckinaaGreatDoor

/- Contracts of package ratio: Div. -/
namespace Go.Proofs.YtdikfcnbkckinaaGreatDoor
open Go.RowKit Go.Shelf
attribute [local go_sem] Oper.semAt_some

theorem set_apart {V : World} {A B i j : Nat} {x : Value} (h : A ≠ B) : (V.setCell ⟨A, i, none⟩ x).cell? ⟨B, j, none⟩ = V.cell? ⟨B, j, none⟩ :=
  World.cell?_setCell_other _ _ _ _ (fun e => h (congrArg Addr.block e))
theorem keep4o {A B R : Nat} {V : World} {a0 a1 b0 b1 x y : Value} (nA : R ≠ A) (nB : R ≠ B)
    (h : V.cell? ⟨A, 0, none⟩ = some a0 ∧ V.cell? ⟨A, 1, none⟩ = some a1 ∧ V.cell? ⟨B, 0, none⟩ = some b0 ∧ V.cell? ⟨B, 1, none⟩ = some b1) :
    ((V.setCell ⟨R, 0, none⟩ x).setCell ⟨R, 1, none⟩ y).cell? ⟨A, 0, none⟩ = some a0 ∧ ((V.setCell ⟨R, 0, none⟩ x).setCell ⟨R, 1, none⟩ y).cell? ⟨A, 1, none⟩ = some a1 ∧ ((V.setCell ⟨R, 0, none⟩ x).setCell ⟨R, 1, none⟩ y).cell? ⟨B, 0, none⟩ = some b0 ∧ ((V.setCell ⟨R, 0, none⟩ x).setCell ⟨R, 1, none⟩ y).cell? ⟨B, 1, none⟩ = some b1 := by
  simp only [set_apart nA, set_apart nB]
  exact h

end Go.Proofs.YtdikfcnbkckinaaGreatDoor

/- The contract of package ratio's Div. -/
namespace Go.Proofs.YtdikfcnbkckinaaGreatDoor
open Go.RowKit Go.Shelf
attribute [local go_sem] Oper.semAt_some

theorem low_wide (P Q : Int) (hQ : 2147483648 < Q) (hc : P.natAbs.gcd Q.natAbs = 1) : low (Rat.divInt P Q) = (⟨0, 0⟩, 12) := by
  rw [low_eq P Q _ (by omega) rfl, gcd_rest P Q (by omega), hc, if_neg]
  simp
  omega

/-- All that Div reckons, of two right ratios, the second not 0. -/
theorem div_math (a b : Rt) (ha : rightB a = true) (hb : rightB b = true) (h0 : ¬ b.N = 0) :
    ∃ t u n m x y : Int, t = ((sz a.N).toNat.gcd (sz b.N).toNat : Nat) ∧ u = (a.D.toNat.gcd b.D.toNat : Nat) ∧ 0 < t ∧ t ≤ 4611686018427387904 ∧ 0 < u ∧ u ≤ 2147483648 ∧
      a.D.tdiv u = x ∧ 0 < x ∧ x ≤ 2147483648 ∧ (sz b.N).tdiv t = y ∧ 0 < y ∧ y ≤ 4611686018427387904 ∧ a.N.tdiv t = n ∧ (-4611686018427387904 ≤ n ∧ n ≤ 4611686018427387904) ∧ b.D.tdiv u = m ∧ (0 < m ∧ m ≤ 2147483648) ∧
      (n * m).natAbs.gcd (x * y).natAbs = 1 ∧ (0 < b.N → valQ a / valQ b = Rat.divInt (n * m) (x * y)) ∧ (b.N < 0 → valQ a / valQ b = Rat.divInt (-(n * m)) (x * y)) := by
  obtain ⟨a1, a2, a3, a4, ag⟩ := (right_iff a).1 ha
  obtain ⟨b1, b2, b3, b4, bg⟩ := (right_iff b).1 hb
  obtain ⟨T, hT⟩ : ∃ T, T = a.N.natAbs.gcd b.N.natAbs := ⟨_, rfl⟩
  obtain ⟨U, hU⟩ : ∃ U, U = a.D.natAbs.gcd b.D.natAbs := ⟨_, rfl⟩
  have hT0 : 0 < T := by rw [hT]; exact Nat.gcd_pos_of_pos_right _ (by omega)
  have hU0 : 0 < U := by rw [hU]; exact Nat.gcd_pos_of_pos_right _ (by omega)
  have dTa : T ∣ a.N.natAbs := by rw [hT]; exact Nat.gcd_dvd_left _ _
  have dTb : T ∣ b.N.natAbs := by rw [hT]; exact Nat.gcd_dvd_right _ _
  have dUa : U ∣ a.D.natAbs := by rw [hU]; exact Nat.gcd_dvd_left _ _
  have dUb : U ∣ b.D.natAbs := by rw [hU]; exact Nat.gcd_dvd_right _ _
  have hTle : T ≤ b.N.natAbs := Nat.le_of_dvd (by omega) dTb
  have hUle : U ≤ a.D.natAbs := Nat.le_of_dvd (by omega) dUa
  -- the parts
  obtain ⟨n, hn⟩ : (T : Int) ∣ a.N := Int.ofNat_dvd_left.2 dTa
  obtain ⟨k, hk⟩ : (T : Int) ∣ b.N := Int.ofNat_dvd_left.2 dTb
  obtain ⟨x, hx⟩ : (U : Int) ∣ a.D := Int.ofNat_dvd_left.2 dUa
  obtain ⟨m, hm⟩ : (U : Int) ∣ b.D := Int.ofNat_dvd_left.2 dUb
  have hTi : (0 : Int) < T := by omega
  have hUi : (0 : Int) < U := by omega
  have en : a.N.tdiv T = n := by rw [hn, Int.mul_tdiv_cancel_left _ (by omega)]
  have ex : a.D.tdiv U = x := by rw [hx, Int.mul_tdiv_cancel_left _ (by omega)]
  have em : b.D.tdiv U = m := by rw [hm, Int.mul_tdiv_cancel_left _ (by omega)]
  have es : sz b.N = T * (k.natAbs : Int) := by unfold sz; rw [hk, Int.natAbs_mul, Int.natAbs_natCast]; simp
  have ey : (sz b.N).tdiv T = (k.natAbs : Int) := by rw [es, Int.mul_tdiv_cancel_left _ (by omega)]
  have hk0 : k ≠ 0 := fun e => h0 (by rw [hk, e, Int.mul_zero])
  have hx0 : 0 < x := Int.pos_of_mul_pos_right (by rw [← hx]; omega) (by omega)
  have hm0 : 0 < m := Int.pos_of_mul_pos_right (by rw [← hm]; omega) (by omega)
  have eN : a.N.natAbs = T * n.natAbs := by rw [hn, Int.natAbs_mul, Int.natAbs_natCast]
  have eK : b.N.natAbs = T * k.natAbs := by rw [hk, Int.natAbs_mul, Int.natAbs_natCast]
  have eX : a.D.natAbs = U * x.natAbs := by rw [hx, Int.natAbs_mul, Int.natAbs_natCast]
  have eM : b.D.natAbs = U * m.natAbs := by rw [hm, Int.natAbs_mul, Int.natAbs_natCast]
  have le : ∀ (A B C : Nat), 0 < A → B = A * C → C ≤ B := fun A B C h e => by rw [e]; exact Nat.le_mul_of_pos_left _ h
  have l1 := le _ _ _ hT0 eN
  have l2 := le _ _ _ hT0 eK
  have l3 := le _ _ _ hU0 eX
  have l4 := le _ _ _ hU0 eM
  -- no divisor in common
  have c1 : n.natAbs.gcd k.natAbs = 1 := by
    have : T * (n.natAbs.gcd k.natAbs) = T * 1 := by rw [← Nat.gcd_mul_left, ← eN, ← eK, ← hT, Nat.mul_one]
    exact Nat.eq_of_mul_eq_mul_left hT0 this
  have c2 : m.natAbs.gcd x.natAbs = 1 := by
    have : U * (m.natAbs.gcd x.natAbs) = U * 1 := by rw [← Nat.gcd_mul_left, ← eM, ← eX, Nat.gcd_comm, ← hU, Nat.mul_one]
    exact Nat.eq_of_mul_eq_mul_left hU0 this
  have c3 : n.natAbs.gcd x.natAbs = 1 := by
    apply Nat.eq_one_of_dvd_one
    rw [← ag]
    exact Nat.dvd_gcd (Nat.dvd_trans (Nat.gcd_dvd_left _ _) ⟨T, by rw [eN, Nat.mul_comm]⟩) (Nat.dvd_trans (Nat.gcd_dvd_right _ _) ⟨U, by rw [eX, Nat.mul_comm]⟩)
  have c4 : m.natAbs.gcd k.natAbs = 1 := by
    apply Nat.eq_one_of_dvd_one
    rw [← bg]
    exact Nat.dvd_gcd (Nat.dvd_trans (Nat.gcd_dvd_right _ _) ⟨T, by rw [eK, Nat.mul_comm]⟩) (Nat.dvd_trans (Nat.gcd_dvd_left _ _) ⟨U, by rw [eM, Nat.mul_comm]⟩)
  have ev : valQ a / valQ b = Rat.divInt (n * m) (x * k) := by
    rw [val_div]
    have e1 : a.N * b.D = (T * U) * (n * m) := by rw [hn, hm]; simp only [Int.mul_assoc, Int.mul_left_comm]
    have e2 : a.D * b.N = (T * U) * (x * k) := by rw [hx, hk]; simp only [Int.mul_assoc, Int.mul_left_comm]
    rw [e1, e2, Rat.divInt_mul_left]
    have := Int.mul_pos hTi hUi
    omega
  refine ⟨T, U, n, m, x, (k.natAbs : Int), ?_, ?_, hTi, by omega, hUi, by omega, ex, hx0, by omega, ey, by omega, by omega, en, by omega, em, ⟨hm0, by omega⟩, ?_, ?_, ?_⟩
  · rw [hT]; unfold sz; simp
  · rw [hU]; congr 1; congr 1 <;> omega
  · rw [Int.natAbs_mul, Int.natAbs_mul, Int.natAbs_natCast]
    exact Nat.Coprime.mul_left (Nat.Coprime.mul_right c3 c1) (Nat.Coprime.mul_right c2 c4)
  · intro hp
    have : 0 < k := Int.pos_of_mul_pos_right (by rw [← hk]; omega) (by omega)
    rw [ev, show ((k.natAbs : Nat) : Int) = k by omega]
  · intro hp
    have : k < 0 := by
      apply Int.neg_of_mul_neg_right (a := T) (by rw [← hk]; exact hp) (by omega)
    rw [ev, show ((k.natAbs : Nat) : Int) = -k by omega, Int.mul_neg, Rat.neg_divInt_neg]

end Go.Proofs.YtdikfcnbkckinaaGreatDoor
