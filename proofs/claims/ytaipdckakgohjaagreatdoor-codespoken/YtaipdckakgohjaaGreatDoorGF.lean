/- Several texts, one behind the other. -/
import Derived.Shelf.Strconv.Itoa4
import Derived.Test.YtaipdckakgohjaaGreatDoorCRefA
import Derived.Test.YtaipdckakgohjaaGreatDoorCRefD
import Derived.Test.YtaipdckakgohjaaGreatDoorGA
import Derived.Test.YtaipdckakgohjaaGreatDoorGB
import Derived.Test.YtaipdckakgohjaaGreatDoorGC
import Derived.Test.YtaipdckakgohjaaGreatDoorGE
/- Package code: numbers rise with the frames, texts of digits with their numbers: mathematics. -/
namespace Go.Proofs.YtaipdckakgohjaaGreatDoor
open Go.RowKit Go.Shelf

theorem num_rise (f l a b : Int) (h : Full f l) (h0 : 0 ≤ a) (hab : a < b) : numI f l a < numI f l b := by
  obtain ⟨q1, j1, x1, _, q10, j10, j19, hN1, x10, x11, jl1, hf1⟩ := num_parts f l a h h0
  obtain ⟨q2, j2, x2, _, q20, j20, j29, hN2, x20, x21, jl2, hf2⟩ := num_parts f l b h (by omega)
  obtain ⟨f1, f2, l1, l2⟩ := h
  rw [hN1, hN2]
  refine Int.lt_of_not_ge fun c => ?_
  obtain ⟨M1, hM1⟩ : ∃ M, 10 * q1 + j1 = M := ⟨_, rfl⟩
  obtain ⟨M2, hM2⟩ : ∃ M, 10 * q2 + j2 = M := ⟨_, rfl⟩
  rw [hM1] at c hf1
  rw [hM2] at c hf2
  by_cases e : M1 = M2
  · have eq : q1 = q2 := by omega
    have ej : j1 = j2 := by omega
    subst eq ej e
    omega
  · have gt : M2 < M1 := by
      refine Int.lt_of_not_ge fun y => ?_
      have : (M1 + 1) * (60 * f) ≤ M2 * (60 * f) := Int.mul_le_mul_of_nonneg_right (by omega) (by omega)
      rw [Int.add_mul] at this
      omega
    have qq : q2 ≤ q1 := by omega
    obtain ⟨D, hD⟩ : ∃ D, M1 - M2 = D := ⟨_, rfl⟩
    have e1 : M1 * (60 * f) = M2 * (60 * f) + D * (60 * f) := by rw [← Int.add_mul]; congr 1; omega
    obtain ⟨E, hE⟩ : ∃ E, (9 * q1 + j1) - (9 * q2 + j2) = E := ⟨_, rfl⟩
    have e2 : l * (9 * q1 + j1) = l * (9 * q2 + j2) + l * E := by rw [← Int.mul_add]; congr 1; omega
    have ED : E ≤ D := by omega
    have lE : l * E ≤ l * D := Int.mul_le_mul_of_nonneg_left ED l1
    by_cases d1 : D = 1
    · subst d1
      by_cases z : j1 = 0
      · have E0 : E = 0 := by omega
        subst E0
        omega
      · have x1l := jl1.resolve_left z
        omega
    · have d2 : 2 * (60 * f - l) ≤ D * (60 * f - l) := Int.mul_le_mul_of_nonneg_right (by omega) (by omega)
      have d3 : D * (60 * f - l) = D * (60 * f) - D * l := Int.mul_sub _ _ _
      have lD : l * D = D * l := Int.mul_comm _ _
      omega
theorem less_app (x y p q : List UInt8) (h : x.length = y.length) : Op.bytesLess (x ++ p) (y ++ q) = if x = y then Op.bytesLess p q else Op.bytesLess x y := by
  induction x generalizing y with
  | nil =>
    cases y with
    | nil => simp
    | cons b y => simp at h
  | cons a x ih =>
    cases y with
    | nil => simp at h
    | cons b y =>
      simp only [List.length_cons, Nat.add_right_cancel_iff] at h
      simp only [List.cons_append, Op.bytesLess, ih y h, List.cons.injEq]
      by_cases e : a = b
      · subst e
        by_cases e2 : x = y
        · subst e2
          simp
        · simp [e2]
      · simp [e, beq_eq_false_iff_ne.2 e]
theorem valN_cons (c : UInt8) (t : List UInt8) : valN (c :: t) = (c.toNat - 48) * 10 ^ t.length + valN t := by
  have g : ∀ (t : List UInt8) (a : Nat), t.foldl (fun n c => n * 10 + (c.toNat - 48)) a = a * 10 ^ t.length + valN t := by
    intro t
    induction t with
    | nil => intro a; simp [valN]
    | cons c t ih =>
      intro a
      unfold valN
      rw [List.foldl_cons, List.foldl_cons, ih, ih, List.length_cons, Nat.pow_succ]
      grind
  unfold valN
  rw [List.foldl_cons, g]
  simp only [Nat.zero_mul, Nat.zero_add]
  rfl
theorem less_dig (x y : List UInt8) (h : x.length = y.length) (hx : x.all isDig = true) (hy : y.all isDig = true) : Op.bytesLess x y = decide (valN x < valN y) ∧ (x = y ↔ valN x = valN y) := by
  induction x generalizing y with
  | nil =>
    cases y with
    | nil => simp [Op.bytesLess]
    | cons b y => simp at h
  | cons a x ih =>
    cases y with
    | nil => simp at h
    | cons b y =>
      simp only [List.length_cons, Nat.add_right_cancel_iff] at h
      rw [List.all_cons, Bool.and_eq_true] at hx hy
      obtain ⟨i1, i2⟩ := ih y h hx.2 hy.2
      have ha : 48 ≤ a.toNat ∧ a.toNat ≤ 57 := of_decide_eq_true hx.1
      have hb : 48 ≤ b.toNat ∧ b.toNat ≤ 57 := of_decide_eq_true hy.1
      have vx := valN_lt x hx.2 x.length (Nat.le_refl _)
      have vy := valN_lt y hy.2 y.length (Nat.le_refl _)
      rw [List.take_length] at vx vy
      rw [valN_cons, valN_cons, h]
      rw [h] at vx
      have ab : a = b ↔ a.toNat = b.toNat := UInt8.toNat_inj.symm
      have lt : a < b ↔ a.toNat < b.toNat := UInt8.lt_iff_toNat_lt
      generalize 10 ^ y.length = P at *
      by_cases e : a.toNat = b.toNat
      · have e2 := ab.2 e
        subst e2
        refine ⟨?_, ?_⟩
        · simp only [Op.bytesLess, i1]
          simp
        · rw [List.cons.injEq, i2]
          constructor
          · rintro ⟨_, z⟩
            rw [z]
          · intro z
            exact ⟨rfl, by omega⟩
      · have ne : ¬ a = b := fun z => e (ab.1 z)
        by_cases c : a.toNat < b.toNat
        · have m : (a.toNat - 48 + 1) * P ≤ (b.toNat - 48) * P := Nat.mul_le_mul_right _ (by omega)
          rw [Nat.add_mul, Nat.one_mul] at m
          refine ⟨?_, ?_⟩
          · simp only [Op.bytesLess, lt.2 c, decide_true, Bool.true_or]
            exact (decide_eq_true (by omega)).symm
          · exact ⟨fun z => absurd (List.cons.inj z).1 ne, fun z => by omega⟩
        · have m : (b.toNat - 48 + 1) * P ≤ (a.toNat - 48) * P := Nat.mul_le_mul_right _ (by omega)
          rw [Nat.add_mul, Nat.one_mul] at m
          refine ⟨?_, ?_⟩
          · have nl : ¬ a < b := fun z => c (lt.1 z)
            simp only [Op.bytesLess, nl, decide_false, Bool.false_or, beq_eq_false_iff_ne.2 ne, Bool.false_and]
            exact (decide_eq_false (by omega)).symm
          · exact ⟨fun z => absurd (List.cons.inj z).1 ne, fun z => by omega⟩
theorem pad_less (a b k : Nat) (p q : List UInt8) (h : (padL a k).length = (padL b k).length) : Op.bytesLess (padL a k ++ p) (padL b k ++ q) = if a = b then Op.bytesLess p q else decide (a < b) := by
  obtain ⟨i1, i2⟩ := less_dig _ _ h (pad_all a k) (pad_all b k)
  rw [pad_val, pad_val] at i1 i2
  rw [less_app _ _ p q h, i1]
  by_cases e : a = b
  · rw [if_pos (i2.2 e), if_pos e]
  · rw [if_neg (fun x => e (i2.1 x)), if_neg e]
theorem one_less (c : UInt8) (p q : List UInt8) : Op.bytesLess ([c] ++ p) ([c] ++ q) = Op.bytesLess p q := by
  rw [less_app [c] [c] p q rfl, if_pos rfl]
/-- Texts of one length that a dial writes rise as their numbers do. -/
theorem dial_less (mk : UInt8) (per dg a b : Nat) (hp : 0 < per) (g1 : 1 ≤ dg) (hg : per ≤ 10 ^ dg) (hl : (dialL 2 mk per dg a).length = (dialL 2 mk per dg b).length) :
    Op.bytesLess (dialL 2 mk per dg a) (dialL 2 mk per dg b) = decide (a < b) := by
  have m1 : a % per < per := Nat.mod_lt _ hp
  have m2 : b % per < per := Nat.mod_lt _ hp
  have d1 : per * (a / per) + a % per = a := Nat.div_add_mod a per
  have d2 : per * (b / per) + b % per = b := Nat.div_add_mod b per
  have lm : ∀ x y : Nat, (padL (x % 60) 2).length = (padL (y % 60) 2).length := fun x y => by rw [pad_two _ (by omega), pad_two _ (by omega)]
  have lx : (padL (a % per) dg).length = (padL (b % per) dg).length := by rw [pad_dg _ _ g1 (by omega), pad_dg _ _ g1 (by omega)]
  unfold dialL at hl ⊢
  simp only [List.length_append, List.length_cons, List.length_nil, lm (a / per / 60) (b / per / 60), lm (a / per) (b / per), lx] at hl
  have lh : (padL (a / per / 3600) 2).length = (padL (b / per / 3600) 2).length := by omega
  have ex := pad_less (a % per) (b % per) dg [] [] lx
  rw [List.append_nil, List.append_nil] at ex
  simp only [List.append_assoc]
  rw [pad_less _ _ 2 _ _ lh, one_less, pad_less _ _ 2 _ _ (lm _ _), one_less, pad_less _ _ 2 _ _ (lm _ _), one_less, ex]
  generalize a % per = x at *
  generalize b % per = y at *
  generalize hA : a / per = A at *
  generalize hB : b / per = B at *
  by_cases e : A = B
  · subst e
    rw [if_pos rfl, if_pos rfl, if_pos rfl]
    by_cases z : x = y
    · subst z
      rw [if_pos rfl]
      exact (decide_eq_false (by omega)).symm
    · rw [if_neg z]
      exact decide_eq_decide.2 (by omega)
  · have key : a < b ↔ A < B := by
      rw [← d1, ← d2]
      constructor
      · intro h
        refine Nat.lt_of_not_le fun c => ?_
        have : per * (B + 1) ≤ per * A := Nat.mul_le_mul_left _ (by omega)
        rw [Nat.mul_add, Nat.mul_one] at this
        omega
      · intro h
        have : per * (A + 1) ≤ per * B := Nat.mul_le_mul_left _ (by omega)
        rw [Nat.mul_add, Nat.mul_one] at this
        omega
    have kd : decide (a < b) = decide (A < B) := decide_eq_decide.2 key
    rw [kd]
    split
    · split
      · split
        · omega
        · exact decide_eq_decide.2 (by omega)
      · exact decide_eq_decide.2 (by omega)
    · exact decide_eq_decide.2 (by omega)
theorem pad_hours (h : Nat) (hh : h < 1000) : (padL h 2).length = if h < 100 then 2 else 3 := by
  by_cases c : h < 100
  · rw [if_pos c, pad_two h c]
  · rw [if_neg c, pad_len]
    have u := dd_len 2 h (by simpa using hh)
    have v := valN_lt (Lib.decDigits h) (dd_all h) _ (Nat.le_refl _)
    rw [List.take_length, dd_val] at v
    have : 3 ≤ (Lib.decDigits h).length := by
      refine Nat.le_of_not_lt fun x => ?_
      have : (10 : Nat) ^ (Lib.decDigits h).length ≤ 10 ^ 2 := Nat.pow_le_pow_right (by omega) (by omega)
      omega
    omega
theorem dial_long (mk : UInt8) (per dg a b : Nat) (hp : 0 < per) (g1 : 1 ≤ dg) (hg : per ≤ 10 ^ dg) (ha : a / per / 3600 < 1000) (hb : b / per / 3600 < 1000) (hl : (dialL 2 mk per dg a).length ≠ (dialL 2 mk per dg b).length) :
    ((dialL 2 mk per dg a).length < (dialL 2 mk per dg b).length) = (a < b) := by
  have m1 : a % per < per := Nat.mod_lt _ hp
  have m2 : b % per < per := Nat.mod_lt _ hp
  have lm : ∀ x y : Nat, (padL (x % 60) 2).length = (padL (y % 60) 2).length := fun x y => by rw [pad_two _ (by omega), pad_two _ (by omega)]
  have lx : (padL (a % per) dg).length = (padL (b % per) dg).length := by rw [pad_dg _ _ g1 (by omega), pad_dg _ _ g1 (by omega)]
  unfold dialL at hl ⊢
  simp only [List.length_append, List.length_cons, List.length_nil, lm (a / per / 60) (b / per / 60), lm (a / per) (b / per), lx, pad_hours _ ha, pad_hours _ hb] at hl ⊢
  have mo : ∀ x y : Nat, x / per / 3600 < y / per / 3600 → x < y := fun x y h => by
    refine Nat.lt_of_not_le fun c => ?_
    have := Nat.div_le_div_right (c := 3600) (Nat.div_le_div_right (c := per) c)
    omega
  apply propext
  constructor
  · intro h
    apply mo
    split at h <;> split at h <;> omega
  · intro h
    have : ¬ b / per / 3600 < a / per / 3600 := fun x => by have := mo _ _ x; omega
    have nl : (if a / per / 3600 < 100 then 2 else 3) ≠ (if b / per / 3600 < 100 then 2 else 3) := fun x => hl (by rw [x])
    split at nl <;> split at nl <;> first | omega | (rw [if_pos (by assumption), if_neg (by assumption)]; omega)
end Go.Proofs.YtaipdckakgohjaaGreatDoor

/- Package code: RateText; strconv.Itoa off the shelf. -/
namespace Go.Proofs.YtaipdckakgohjaaGreatDoor
open Go.RowKit Go.Shelf
open Go.Lib (decDigits)
attribute [local go_sem] Oper.semAt_some bs_toList

def lay171Ren : Ren := ⟨fun x => if x = 129 then 128 else if x = 171 then 52 else if x = 243 then 84 else if x = 246 then 100 else if x = 283 then 113 else if x = 284 then 114 else if x = 285 then 115 else if x = 286 then 116 else if x = 317 then 127 else if x = 318 then 129 else if x = 319 then 130 else if x = 320 then 131 else if x = 337 then 135 else if x = 338 then 136 else x, fun x => if x = 0 then 0 else if x = 2 then 2 else if x = 3 then 3 else if x = 4 then 4 else if x = 5 then 5 else if x = 9 then 9 else if x = 20 then 20 else if x = 37 then 79 else if x = 46 then 116 else if x = 51 then 162 else if x = 53 then 81 else if x = 171 then 153 else if x = 173 then 156 else if x = 212 then 166 else if x = 213 then 167 else if x = 232 then 173 else if x = 233 then 174 else x, fun x => if x = 17 then 3 else if x = 18 then 4 else if x = 19 then 5 else x⟩
set_option maxRecDepth 100000 in
theorem lay171 : Lays.n171 Tryz.prog lay171Ren := { mixed := by kernel_rfl, f129 := by kernel_rfl, f171 := by kernel_rfl, f243 := by kernel_rfl, f246 := by kernel_rfl, f283 := by kernel_rfl, f284 := by kernel_rfl, f285 := by kernel_rfl, f286 := by kernel_rfl, f317 := by kernel_rfl, f318 := by kernel_rfl, f319 := by kernel_rfl, f320 := by kernel_rfl, f337 := by kernel_rfl, f338 := by kernel_rfl, t0 := by kernel_rfl, a0 := fun _ => by kernel_rfl, z0 := fun _ => by kernel_rfl, v0 := fun _ => by kernel_rfl, t2 := by kernel_rfl, a2 := fun _ => by kernel_rfl, z2 := fun _ => by kernel_rfl, v2 := fun _ => by kernel_rfl, t3 := by kernel_rfl, a3 := fun _ => by kernel_rfl, z3 := fun _ => by kernel_rfl, v3 := fun _ => by kernel_rfl, t4 := by kernel_rfl, a4 := fun _ => by kernel_rfl, z4 := fun _ => by kernel_rfl, v4 := fun _ => by kernel_rfl, t5 := by kernel_rfl, a5 := fun _ => by kernel_rfl, z5 := fun _ => by kernel_rfl, v5 := fun _ => by kernel_rfl, t9 := by kernel_rfl, a9 := fun _ => by kernel_rfl, z9 := fun _ => by kernel_rfl, v9 := fun _ => by kernel_rfl, t20 := by kernel_rfl, a20 := fun _ => by kernel_rfl, z20 := fun _ => by kernel_rfl, v20 := fun _ => by kernel_rfl, t37 := by kernel_rfl, a37 := fun _ => by kernel_rfl, z37 := fun _ => by kernel_rfl, v37 := fun _ => by kernel_rfl, t46 := by kernel_rfl, a46 := fun _ => by kernel_rfl, z46 := fun _ => by kernel_rfl, v46 := fun _ => by kernel_rfl, t51 := by kernel_rfl, a51 := fun _ => by kernel_rfl, z51 := fun _ => by kernel_rfl, v51 := fun _ => by kernel_rfl, t53 := by kernel_rfl, a53 := fun _ => by kernel_rfl, z53 := fun _ => by kernel_rfl, v53 := fun _ => by kernel_rfl, t171 := by kernel_rfl, a171 := fun _ => by kernel_rfl, z171 := fun _ => by kernel_rfl, v171 := fun _ => by kernel_rfl, t173 := by kernel_rfl, a173 := fun _ => by kernel_rfl, z173 := fun _ => by kernel_rfl, v173 := fun _ => by kernel_rfl, t212 := by kernel_rfl, a212 := fun _ => by kernel_rfl, z212 := fun _ => by kernel_rfl, v212 := fun _ => by kernel_rfl, t213 := by kernel_rfl, a213 := fun _ => by kernel_rfl, z213 := fun _ => by kernel_rfl, t232 := by kernel_rfl, a232 := fun _ => by kernel_rfl, z232 := fun _ => by kernel_rfl, v232 := fun _ => by kernel_rfl, t233 := by kernel_rfl, a233 := fun _ => by kernel_rfl, z233 := fun _ => by kernel_rfl, v233 := fun _ => by kernel_rfl, g17 := by kernel_rfl, g18 := by kernel_rfl, g19 := by kernel_rfl }
set_option maxRecDepth 100000 in
theorem lay171M : LaysM.n171 Tryz.prog lay171Ren := { lay171 with i0 := by kernel_rfl, i2 := by kernel_rfl, i3 := by kernel_rfl, i4 := by kernel_rfl, i5 := by kernel_rfl, i9 := by kernel_rfl, i20 := by kernel_rfl, i37 := by kernel_rfl, i46 := by kernel_rfl, i51 := by kernel_rfl, i53 := by kernel_rfl, i171 := by kernel_rfl, i173 := by kernel_rfl, i212 := by kernel_rfl, i232 := by kernel_rfl, i233 := by kernel_rfl, m17 := by kernel_rfl, m18 := by kernel_rfl, m19 := by kernel_rfl }
theorem itoa_any (n : Nat) (hn : n ≤ 9223372036854775807) (w : World) (hp : PowAt w) :
    Calls Tryz.prog 52 #[.int .i64 n] w fun e w' => e = .returned (.string (bs (decDigits n))) ∧ Below w.heap.size w w' := by
  have := (Any.strconv_Itoa (ρ := lay171Ren) lay171M (n : Int) (by omega) (by omega) w hp).mono fun e w' (x : e = .returned (.string ⟨(Lib.itoa (n : Int)).toArray⟩) ∧ ∃ k os, w' = Go.Sort.grow (w.drewN k) os) => (⟨x.1, by obtain ⟨k, os, hw⟩ := x.2; rw [hw]; exact below_grow w k os⟩ : e = .returned (.string (bs (Lib.itoa (n : Int)))) ∧ Below w.heap.size w w')
  rw [itoa_nat] at this
  exact this
end Go.Proofs.YtaipdckakgohjaaGreatDoor

/- Package code, surtitleref5: RateText; surtitleref5.Grid. -/
namespace Go.Proofs.YtaipdckakgohjaaGreatDoor
open Go.RowKit Go.Shelf
attribute [local go_sem] Oper.semAt_some bs_toList

set_option maxRecDepth 100000 in
set_option maxHeartbeats 1000000 in
theorem rt_bad (n d c : Int) (dr : Bool) (hc : (c == 0) = false) (w : World)
    (HC : ∀ w, Calls Tryz.prog 35 #[.agg #[.int .i64 n, .int .i64 d, .bool dr]] w fun e w' => e = .returned (.int .i64 c) ∧ Below w.heap.size w w') :
    Calls Tryz.prog 19 #[.agg #[.int .i64 n, .int .i64 d, .bool dr]] w fun e w' => e = .returned (.tuple #[.string ⟨#[]⟩, .int .i64 c]) ∧ Below w.heap.size w w' := by
  have HC := hideR HC
  go_enter Tryz.func19, Tryz.ntmps19
  go_wp2_with fail
  go_at_call 35
  refine (HC.out _).mono ?_
  rintro e w1 ⟨rfl, b1⟩
  have A1 := ((RateAt.new w n d dr).keep b1)
  have B1 := bup (bel1 w _) b1
  clear b1
  obtain ⟨_, a0, a1, a2⟩ := id A1
  go_wp2_with fail
  exact bodyPost_ret (v := .tuple #[.string ⟨#[]⟩, .int .i64 c]) (by simp [results, Tryz.results19, go_sem]) rfl ⟨rfl, by first | exact B1 | exact (B1.setCell (by simp) _).setCell (by simp) _⟩
set_option maxRecDepth 100000 in
set_option maxHeartbeats 1000000 in
theorem rt_onef (n : Int) (a : List UInt8) (w : World)
    (HC : ∀ w, Calls Tryz.prog 35 #[.agg #[.int .i64 n, .int .i64 1, .bool false]] w fun e w' => e = .returned (.int .i64 0) ∧ Below w.heap.size w w')
    (H1 : ∀ w0, Below w.heap.size w w0 → Calls Tryz.prog 52 #[.int .i64 n] w0 fun e w' => e = .returned (.string (bs a)) ∧ Below w0.heap.size w0 w') :
    Calls Tryz.prog 19 #[.agg #[.int .i64 n, .int .i64 1, .bool false]] w fun e w' => e = .returned (.tuple #[.string (bs a), .int .i64 0]) ∧ Below w.heap.size w w' := by
  have HC := hideR HC
  have H1 := hideR H1
  go_enter Tryz.func19, Tryz.ntmps19
  go_wp2_with fail
  go_at_call 35
  refine (HC.out _).mono ?_
  rintro e w1 ⟨rfl, b1⟩
  have A1 := ((RateAt.new w n 1 false).keep b1)
  have B1 := bup (bel1 w _) b1
  clear b1
  obtain ⟨_, a0, a1, a2⟩ := id A1
  go_wp2_with fail
  go_at_call 52
  refine (H1.out _ B1).mono ?_
  rintro e w2 ⟨rfl, b2⟩
  have A2 := (A1.keep b2)
  have B2 := bup B1 b2
  clear A1 B1 a0 a1 a2
  clear b2
  obtain ⟨_, a0, a1, a2⟩ := id A2
  go_wp2_with fail
  skip
  all_goals (go_ret2; exact ⟨rfl, B2⟩)
set_option maxRecDepth 100000 in
set_option maxHeartbeats 1000000 in
theorem rt_twof (n d : Int) (a : List UInt8) (la : a.length ≤ 100) (b : List UInt8) (lb : b.length ≤ 100) (hd2 : (d != 1) = true) (w : World)
    (HC : ∀ w, Calls Tryz.prog 35 #[.agg #[.int .i64 n, .int .i64 d, .bool false]] w fun e w' => e = .returned (.int .i64 0) ∧ Below w.heap.size w w')
    (H1 : ∀ w0, Below w.heap.size w w0 → Calls Tryz.prog 52 #[.int .i64 n] w0 fun e w' => e = .returned (.string (bs a)) ∧ Below w0.heap.size w0 w')
    (H2 : ∀ w0, Below w.heap.size w w0 → Calls Tryz.prog 52 #[.int .i64 d] w0 fun e w' => e = .returned (.string (bs b)) ∧ Below w0.heap.size w0 w') :
    Calls Tryz.prog 19 #[.agg #[.int .i64 n, .int .i64 d, .bool false]] w fun e w' => e = .returned (.tuple #[.string (bs (a ++ [47] ++ b)), .int .i64 0]) ∧ Below w.heap.size w w' := by
  have HC := hideR HC
  have H1 := hideR H1
  have H2 := hideR H2
  have ad1 : ∀ w, (Op.stringOp .add ⟨#[47]⟩ (bs b)).run Tryz.prog w = .ok (.string (bs ([47] ++ b))) w := fun w => by
    have := run_string_add_sum (P := Tryz.prog) w (bs [47]) (bs b) (by rw [bs_size, bs_size]; simp; omega)
    rw [bs_append] at this
    exact this
  have ad2 : ∀ w, (Op.stringOp .add (bs a) (bs ([47] ++ b))).run Tryz.prog w = .ok (.string (bs (a ++ ([47] ++ b)))) w := fun w => by
    have := run_string_add_sum (P := Tryz.prog) w (bs a) (bs ([47] ++ b)) (by rw [bs_size, bs_size]; simp; omega)
    rw [bs_append] at this
    exact this
  rw [← List.append_assoc] at ad2
  generalize bs (a ++ [47] ++ b) = y2 at *
  generalize bs ([47] ++ b) = y1 at *
  go_enter Tryz.func19, Tryz.ntmps19
  go_wp2_with fail
  go_at_call 35
  refine (HC.out _).mono ?_
  rintro e w1 ⟨rfl, b1⟩
  have A1 := ((RateAt.new w n d false).keep b1)
  have B1 := bup (bel1 w _) b1
  clear b1
  obtain ⟨_, a0, a1, a2⟩ := id A1
  go_wp2_with fail
  go_at_call 52
  refine (H1.out _ B1).mono ?_
  rintro e w2 ⟨rfl, b2⟩
  have A2 := (A1.keep b2)
  have B2 := bup B1 b2
  clear A1 B1 a0 a1 a2
  clear b2
  obtain ⟨_, a0, a1, a2⟩ := id A2
  go_wp2_with fail
  first
  | (go_at_call 52; refine (H2.out _ B2).mono ?_; rintro e w3 ⟨rfl, b3⟩; have A3 := A2.keep b3; have B3 := bup B2 b3; clear a0 a1 a2; obtain ⟨_, a0, a1, a2⟩ := id A3; go_wp2_with fail)
  | (have S2 := And.intro A2.2.1 (And.intro A2.2.2.1 A2.2.2.2); go_region_held3 (fun w' => w'.cell? ⟨w.heap.size, 0, none⟩ = some (.int .i64 n) ∧ w'.cell? ⟨w.heap.size, 1, none⟩ = some (.int .i64 d) ∧ w'.cell? ⟨w.heap.size, 2, none⟩ = some (.bool false)) (first | assumption | go_keep) (first | (go_at_call 52; refine (H2.out _ B2.drew).mono ?_; rintro e w3 ⟨rfl, b3⟩; have A3 := A2.drew.keep b3; have B3 := bup B2.drew b3; have S3 := And.intro A3.2.1 (And.intro A3.2.2.1 A3.2.2.2))); all_goals (clear a0 a1 a2; obtain ⟨_, a0, a1, a2⟩ := id A3; try go_wp2_with fail))
  skip
  all_goals (go_ret2; exact ⟨rfl, B3⟩)
set_option maxRecDepth 100000 in
set_option maxHeartbeats 1000000 in
theorem rt_twot (n d : Int) (a : List UInt8) (la : a.length ≤ 100) (b : List UInt8) (lb : b.length ≤ 100) (hd2 : (d != 1) = true) (w : World)
    (HC : ∀ w, Calls Tryz.prog 35 #[.agg #[.int .i64 n, .int .i64 d, .bool true]] w fun e w' => e = .returned (.int .i64 0) ∧ Below w.heap.size w w')
    (H1 : ∀ w0, Below w.heap.size w w0 → Calls Tryz.prog 52 #[.int .i64 n] w0 fun e w' => e = .returned (.string (bs a)) ∧ Below w0.heap.size w0 w')
    (H2 : ∀ w0, Below w.heap.size w w0 → Calls Tryz.prog 52 #[.int .i64 d] w0 fun e w' => e = .returned (.string (bs b)) ∧ Below w0.heap.size w0 w') :
    Calls Tryz.prog 19 #[.agg #[.int .i64 n, .int .i64 d, .bool true]] w fun e w' => e = .returned (.tuple #[.string (bs ((a ++ [47] ++ b) ++ [100])), .int .i64 0]) ∧ Below w.heap.size w w' := by
  have HC := hideR HC
  have H1 := hideR H1
  have H2 := hideR H2
  have ad1 : ∀ w, (Op.stringOp .add ⟨#[47]⟩ (bs b)).run Tryz.prog w = .ok (.string (bs ([47] ++ b))) w := fun w => by
    have := run_string_add_sum (P := Tryz.prog) w (bs [47]) (bs b) (by rw [bs_size, bs_size]; simp; omega)
    rw [bs_append] at this
    exact this
  have ad2 : ∀ w, (Op.stringOp .add (bs a) (bs ([47] ++ b))).run Tryz.prog w = .ok (.string (bs (a ++ ([47] ++ b)))) w := fun w => by
    have := run_string_add_sum (P := Tryz.prog) w (bs a) (bs ([47] ++ b)) (by rw [bs_size, bs_size]; simp; omega)
    rw [bs_append] at this
    exact this
  rw [← List.append_assoc] at ad2
  have ad3 : ∀ w, (Op.stringOp .add (bs (a ++ [47] ++ b)) ⟨#[100]⟩).run Tryz.prog w = .ok (.string (bs (a ++ [47] ++ b ++ [100]))) w := fun w => by
    have := run_string_add_sum (P := Tryz.prog) w (bs (a ++ [47] ++ b)) (bs [100]) (by rw [bs_size, bs_size]; simp; omega)
    rw [bs_append] at this
    exact this
  generalize bs (a ++ [47] ++ b ++ [100]) = y3 at *
  generalize bs (a ++ [47] ++ b) = y2 at *
  generalize bs ([47] ++ b) = y1 at *
  go_enter Tryz.func19, Tryz.ntmps19
  go_wp2_with fail
  go_at_call 35
  refine (HC.out _).mono ?_
  rintro e w1 ⟨rfl, b1⟩
  have A1 := ((RateAt.new w n d true).keep b1)
  have B1 := bup (bel1 w _) b1
  clear b1
  obtain ⟨_, a0, a1, a2⟩ := id A1
  go_wp2_with fail
  go_at_call 52
  refine (H1.out _ B1).mono ?_
  rintro e w2 ⟨rfl, b2⟩
  have A2 := (A1.keep b2)
  have B2 := bup B1 b2
  clear A1 B1 a0 a1 a2
  clear b2
  obtain ⟨_, a0, a1, a2⟩ := id A2
  go_wp2_with fail
  first
  | (go_at_call 52; refine (H2.out _ B2).mono ?_; rintro e w3 ⟨rfl, b3⟩; have A3 := A2.keep b3; have B3 := bup B2 b3; clear a0 a1 a2; obtain ⟨_, a0, a1, a2⟩ := id A3; go_wp2_with fail)
  | (have S2 := And.intro A2.2.1 (And.intro A2.2.2.1 A2.2.2.2); go_region_held3 (fun w' => w'.cell? ⟨w.heap.size, 0, none⟩ = some (.int .i64 n) ∧ w'.cell? ⟨w.heap.size, 1, none⟩ = some (.int .i64 d) ∧ w'.cell? ⟨w.heap.size, 2, none⟩ = some (.bool true)) (first | assumption | go_keep) (first | (go_at_call 52; refine (H2.out _ B2.drew).mono ?_; rintro e w3 ⟨rfl, b3⟩; have A3 := A2.drew.keep b3; have B3 := bup B2.drew b3; have S3 := And.intro A3.2.1 (And.intro A3.2.2.1 A3.2.2.2))); all_goals (clear a0 a1 a2; obtain ⟨_, a0, a1, a2⟩ := id A3; try go_wp2_with fail))
  skip
  all_goals (go_ret2; exact ⟨rfl, B3⟩)
set_option maxRecDepth 100000 in
set_option maxHeartbeats 1000000 in
theorem rrt_onef (n : Int) (a : List UInt8) (w : World)
    (HC : ∀ w, Calls Tryz.prog 20 #[.agg #[.int .i64 n, .int .i64 1, .bool false]] w fun e w' => e = .returned (.int .i64 0) ∧ Below w.heap.size w w')
    (H1 : ∀ w, Calls Tryz.prog 41 #[.int .i64 n, .int .i64 1] w fun e w' => e = .returned (.string (bs a)) ∧ Below w.heap.size w w') :
    Calls Tryz.prog 14 #[.agg #[.int .i64 n, .int .i64 1, .bool false]] w fun e w' => e = .returned (.tuple #[.string (bs a), .int .i64 0]) ∧ Below w.heap.size w w' := by
  have HC := hideR HC
  have H1 := hideR H1
  go_enter Tryz.func14, Tryz.ntmps14
  go_wp2_with fail
  go_at_call 20
  refine (HC.out _).mono ?_
  rintro e w1 ⟨rfl, b1⟩
  have A1 := ((RateAt.new w n 1 false).keep b1)
  have B1 := bup (bel1 w _) b1
  clear b1
  obtain ⟨_, a0, a1, a2⟩ := id A1
  go_wp2_with fail
  go_at_call 41
  refine (H1.out _).mono ?_
  rintro e w2 ⟨rfl, b2⟩
  have A2 := (A1.keep b2)
  have B2 := bup B1 b2
  clear A1 B1 a0 a1 a2
  clear b2
  obtain ⟨_, a0, a1, a2⟩ := id A2
  go_wp2_with fail
  skip
  all_goals (go_ret2; exact ⟨rfl, B2⟩)
set_option maxRecDepth 100000 in
set_option maxHeartbeats 1000000 in
theorem rrt_twof (n d : Int) (a : List UInt8) (la : a.length ≤ 100) (b : List UInt8) (lb : b.length ≤ 100) (hd2 : (d != 1) = true) (w : World)
    (HC : ∀ w, Calls Tryz.prog 20 #[.agg #[.int .i64 n, .int .i64 d, .bool false]] w fun e w' => e = .returned (.int .i64 0) ∧ Below w.heap.size w w')
    (H1 : ∀ w, Calls Tryz.prog 41 #[.int .i64 n, .int .i64 1] w fun e w' => e = .returned (.string (bs a)) ∧ Below w.heap.size w w')
    (H2 : ∀ w, Calls Tryz.prog 41 #[.int .i64 d, .int .i64 1] w fun e w' => e = .returned (.string (bs b)) ∧ Below w.heap.size w w') :
    Calls Tryz.prog 14 #[.agg #[.int .i64 n, .int .i64 d, .bool false]] w fun e w' => e = .returned (.tuple #[.string (bs (a ++ [47] ++ b)), .int .i64 0]) ∧ Below w.heap.size w w' := by
  have HC := hideR HC
  have H1 := hideR H1
  have H2 := hideR H2
  have ad1 : ∀ w, (Op.stringOp .add (bs a) ⟨#[47]⟩).run Tryz.prog w = .ok (.string (bs (a ++ [47]))) w := fun w => by
    have := run_string_add_sum (P := Tryz.prog) w (bs a) (bs [47]) (by rw [bs_size, bs_size]; simp; omega)
    rw [bs_append] at this
    exact this
  have ad2 : ∀ w, (Op.stringOp .add (bs (a ++ [47])) (bs b)).run Tryz.prog w = .ok (.string (bs (a ++ [47] ++ b))) w := fun w => by
    have := run_string_add_sum (P := Tryz.prog) w (bs (a ++ [47])) (bs b) (by rw [bs_size, bs_size]; simp; omega)
    rw [bs_append] at this
    exact this
  generalize bs (a ++ [47] ++ b) = y2 at *
  generalize bs (a ++ [47]) = y1 at *
  go_enter Tryz.func14, Tryz.ntmps14
  go_wp2_with fail
  go_at_call 20
  refine (HC.out _).mono ?_
  rintro e w1 ⟨rfl, b1⟩
  have A1 := ((RateAt.new w n d false).keep b1)
  have B1 := bup (bel1 w _) b1
  clear b1
  obtain ⟨_, a0, a1, a2⟩ := id A1
  go_wp2_with fail
  go_at_call 41
  refine (H1.out _).mono ?_
  rintro e w2 ⟨rfl, b2⟩
  have A2 := (A1.keep b2)
  have B2 := bup B1 b2
  clear A1 B1 a0 a1 a2
  clear b2
  obtain ⟨_, a0, a1, a2⟩ := id A2
  go_wp2_with fail
  first
  | (go_at_call 41; refine (H2.out _).mono ?_; rintro e w3 ⟨rfl, b3⟩; have A3 := A2.keep b3; have B3 := bup B2 b3; clear a0 a1 a2; obtain ⟨_, a0, a1, a2⟩ := id A3; go_wp2_with fail)
  | (have S2 := And.intro A2.2.1 (And.intro A2.2.2.1 A2.2.2.2); go_region_held3 (fun w' => w'.cell? ⟨w.heap.size, 0, none⟩ = some (.int .i64 n) ∧ w'.cell? ⟨w.heap.size, 1, none⟩ = some (.int .i64 d) ∧ w'.cell? ⟨w.heap.size, 2, none⟩ = some (.bool false)) (first | assumption | go_keep) (first | (go_at_call 41; refine (H2.out _).mono ?_; rintro e w3 ⟨rfl, b3⟩; have A3 := A2.drew.keep b3; have B3 := bup B2.drew b3; have S3 := And.intro A3.2.1 (And.intro A3.2.2.1 A3.2.2.2))); all_goals (clear a0 a1 a2; obtain ⟨_, a0, a1, a2⟩ := id A3; try go_wp2_with fail))
  skip
  all_goals (go_ret2; exact ⟨rfl, B3⟩)
set_option maxRecDepth 100000 in
set_option maxHeartbeats 1000000 in
theorem rrt_twot (n d : Int) (a : List UInt8) (la : a.length ≤ 100) (b : List UInt8) (lb : b.length ≤ 100) (hd2 : (d != 1) = true) (w : World)
    (HC : ∀ w, Calls Tryz.prog 20 #[.agg #[.int .i64 n, .int .i64 d, .bool true]] w fun e w' => e = .returned (.int .i64 0) ∧ Below w.heap.size w w')
    (H1 : ∀ w, Calls Tryz.prog 41 #[.int .i64 n, .int .i64 1] w fun e w' => e = .returned (.string (bs a)) ∧ Below w.heap.size w w')
    (H2 : ∀ w, Calls Tryz.prog 41 #[.int .i64 d, .int .i64 1] w fun e w' => e = .returned (.string (bs b)) ∧ Below w.heap.size w w') :
    Calls Tryz.prog 14 #[.agg #[.int .i64 n, .int .i64 d, .bool true]] w fun e w' => e = .returned (.tuple #[.string (bs ((a ++ [47] ++ b) ++ [100])), .int .i64 0]) ∧ Below w.heap.size w w' := by
  have HC := hideR HC
  have H1 := hideR H1
  have H2 := hideR H2
  have ad1 : ∀ w, (Op.stringOp .add (bs a) ⟨#[47]⟩).run Tryz.prog w = .ok (.string (bs (a ++ [47]))) w := fun w => by
    have := run_string_add_sum (P := Tryz.prog) w (bs a) (bs [47]) (by rw [bs_size, bs_size]; simp; omega)
    rw [bs_append] at this
    exact this
  have ad2 : ∀ w, (Op.stringOp .add (bs (a ++ [47])) (bs b)).run Tryz.prog w = .ok (.string (bs (a ++ [47] ++ b))) w := fun w => by
    have := run_string_add_sum (P := Tryz.prog) w (bs (a ++ [47])) (bs b) (by rw [bs_size, bs_size]; simp; omega)
    rw [bs_append] at this
    exact this
  have ad3 : ∀ w, (Op.stringOp .add (bs (a ++ [47] ++ b)) ⟨#[100]⟩).run Tryz.prog w = .ok (.string (bs (a ++ [47] ++ b ++ [100]))) w := fun w => by
    have := run_string_add_sum (P := Tryz.prog) w (bs (a ++ [47] ++ b)) (bs [100]) (by rw [bs_size, bs_size]; simp; omega)
    rw [bs_append] at this
    exact this
  generalize bs (a ++ [47] ++ b ++ [100]) = y3 at *
  generalize bs (a ++ [47] ++ b) = y2 at *
  generalize bs (a ++ [47]) = y1 at *
  go_enter Tryz.func14, Tryz.ntmps14
  go_wp2_with fail
  go_at_call 20
  refine (HC.out _).mono ?_
  rintro e w1 ⟨rfl, b1⟩
  have A1 := ((RateAt.new w n d true).keep b1)
  have B1 := bup (bel1 w _) b1
  clear b1
  obtain ⟨_, a0, a1, a2⟩ := id A1
  go_wp2_with fail
  go_at_call 41
  refine (H1.out _).mono ?_
  rintro e w2 ⟨rfl, b2⟩
  have A2 := (A1.keep b2)
  have B2 := bup B1 b2
  clear A1 B1 a0 a1 a2
  clear b2
  obtain ⟨_, a0, a1, a2⟩ := id A2
  go_wp2_with fail
  first
  | (go_at_call 41; refine (H2.out _).mono ?_; rintro e w3 ⟨rfl, b3⟩; have A3 := A2.keep b3; have B3 := bup B2 b3; clear a0 a1 a2; obtain ⟨_, a0, a1, a2⟩ := id A3; go_wp2_with fail)
  | (have S2 := And.intro A2.2.1 (And.intro A2.2.2.1 A2.2.2.2); go_region_held3 (fun w' => w'.cell? ⟨w.heap.size, 0, none⟩ = some (.int .i64 n) ∧ w'.cell? ⟨w.heap.size, 1, none⟩ = some (.int .i64 d) ∧ w'.cell? ⟨w.heap.size, 2, none⟩ = some (.bool true)) (first | assumption | go_keep) (first | (go_at_call 41; refine (H2.out _).mono ?_; rintro e w3 ⟨rfl, b3⟩; have A3 := A2.drew.keep b3; have B3 := bup B2.drew b3; have S3 := And.intro A3.2.1 (And.intro A3.2.2.1 A3.2.2.2))); all_goals (clear a0 a1 a2; obtain ⟨_, a0, a1, a2⟩ := id A3; try go_wp2_with fail))
  skip
  all_goals (go_ret2; exact ⟨rfl, B3⟩)
set_option maxRecDepth 100000 in
set_option maxHeartbeats 1000000 in
theorem rrt_bad (n d c : Int) (dr : Bool) (hc : (c == 0) = false) (w : World)
    (HC : ∀ w, Calls Tryz.prog 20 #[.agg #[.int .i64 n, .int .i64 d, .bool dr]] w fun e w' => e = .returned (.int .i64 c) ∧ Below w.heap.size w w') :
    Calls Tryz.prog 14 #[.agg #[.int .i64 n, .int .i64 d, .bool dr]] w fun e w' => e = .returned (.tuple #[.string ⟨#[]⟩, .int .i64 14]) ∧ Below w.heap.size w w' := by
  have HC := hideR HC
  go_enter Tryz.func14, Tryz.ntmps14
  go_wp2_with fail
  go_at_call 20
  refine (HC.out _).mono ?_
  rintro e w1 ⟨rfl, b1⟩
  have A1 := ((RateAt.new w n d dr).keep b1)
  have B1 := bup (bel1 w _) b1
  clear b1
  obtain ⟨_, a0, a1, a2⟩ := id A1
  go_wp2_with fail
  exact bodyPost_ret (v := .tuple #[.string ⟨#[]⟩, .int .i64 14]) (by simp [results, Tryz.results14, go_sem]) rfl ⟨rfl, by first | exact B1 | exact (B1.setCell (by simp) _).setCell (by simp) _⟩
end Go.Proofs.YtaipdckakgohjaaGreatDoor

/- What a clock writes of a time on its grid, read again, and how such texts rise; what RateText writes: mathematics and contracts. -/
namespace Go.Proofs.YtaipdckakgohjaaGreatDoor
open Go.RowKit Go.Shelf
open Go.Lib (decDigits)

/-- A time on a grid of g parts a second. -/
theorem mul_gridS (t : Rt) (g : Int) (ht : timeA t = 0) (hg : 1 ≤ g ∧ g ≤ 1000) :
    (mulA t ⟨g, 1⟩).2 = 0 ∧ ((mulA t ⟨g, 1⟩).1.D = 1 ↔ g % t.D = 0) ∧ (g % t.D = 0 → (mulA t ⟨g, 1⟩).1.N = t.N * (g / t.D)) := by
  obtain ⟨tr, t1, t2, t3, t4⟩ := time_ok ht
  have tg := ((right_iff t).1 tr).2.2.2.2
  have rg : rightB ⟨g, 1⟩ = true := (right_iff _).2 ⟨by simp, by simp, by simp only; omega, by simp only; omega, by simp⟩
  rw [mulA_right tr rg, val_mul]
  simp only [Int.mul_one]
  obtain ⟨P, hP⟩ : ∃ P, t.N * g = P := ⟨_, rfl⟩
  have P0 : 0 ≤ P := by rw [← hP]; exact Int.mul_nonneg t3 (by omega)
  have P1 : P ≤ 377487360000 * 1000 := by rw [← hP]; exact Int.mul_le_mul (by omega) hg.2 (by omega) (by omega)
  rw [hP]
  obtain ⟨e, he⟩ : ∃ e : Nat, P.natAbs.gcd t.D.natAbs = e := ⟨_, rfl⟩
  have e0 : 0 < e := by rw [← he]; exact Nat.gcd_pos_of_pos_right _ (by omega)
  have q1 := q_num P t.D (by omega)
  have q2 := q_den P t.D (by omega)
  rw [he] at q1 q2
  have a2 : (e : Int) * (t.D / e) = t.D := Int.mul_ediv_cancel' (by rw [← he]; exact Int.ofNat_dvd_left.2 (Nat.gcd_dvd_right _ _))
  have b1 : 0 ≤ P / e := Int.ediv_nonneg P0 (by omega)
  have b2 : P / e ≤ P := Int.ediv_le_self _ P0
  have b3 : t.D / e ≤ t.D := Int.ediv_le_self _ (by omega)
  have fits : fitsQ (Rat.divInt P t.D) = true := by
    unfold fitsQ
    rw [q1, q2, decide_eq_true_iff]
    omega
  rw [low_fits _ fits]
  refine ⟨rfl, ?_, ?_⟩
  · simp only
    rw [q2]
    constructor
    · intro h
      rw [h, Int.mul_one] at a2
      have d1 : t.D.natAbs ∣ P.natAbs := by
        rw [show t.D.natAbs = e by omega, ← he]
        exact Nat.gcd_dvd_left _ _
      rw [← hP, Int.natAbs_mul] at d1
      have d2 : t.D.natAbs ∣ g.natAbs := Nat.Coprime.dvd_of_dvd_mul_left (Nat.Coprime.symm tg) d1
      exact Int.emod_eq_zero_of_dvd (Int.natAbs_dvd_natAbs.1 d2)
    · intro h
      have d1 : t.D ∣ P := by rw [← hP]; exact Int.dvd_mul_of_dvd_right (Int.dvd_of_emod_eq_zero h)
      have d2 : e = t.D.natAbs := by
        rw [← he]
        exact Nat.gcd_eq_right (Int.natAbs_dvd_natAbs.2 d1)
      rw [show (e : Int) = t.D by omega]
      exact Int.ediv_self (by omega)
  · intro h
    simp only
    rw [q1]
    have d1 : t.D ∣ P := by rw [← hP]; exact Int.dvd_mul_of_dvd_right (Int.dvd_of_emod_eq_zero h)
    have d2 : e = t.D.natAbs := by
      rw [← he]
      exact Nat.gcd_eq_right (Int.natAbs_dvd_natAbs.2 d1)
    rw [show (e : Int) = t.D by omega, ← hP]
    exact Int.mul_ediv_assoc _ (Int.dvd_of_emod_eq_zero h)
/-- Texts of one length that a dial writes rise as their numbers do. -/
theorem dial_lessH (hr : Nat) (mk : UInt8) (per dg a b : Nat) (hp : 0 < per) (g1 : 1 ≤ dg) (hg : per ≤ 10 ^ dg) (hl : (dialL hr mk per dg a).length = (dialL hr mk per dg b).length) :
    Op.bytesLess (dialL hr mk per dg a) (dialL hr mk per dg b) = decide (a < b) := by
  have m1 : a % per < per := Nat.mod_lt _ hp
  have m2 : b % per < per := Nat.mod_lt _ hp
  have d1 : per * (a / per) + a % per = a := Nat.div_add_mod a per
  have d2 : per * (b / per) + b % per = b := Nat.div_add_mod b per
  have lm : ∀ x y : Nat, (padL (x % 60) 2).length = (padL (y % 60) 2).length := fun x y => by rw [pad_two _ (by omega), pad_two _ (by omega)]
  have lx : (padL (a % per) dg).length = (padL (b % per) dg).length := by rw [pad_dg _ _ g1 (by omega), pad_dg _ _ g1 (by omega)]
  unfold dialL at hl ⊢
  simp only [List.length_append, List.length_cons, List.length_nil, lm (a / per / 60) (b / per / 60), lm (a / per) (b / per), lx] at hl
  have lh : (padL (a / per / 3600) hr).length = (padL (b / per / 3600) hr).length := by omega
  have ex := pad_less (a % per) (b % per) dg [] [] lx
  rw [List.append_nil, List.append_nil] at ex
  simp only [List.append_assoc]
  rw [pad_less _ _ hr _ _ lh, one_less, pad_less _ _ 2 _ _ (lm _ _), one_less, pad_less _ _ 2 _ _ (lm _ _), one_less, ex]
  generalize a % per = x at *
  generalize b % per = y at *
  generalize hA : a / per = A at *
  generalize hB : b / per = B at *
  by_cases e : A = B
  · subst e
    rw [if_pos rfl, if_pos rfl, if_pos rfl]
    by_cases z : x = y
    · subst z
      rw [if_pos rfl]
      exact (decide_eq_false (by omega)).symm
    · rw [if_neg z]
      exact decide_eq_decide.2 (by omega)
  · have key : a < b ↔ A < B := by
      rw [← d1, ← d2]
      constructor
      · intro h
        refine Nat.lt_of_not_le fun c => ?_
        have : per * (B + 1) ≤ per * A := Nat.mul_le_mul_left _ (by omega)
        rw [Nat.mul_add, Nat.mul_one] at this
        omega
      · intro h
        have : per * (A + 1) ≤ per * B := Nat.mul_le_mul_left _ (by omega)
        rw [Nat.mul_add, Nat.mul_one] at this
        omega
    have kd : decide (a < b) = decide (A < B) := decide_eq_decide.2 key
    rw [kd]
    split
    · split
      · split
        · omega
        · exact decide_eq_decide.2 (by omega)
      · exact decide_eq_decide.2 (by omega)
    · exact decide_eq_decide.2 (by omega)
theorem dd_mono (a b : Nat) (h : a ≤ b) : (decDigits a).length ≤ (decDigits b).length := by
  have v := valN_lt (decDigits b) (dd_all b) _ (Nat.le_refl _)
  rw [List.take_length, dd_val] at v
  have p := dd_pos b
  obtain ⟨k, hk⟩ : ∃ k, (decDigits b).length = k + 1 := ⟨(decDigits b).length - 1, by omega⟩
  rw [hk] at v ⊢
  exact dd_len k a (by omega)
theorem dial_longH (hr : Nat) (mk : UInt8) (per dg a b : Nat) (hp : 0 < per) (g1 : 1 ≤ dg) (hg : per ≤ 10 ^ dg) (hl : (dialL hr mk per dg a).length < (dialL hr mk per dg b).length) : a < b := by
  have m1 : a % per < per := Nat.mod_lt _ hp
  have m2 : b % per < per := Nat.mod_lt _ hp
  have lm : ∀ x y : Nat, (padL (x % 60) 2).length = (padL (y % 60) 2).length := fun x y => by rw [pad_two _ (by omega), pad_two _ (by omega)]
  have lx : (padL (a % per) dg).length = (padL (b % per) dg).length := by rw [pad_dg _ _ g1 (by omega), pad_dg _ _ g1 (by omega)]
  unfold dialL at hl
  simp only [List.length_append, List.length_cons, List.length_nil, lm (a / per / 60) (b / per / 60), lm (a / per) (b / per), lx] at hl
  have p1 := pad_len (a / per / 3600) hr
  have p2 := pad_len (b / per / 3600) hr
  refine Nat.lt_of_not_le fun c => ?_
  have := dd_mono _ _ (Nat.div_le_div_right (c := 3600) (Nat.div_le_div_right (c := per) c))
  omega
theorem dial_len (hr : Nat) (mk : UInt8) (per dg k : Nat) (hr3 : hr ≤ 3) (hp : 0 < per) (g1 : 1 ≤ dg) (hg : per ≤ 10 ^ dg) (g3 : dg ≤ 3) (hh : k / per / 3600 < 1000) : 1 ≤ (dialL hr mk per dg k).length ∧ (dialL hr mk per dg k).length ≤ 100 := by
  have m1 : k % per < per := Nat.mod_lt _ hp
  have u := dd_len 2 (k / per / 3600) (by omega)
  unfold dialL
  simp only [List.length_append, List.length_cons, List.length_nil]
  rw [pad_two _ (by omega), pad_two _ (by omega), pad_dg _ _ g1 (by omega), pad_len]
  omega
/-- A time on the grid: its number is what Clock writes. -/
theorem grid_back (k per : Nat) (hp : 1 ≤ per ∧ per ≤ 1000) (hk : k ≤ 360000 * per) :
    ∃ (t : Rt) (g : Nat), newA k per = (t, 0) ∧ timeA t = 0 ∧ RtIn t ∧ mulA t ⟨per, 1⟩ = (⟨k, 1⟩, 0) ∧ clkT k per = (t, 0) ∧ 0 < g ∧ (g : Int) * t.N = k ∧ (g : Int) * t.D = per := by
  obtain ⟨e1, e2⟩ := time_low k per (by omega) (by omega)
  have c : (k : Int) ≤ 360000 * (per : Int) := by omega
  rw [if_pos c] at e2
  obtain ⟨g, hg⟩ : ∃ g : Nat, (k : Int).natAbs.gcd (per : Int).natAbs = g := ⟨_, rfl⟩
  have g0 : 0 < g := by rw [← hg]; exact Nat.gcd_pos_of_pos_right _ (by omega)
  have d1 : (g : Int) * ((k : Int) / g) = k := Int.mul_ediv_cancel' (by rw [← hg]; exact Int.ofNat_dvd_left.2 (Nat.gcd_dvd_left _ _))
  have d2 : (g : Int) * ((per : Int) / g) = per := Int.mul_ediv_cancel' (by rw [← hg]; exact Int.ofNat_dvd_left.2 (Nat.gcd_dvd_right _ _))
  have hi : RtIn (newA k per).1 := by
    unfold newA
    rw [if_neg (by omega)]
    exact low_in _
  rw [e1] at hi
  have hc : clkT k per = (⟨(k : Int) / ((k : Int).natAbs.gcd (per : Int).natAbs : Nat), (per : Int) / ((k : Int).natAbs.gcd (per : Int).natAbs : Nat)⟩, 0) := by
    unfold clkT
    rw [if_pos c]
  rw [hg] at e1 e2 hi hc
  refine ⟨_, g, e1, e2, hi, ?_, hc, g0, d1, d2⟩
  obtain ⟨m1, m2, m3⟩ := mul_gridS ⟨(k : Int) / g, (per : Int) / g⟩ per e2 (by omega)
  have dv : (per : Int) % ((per : Int) / g) = 0 := Int.emod_eq_zero_of_dvd ⟨g, by rw [Int.mul_comm]; exact d2.symm⟩
  have D1 := m2.2 dv
  have N1 := m3 dv
  have pp : 0 < (per : Int) / g := by
    refine Int.lt_of_not_ge fun x => ?_
    have : (g : Int) * ((per : Int) / g) ≤ g * 0 := Int.mul_le_mul_of_nonneg_left x (by omega)
    omega
  have q : (per : Int) / ((per : Int) / g) = g := by
    conv => lhs; lhs; rw [← d2]
    exact Int.mul_ediv_cancel _ (by omega)
  simp only at N1 D1 m1
  rw [q, Int.mul_comm, d1] at N1
  rw [show mulA ⟨(k : Int) / g, (per : Int) / g⟩ ⟨per, 1⟩ = (⟨(mulA ⟨(k : Int) / g, (per : Int) / g⟩ ⟨per, 1⟩).1.N, (mulA ⟨(k : Int) / g, (per : Int) / g⟩ ⟨per, 1⟩).1.D⟩, (mulA ⟨(k : Int) / g, (per : Int) / g⟩ ⟨per, 1⟩).2) from rfl, N1, D1, m1]
theorem cmp_gridS (t u : Rt) (g h : Nat) (k m per : Int) (g0 : 0 < g) (h0 : 0 < h) (p0 : 0 < per) (a1 : (g : Int) * t.N = k) (a2 : (g : Int) * t.D = per) (b1 : (h : Int) * u.N = m) (b2 : (h : Int) * u.D = per) : (cmpI t u < 0 ↔ k < m) := by
  have e1 : (g : Int) * h * (t.N * u.D) = k * per := by
    rw [← a1, ← b2]
    simp only [Int.mul_assoc, Int.mul_left_comm, Int.mul_comm]
  have e2 : (g : Int) * h * (u.N * t.D) = m * per := by
    rw [← b1, ← a2]
    simp only [Int.mul_assoc, Int.mul_left_comm, Int.mul_comm]
  have gh : 0 < (g : Int) * h := Int.mul_pos (by omega) (by omega)
  have key : t.N * u.D < u.N * t.D ↔ k < m := by
    constructor
    · intro x
      have := Int.mul_lt_mul_of_pos_left x gh
      rw [e1, e2] at this
      exact Int.lt_of_mul_lt_mul_right this (Int.le_of_lt p0)
    · intro x
      have := Int.mul_lt_mul_of_pos_right x p0
      rw [← e1, ← e2] at this
      exact Int.lt_of_mul_lt_mul_left this (Int.le_of_lt gh)
  rw [← key]
  unfold cmpI
  split
  · rename_i c
    exact ⟨fun _ => c, fun _ => by decide⟩
  · rename_i c
    constructor
    · intro x
      split at x <;> omega
    · intro x
      exact absurd x c
theorem clock_at (fm : Int) (hr per dg k : Nat) (mk : UInt8) (ds : Bool) (t : Rt) (hh : hr ≤ 3) (hdg : dg ≤ 3) (hp : 0 < per ∧ per ≤ 1000) (hk : k ≤ 1000000000000) (t0 : timeA t = 0) (ti : RtIn t) (tm : mulA t ⟨per, 1⟩ = (⟨k, 1⟩, 0))
    (HO : ∀ w, Calls Tryz.prog 24 #[.int .i64 fm] w fun e w' => e = .returned (.tuple #[.agg #[.int .i64 (hr : Nat), .int .u8 mk.toNat, .int .i64 (per : Nat), .int .i64 (dg : Nat), .bool ds], .bool true]) ∧ Below w.heap.size w w') (w : World) (hpw : PowAt w) :
    Calls Tryz.prog 17 #[.int .i64 fm, rtv t] w fun e w' => e = .returned (.tuple #[.string (bs (dialL hr mk per dg k)), .int .i64 0]) ∧ Below w.heap.size w w' := by
  have HT := time_any t ti
  rw [t0] at HT
  have HM := mul_any t ⟨per, 1⟩ ti ⟨⟨by simp only; omega, by simp only; omega⟩, ⟨by simp, by simp⟩⟩
  rw [tm] at HM
  exact clock_walk fm t.N t.D _ _ _ _ k ds _ w HO HT HM (fun w1 b1 => write_any hr mk per dg k ds hh hdg hp.1 hk w1 (hpw.keep b1))
/-- What RateText writes. -/
def rateL (n d : Nat) (dr : Bool) : List UInt8 := decDigits n ++ (tailR (if d = 1 then none else some (decDigits d)) ++ lastR dr)
theorem whl_dd (n : Nat) (h0 : 0 < n) (h : n < 1000000000) : WhL (decDigits n) :=
  ⟨dd_all n, dd_pos n, dd_len 8 n (by omega), fun _ => dd_head n h0⟩
theorem rateL_form (n d : Nat) (dr : Bool) (hn : 0 < n ∧ n < 1000000000) (hd : 0 < d ∧ d < 1000000000) : rateA (rateL n d dr) = (((n : Int), (d : Int), dr), true) := by
  have F : FormR (rateL n d dr) (decDigits n) (if d = 1 then none else some (decDigits d)) dr := by
    refine ⟨rfl, whl_dd n hn.1 hn.2, fun b hb => ?_⟩
    by_cases e : d = 1
    · rw [if_pos e] at hb
      cases hb
    · rw [if_neg e] at hb
      obtain rfl := Option.some.inj hb
      exact ⟨whl_dd d hd.1 hd.2, by rw [dd_val]; omega⟩
  rw [formR_code F, dd_val]
  by_cases e : d = 1
  · rw [if_pos e, e]
    rfl
  · rw [if_neg e]
    simp only [denR, dd_val]
theorem dd_len6 (x : Nat) (hx : x ≤ 9223372036854775807) : (decDigits x).length ≤ 100 := by
  have := Lib.itoa_length_le (x : Int) (by omega) (by omega)
  rw [itoa_nat] at this
  omega
theorem drop_den {n d : Int} (h : checkI n d true = 0) : ¬ d = 1 := fun e1 => by
  unfold checkI at h
  by_cases c : 1 ≤ n ∧ n ≤ 240000 ∧ 1 ≤ d ∧ d ≤ 1001 ∧ d ≤ n ∧ n ≤ d * 240 ∧ rightB ⟨n, d⟩ = true ∧ (true = true → leftI n d ≠ 0)
  · have := c.2.2.2.2.2.2.2 rfl
    unfold leftI at this
    rw [if_neg (by omega), if_neg (by omega)] at this
    exact this rfl
  · rw [if_neg c] at h
    cases h
theorem rtext_ok (n d : Nat) (dr : Bool) (h : checkI n d dr = 0) (w : World) (hp : PowAt w) :
    Calls Tryz.prog 19 #[.agg #[.int .i64 n, .int .i64 d, .bool dr]] w fun e w' => e = .returned (.tuple #[.string (bs (rateL n d dr)), .int .i64 0]) ∧ Below w.heap.size w w' := by
  obtain ⟨n1, d1, _, _, _⟩ := full_ok n d dr h
  have H1 := check_any n d dr ⟨by omega, by omega⟩ ⟨by omega, by omega⟩
  rw [h] at H1
  have I1 := fun (w0 : World) (b0 : Below w.heap.size w w0) => itoa_any n (by omega) w0 (hp.keep b0)
  have I2 := fun (w0 : World) (b0 : Below w.heap.size w w0) => itoa_any d (by omega) w0 (hp.keep b0)
  have la := dd_len6 n (by omega)
  have lb := dd_len6 d (by omega)
  by_cases e1 : d = 1
  · cases dr
    · have := rt_onef n _ w (by subst e1; exact H1) I1
      subst e1
      unfold rateL tailR lastR
      simp only [if_true, Bool.false_eq_true, if_false, List.append_nil]
      exact this
    · exact absurd (by omega) (drop_den h)
  · have e2 : ((d : Int) != 1) = true := by rw [bne_iff_ne]; omega
    cases dr
    · have := rt_twof n d _ la _ lb e2 w H1 I1 I2
      unfold rateL tailR lastR
      rw [if_neg e1]
      simp only [Bool.false_eq_true, if_false, List.append_nil]
      refine this.mono ?_
      rintro e w' ⟨rfl, b⟩
      refine ⟨?_, b⟩
      simp
    · have := rt_twot n d _ la _ lb e2 w H1 I1 I2
      unfold rateL tailR lastR
      rw [if_neg e1]
      simp only [if_true]
      refine this.mono ?_
      rintro e w' ⟨rfl, b⟩
      refine ⟨?_, b⟩
      simp
end Go.Proofs.YtaipdckakgohjaaGreatDoor

/- surtitlelaw5's within, two, three. -/
namespace Go.Proofs.YtaipdckakgohjaaGreatDoor
open Go.RowKit Go.Shelf
attribute [local go_sem] Oper.semAt_some

theorem pad2 (n : Nat) (h : n < 100) : padL n 2 = [UInt8.ofNat (48 + n / 10), UInt8.ofNat (48 + n % 10)] := by
  have e : moreD n 2 = padL n 2 := if_neg (by omega)
  have z : moreD 0 0 = [] := if_pos ⟨rfl, rfl⟩
  rw [← e, more_step n 2 (by omega), more_step (n / 10) 1 (by omega), show n / 10 / 10 = 0 by omega, show 2 - 1 - 1 = 0 from rfl, z, show n / 10 % 10 = n / 10 by omega]
  rfl
theorem pad3 (n : Nat) (h : n < 1000) : padL n 3 = [UInt8.ofNat (48 + n / 100), UInt8.ofNat (48 + n / 10 % 10), UInt8.ofNat (48 + n % 10)] := by
  have e : moreD n 3 = padL n 3 := if_neg (by omega)
  have z : moreD 0 0 = [] := if_pos ⟨rfl, rfl⟩
  rw [← e, more_step n 3 (by omega), more_step (n / 10) 2 (by omega), more_step (n / 10 / 10) 1 (by omega), show n / 10 / 10 / 10 = 0 by omega, show 3 - 1 - 1 - 1 = 0 from rfl, z, show n / 10 / 10 % 10 = n / 100 by omega]
  rfl
set_option maxRecDepth 100000 in
theorem conv2 (V : World) (b : Nat) (y z : Int) (h0 : V.cell? ⟨b, 0, none⟩ = some (.int .u8 y)) (h1 : V.cell? ⟨b, 1, none⟩ = some (.int .u8 z)) :
    (convert 79 9 (.slice (some ⟨b, 0, none⟩) 2 2)).run Tryz.prog V = .ok (.string (bs [UInt8.ofNat y.toNat, UInt8.ofNat z.toNat])) V := by
  rw [run_convert_bytes_string V _ _ 5 _ _ _ (by kernel_rfl) (by kernel_rfl) (by kernel_rfl), run_bytesToString V ⟨b, 0, none⟩ 2 2 [y, z] (by go_simp)]
  rfl
set_option maxRecDepth 100000 in
theorem conv3 (V : World) (b : Nat) (x y z : Int) (h0 : V.cell? ⟨b, 0, none⟩ = some (.int .u8 x)) (h1 : V.cell? ⟨b, 1, none⟩ = some (.int .u8 y)) (h2 : V.cell? ⟨b, 2, none⟩ = some (.int .u8 z)) :
    (convert 79 9 (.slice (some ⟨b, 0, none⟩) 3 3)).run Tryz.prog V = .ok (.string (bs [UInt8.ofNat x.toNat, UInt8.ofNat y.toNat, UInt8.ofNat z.toNat])) V := by
  rw [run_convert_bytes_string V _ _ 5 _ _ _ (by kernel_rfl) (by kernel_rfl) (by kernel_rfl), run_bytesToString V ⟨b, 0, none⟩ 3 3 [x, y, z] (by go_simp)]
  rfl
set_option maxRecDepth 100000 in
theorem within_any (a m : Int) (hm : 0 < m ∧ m ≤ 1000000000) (w : World) :
    Calls Tryz.prog 13 #[.int .i64 a, .int .i64 m] w fun e w' => e = .returned (.int .i64 (a % m)) ∧ w' = w := by
  obtain ⟨t, ht⟩ : ∃ t, a.tmod m = t := ⟨_, rfl⟩
  have zt : ∀ w, (Op.intDiv .rem .i64 a m).run Tryz.prog w = .ok (.int .i64 t) w := fun w => by
    unfold Op.intDiv
    rw [if_neg (by omega), ht]
    rfl
  have m0 := Int.emod_nonneg a (show m ≠ 0 by omega)
  have m1 := Int.emod_lt_of_pos a hm.1
  have tm : a % m = if t < 0 then t + m else t := by
    rw [← ht]
    by_cases c : 0 ≤ a
    · have e := Int.tmod_eq_emod_of_nonneg (b := m) c
      rw [e, if_neg (by omega)]
    · have e := Int.tmod_eq_emod (a := a) (b := m)
      have na : (m.natAbs : Int) = m := by omega
      by_cases dv : m ∣ a
      · rw [if_pos (.inr dv)] at e
        have : a % m = 0 := Int.emod_eq_zero_of_dvd dv
        rw [e, this]
        simp
      · rw [if_neg (fun x => x.elim c dv)] at e
        have : a % m ≠ 0 := fun x => dv (Int.dvd_of_emod_eq_zero x)
        rw [e, if_pos (by omega)]
        omega
  have tb : -1000000000 ≤ t ∧ t ≤ 1000000000 := by
    by_cases c : t < 0
    · rw [if_pos c] at tm; omega
    · rw [if_neg c] at tm; omega
  rw [tm]
  clear tm m0 m1
  by_cases c : t < 0
  · rw [if_pos c]
    go_enter Tryz.func13, Tryz.ntmps13
    go_wp2_with fail
    go_ret
    exact ⟨rfl, rfl⟩
  · rw [if_neg c]
    go_enter Tryz.func13, Tryz.ntmps13
    go_wp2_with fail
    go_ret
    exact ⟨rfl, rfl⟩
end Go.Proofs.YtaipdckakgohjaaGreatDoor
