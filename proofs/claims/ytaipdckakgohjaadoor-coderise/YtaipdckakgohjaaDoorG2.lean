/- Several texts, one behind the other. -/
import Derived.Lib.ItoaMem
import Derived.Test.YtaipdckakgohjaaDoorCRefH
import Derived.Test.YtaipdckakgohjaaDoorCdB
import Derived.Test.YtaipdckakgohjaaDoorGS
/- The digits of a number, read again (as BackM, without the texts of Parse). -/
namespace Go.Proofs.YtaipdckakgohjaaDoor
open Go.Lib (decDigits)

theorem dig_of (d : Nat) (h : d < 10) : isDig (UInt8.ofNat (48 + d)) = true ∧ (UInt8.ofNat (48 + d)).toNat = 48 + d := by
  have e : (UInt8.ofNat (48 + d)).toNat = 48 + d := by rw [UInt8.toNat_ofNat']; omega
  exact ⟨by unfold isDig; rw [e]; exact decide_eq_true ⟨by omega, by omega⟩, e⟩
theorem dd_all (u : Nat) : (decDigits u).all isDig = true := by
  induction u using Nat.strongRecOn with
  | _ u ih =>
    rw [decDigits]
    split
    · rename_i h
      rw [List.all_cons, List.all_nil, (dig_of u h).1]
      rfl
    · rw [List.all_append, ih (u / 10) (by omega), List.all_cons, List.all_nil, (dig_of (u % 10) (by omega)).1]
      rfl
theorem dd_val (u : Nat) : valN (decDigits u) = u := by
  induction u using Nat.strongRecOn with
  | _ u ih =>
    rw [decDigits]
    split
    · rename_i h
      show 0 * 10 + ((UInt8.ofNat (48 + u)).toNat - 48) = u
      rw [(dig_of u h).2]
      omega
    · rename_i h
      have := ih (u / 10) (by omega)
      unfold valN at this ⊢
      rw [List.foldl_append, this]
      simp only [List.foldl_cons, List.foldl_nil]
      rw [(dig_of (u % 10) (by omega)).2]
      omega
theorem dd_ne (u : Nat) : decDigits u ≠ [] := by
  rw [decDigits]
  split <;> simp
theorem dd_head (u : Nat) (h0 : 0 < u) : (decDigits u).head? ≠ some 48 := by
  induction u using Nat.strongRecOn with
  | _ u ih =>
    rw [decDigits]
    split
    · rename_i h
      intro e
      have e2 := congrArg UInt8.toNat (Option.some.inj (show some (UInt8.ofNat (48 + u)) = some 48 from e))
      rw [(dig_of u h).2, show (48 : UInt8).toNat = 48 from rfl] at e2
      omega
    · rename_i h
      have := ih (u / 10) (by omega) (by omega)
      cases hd : decDigits (u / 10) with
      | nil => exact absurd hd (dd_ne _)
      | cons x t =>
        rw [hd] at this
        exact this
theorem dd_len : ∀ (k u : Nat), u < 10 ^ (k + 1) → (decDigits u).length ≤ k + 1
  | 0, u, h => by rw [decDigits, dif_pos (by simpa using h)]; simp
  | k + 1, u, h => by
    rw [decDigits]
    split
    · simp
    · have := dd_len k (u / 10) (by rw [Nat.pow_succ] at h; omega)
      simp
      omega
end Go.Proofs.YtaipdckakgohjaaDoor

/- Package code: what is written is read again; a frame's number has that frame: mathematics. -/
namespace Go.Proofs.YtaipdckakgohjaaDoor
open Go.RowKit Go.Shelf
open Go.Lib (decDigits)

theorem pad_len (n k : Nat) : (padL n k).length = max k (decDigits n).length := by
  unfold padL
  rw [List.length_append, List.length_replicate]
  omega
theorem pad_all (n k : Nat) : (padL n k).all isDig = true := by
  unfold padL
  rw [List.all_append, dd_all, Bool.and_true, List.all_eq_true]
  intro c hc
  rw [List.eq_of_mem_replicate hc]
  rfl
theorem valN_pad (j : Nat) (l : List UInt8) : valN (List.replicate j 48 ++ l) = valN l := by
  induction j with
  | zero => rfl
  | succ j ih =>
    rw [List.replicate_succ]
    exact ih
theorem pad_val (n k : Nat) : valN (padL n k) = n := by
  unfold padL
  rw [valN_pad, dd_val]
theorem pad_dig (n k : Nat) : digA (padL n k) = ((n : Int), true) := by
  unfold digA
  rw [if_pos (pad_all n k), pad_val]
theorem dd_pos (n : Nat) : 1 ≤ (decDigits n).length := by
  have := dd_ne n
  cases h : decDigits n with
  | nil => exact absurd h this
  | cons a t => simp
theorem pad_two (n : Nat) (h : n < 100) : (padL n 2).length = 2 := by
  rw [pad_len]
  have := dd_len 1 n (by simpa using h)
  omega
theorem pad_dg (n dg : Nat) (h0 : 1 ≤ dg) (h : n < 10 ^ dg) : (padL n dg).length = dg := by
  rw [pad_len]
  obtain ⟨k, rfl⟩ : ∃ k, dg = k + 1 := ⟨dg - 1, by omega⟩
  have := dd_len k n h
  omega
theorem has_colon (a : List UInt8) : Lib.hasSuffix (a ++ [58]) [58] = true ∧ Lib.trimSuffix (a ++ [58]) [58] = a := by
  have h : Lib.hasSuffix (a ++ [58]) [58] = true := by
    unfold Lib.hasSuffix
    rw [List.isSuffixOf_iff_suffix]
    exact List.suffix_append _ _
  refine ⟨h, ?_⟩
  unfold Lib.trimSuffix
  rw [if_pos h]
  simp
theorem hours_pad (hours h : Nat) (short : Bool) (h1 : 1 ≤ hours) (h3 : hours ≤ 3) (hh : h < 1000) : hoursA hours short (padL h hours ++ [58]) = ((h : Int), true) := by
  unfold hoursA
  rw [if_neg (by simp), (has_colon _).1, (has_colon _).2, pad_dig]
  rw [if_neg]
  have e := pad_len h hours
  have e2 := dd_len 2 h (by simpa using hh)
  rintro (c | c | c | ⟨c, d⟩)
  · cases c
  · omega
  · omega
  · unfold padL at c d
    have z : hours - (decDigits h).length = 0 := by
      rw [List.length_append, List.length_replicate] at c
      omega
    rw [z] at d
    have : 0 < h := by
      refine Nat.pos_of_ne_zero fun h0 => ?_
      subst h0
      rw [List.length_append, List.length_replicate] at c
      have : (decDigits 0).length = 1 := by rw [dd_few 0 (by omega)]; rfl
      omega
    exact dd_head h this d
/-- A text of a dial's form is read as its four numbers say. -/
theorem read_form (hours per dg : Nat) (mark : UInt8) (short : Bool) (a b c d : List UInt8) (va vb vc vd : Int) (lb : b.length = 2) (lc : c.length = 2) (ld : d.length = dg) (ha : hoursA hours short a = (va, true)) (hb : digA b = (vb, true)) (hc : digA c = (vc, true)) (hd : digA d = (vd, true)) (b1 : vb < 60) (c1 : vc < 60) (d1 : vd < per) :
    readA hours mark per dg short (a ++ (b ++ ([58] ++ (c ++ ([mark] ++ d))))) = (((va * 60 + vb) * 60 + vc) * per + vd, true) := by
  have hl : (a ++ (b ++ ([58] ++ (c ++ ([mark] ++ d))))).length = a.length + (6 + dg) := by
    simp only [List.length_append, List.length_cons, List.length_nil, lb, lc, ld]
    omega
  unfold readA
  rw [hl, show a.length + (6 + dg) - 6 - dg = a.length by omega, if_neg (by omega)]
  have t1 : (a ++ (b ++ ([58] ++ (c ++ ([mark] ++ d))))).take a.length = a := List.take_left' rfl
  have t2 : (a ++ (b ++ ([58] ++ (c ++ ([mark] ++ d))))).drop a.length = b ++ ([58] ++ (c ++ ([mark] ++ d))) := List.drop_left' rfl
  have t3 : (b ++ ([58] ++ (c ++ ([mark] ++ d)))).take 2 = b := List.take_left' lb
  have t4 : (a ++ (b ++ ([58] ++ (c ++ ([mark] ++ d))))).drop (a.length + 2) = [58] ++ (c ++ ([mark] ++ d)) := by
    rw [← List.drop_drop, t2]
    exact List.drop_left' lb
  have t5 : (a ++ (b ++ ([58] ++ (c ++ ([mark] ++ d))))).drop (a.length + 3) = c ++ ([mark] ++ d) := by
    rw [show a.length + 3 = (a.length + 2) + 1 by omega, ← List.drop_drop, t4]
    rfl
  have t6 : (c ++ ([mark] ++ d)).take 2 = c := List.take_left' lc
  have t7 : (a ++ (b ++ ([58] ++ (c ++ ([mark] ++ d))))).drop (a.length + 5) = [mark] ++ d := by
    rw [show a.length + 5 = (a.length + 3) + 2 by omega, ← List.drop_drop, t5]
    exact List.drop_left' lc
  have t8 : (a ++ (b ++ ([58] ++ (c ++ ([mark] ++ d))))).drop (a.length + 6) = d := by
    rw [show a.length + 6 = (a.length + 5) + 1 by omega, ← List.drop_drop, t7]
    rfl
  rw [t1, t2, t3, t4, t5, t6, t7, t8, ha, hb, hc, hd, if_neg (by simp), if_pos (by simp [b1, c1, d1])]
theorem read_dial (hours per dg n : Nat) (mark : UInt8) (short : Bool) (h1 : 1 ≤ hours) (h3 : hours ≤ 3) (hp : 0 < per) (g1 : 1 ≤ dg) (hg : per ≤ 10 ^ dg) (hh : n / per / 3600 < 1000) :
    readA hours mark per dg short (dialL hours mark per dg n) = ((n : Int), true) := by
  unfold dialL
  have m1 : n % per < per := Nat.mod_lt _ hp
  have e := read_form hours per dg mark short (padL (n / per / 3600) hours ++ [58]) (padL (n / per / 60 % 60) 2) (padL (n / per % 60) 2) (padL (n % per) dg) _ _ _ _ (pad_two _ (by omega)) (pad_two _ (by omega)) (pad_dg _ _ g1 (by omega)) (hours_pad hours _ short h1 h3 hh) (pad_dig _ _) (pad_dig _ _) (pad_dig _ _) (by omega) (by omega) (by omega)
  simp only [List.append_assoc] at e ⊢
  rw [e]
  have d1 : per * (n / per) + n % per = n := Nat.div_add_mod n per
  have d2 : (n / per / 3600 * 60 + n / per / 60 % 60) * 60 + n / per % 60 = n / per := by omega
  refine Prod.ext ?_ rfl
  show ((((n / per / 3600 : Nat) : Int) * 60 + ((n / per / 60 % 60 : Nat) : Int)) * 60 + ((n / per % 60 : Nat) : Int)) * (per : Int) + ((n % per : Nat) : Int) = (n : Int)
  rw [show (((n / per / 3600 : Nat) : Int) * 60 + ((n / per / 60 % 60 : Nat) : Int)) * 60 + ((n / per % 60 : Nat) : Int) = ((n / per : Nat) : Int) by omega, Int.mul_comm]
  exact_mod_cast d1
theorem num_parts (f l fr : Int) (h : Full f l) (h0 : 0 ≤ fr) : ∃ q j x : Int, q = fr / (600 * f - 9 * l) ∧ 0 ≤ q ∧ 0 ≤ j ∧ j ≤ 9 ∧ numI f l fr = (10 * q + j) * (60 * f) + x ∧ 0 ≤ x ∧ x < 60 * f ∧ (j = 0 ∨ l ≤ x) ∧ fr = (10 * q + j) * (60 * f) + x - l * (9 * q + j) := by
  obtain ⟨f1, f2, l1, l2⟩ := h
  have T0 : 0 < 600 * f - 9 * l := by omega
  have dm := Int.mul_ediv_add_emod fr (600 * f - 9 * l)
  have r0 := Int.emod_nonneg fr (show 600 * f - 9 * l ≠ 0 by omega)
  have r1 := Int.emod_lt_of_pos fr T0
  have q0 : 0 ≤ fr / (600 * f - 9 * l) := Int.ediv_nonneg h0 (by omega)
  unfold numI
  generalize fr / (600 * f - 9 * l) = q at *
  generalize fr % (600 * f - 9 * l) = r at *
  have e1 : (600 * f - 9 * l) * q = 600 * (f * q) - 9 * (l * q) := by rw [Int.sub_mul, Int.mul_assoc, Int.mul_assoc]
  have e2 : q * 10 * (60 * f) = 600 * (f * q) := by grind
  by_cases c : 60 * f ≤ r
  · have S0 : 0 < 60 * f - l := by omega
    have dm2 := Int.mul_ediv_add_emod (r - 60 * f) (60 * f - l)
    have x0 := Int.emod_nonneg (r - 60 * f) (show 60 * f - l ≠ 0 by omega)
    have x1 := Int.emod_lt_of_pos (r - 60 * f) S0
    have k0 : 0 ≤ (r - 60 * f) / (60 * f - l) := Int.ediv_nonneg (by omega) (by omega)
    have k8 : (r - 60 * f) / (60 * f - l) < 9 := Int.ediv_lt_of_lt_mul S0 (by omega)
    rw [if_pos c]
    generalize (r - 60 * f) / (60 * f - l) = k at *
    generalize (r - 60 * f) % (60 * f - l) = x at *
    have e3 : (60 * f - l) * k = 60 * (f * k) - l * k := by rw [Int.sub_mul, Int.mul_assoc]
    have e4 : l * (1 + k) = l + l * k := by rw [Int.mul_add, Int.mul_one]
    have e5 : (10 * q + (1 + k)) * (60 * f) = 600 * (f * q) + 60 * f + 60 * (f * k) := by grind
    have e6 : l * (9 * q + (1 + k)) = 9 * (l * q) + l + l * k := by grind
    refine ⟨q, 1 + k, x + l, rfl, q0, by omega, by omega, ?_, by omega, by omega, .inr (by omega), ?_⟩
    · omega
    · omega
  · rw [if_neg c]
    have e5 : (10 * q + 0) * (60 * f) = 600 * (f * q) := by grind
    have e6 : l * (9 * q + 0) = 9 * (l * q) := by grind
    refine ⟨q, 0, r, rfl, q0, by omega, by omega, ?_, by omega, by omega, .inl rfl, ?_⟩
    · omega
    · omega
theorem num_back (f l fr : Int) (h : Full f l) (h0 : 0 ≤ fr) : skipB f l (numI f l fr) = false ∧ frmI f l (numI f l fr) = fr := by
  obtain ⟨q, j, x, _, q0, j0, j9, hN, x0, x1, jl, hf⟩ := num_parts f l fr h h0
  obtain ⟨f1, f2, l1, l2⟩ := h
  have u := (Int.ediv_emod_unique (show 0 < 60 * f by omega) (a := numI f l fr) (r := x) (q := 10 * q + j)).2 ⟨by rw [hN, Int.mul_comm (60 * f)]; omega, x0, x1⟩
  unfold skipB frmI
  rw [u.1, u.2, show (10 * q + j) % 10 = j by omega, show 10 * q + j - (10 * q + j) / 10 = 9 * q + j by omega]
  refine ⟨decide_eq_false fun y => ?_, by rw [hN]; omega⟩
  rcases jl with e | e
  · exact y.1 e
  · omega
theorem num_hours (f l fr : Int) (h : Full f l) (h0 : 0 ≤ fr) (hb : fr ≤ 360000 * f) : (numI f l fr).toNat / f.toNat / 3600 < 1000 ∧ 0 ≤ numI f l fr := by
  obtain ⟨q, j, x, hq, q0, j0, j9, hN, x0, x1, _, _⟩ := num_parts f l fr h h0
  obtain ⟨f1, f2, l1, l2⟩ := h
  have q1 : q ≤ 639 := by
    rw [hq]
    refine Int.le_of_lt_add_one (Int.ediv_lt_of_lt_mul (by omega) ?_)
    omega
  have y0 : 0 ≤ (10 * q + j) * (60 * f) := Int.mul_nonneg (by omega) (by omega)
  have y : (10 * q + j) * (60 * f) ≤ 6399 * (60 * f) := Int.mul_le_mul_of_nonneg_right (by omega) (by omega)
  have z : numI f l fr < 384000 * f := by rw [hN]; omega
  have z0 : 0 ≤ numI f l fr := by rw [hN]; omega
  refine ⟨?_, z0⟩
  have : (numI f l fr).toNat / f.toNat < 384000 := Nat.div_lt_of_lt_mul (by omega)
  omega
theorem frame_few (n d fr : Int) (dr : Bool) (h : checkI n d dr = 0) (hb : fr * d ≤ 360000 * n) : fr ≤ 360000 * fullI n d := by
  obtain ⟨n1, d1, _, nd, hF⟩ := full_ok n d dr h
  have e := Int.mul_ediv_add_emod (n + d - 1) d
  have r1 := Int.emod_lt_of_pos (n + d - 1) (show 0 < d by omega)
  have k : n ≤ d * fullI n d := by unfold fullI; omega
  have y : fr * d ≤ (360000 * fullI n d) * d := by
    rw [Int.mul_assoc, Int.mul_comm (fullI n d) d]
    omega
  exact Int.le_of_mul_le_mul_right y (by omega)
/-- A frame's label has its number. -/
theorem label_back (n d : Int) (dr : Bool) (fr : Int) (h : checkI n d dr = 0) (hb : 0 ≤ fr ∧ fr * d ≤ 360000 * n) : numF n d dr (labelF n d dr fr) = (fr, 0) := by
  obtain ⟨n1, d1, _, nd, hF⟩ := full_ok n d dr h
  have f1 := hF.1
  have f2 := hF.2.1
  have hh := num_hours _ _ fr hF hb.1 (frame_few n d fr dr h hb.2)
  have nb := num_back _ _ fr hF hb.1
  unfold numF labelF readF
  rw [if_pos h, read_dial 2 _ _ _ _ false (by omega) (by omega) (by omega) (by split <;> omega) (by split <;> omega) hh.1]
  unfold toldF
  have e : (((numI (fullI n d) (if dr = true then leftI n d else 0) fr).toNat : Nat) : Int) = numI (fullI n d) (if dr = true then leftI n d else 0) fr := Int.toNat_of_nonneg hh.2
  rw [if_neg (by simp)]
  show (if skipB _ _ (((numI (fullI n d) (if dr = true then leftI n d else 0) fr).toNat : Nat) : Int) = true then _ else _) = _
  simp only [e]
  rw [nb.1, nb.2, if_neg (by simp), if_pos hb]
end Go.Proofs.YtaipdckakgohjaaDoor

/- Package code: numbers rise with the frames, texts of digits with their numbers: mathematics. -/
namespace Go.Proofs.YtaipdckakgohjaaDoor
open Go.RowKit Go.Shelf

theorem num_rise (f l a b : Int) (h : Full f l) (h0 : 0 ≤ a) (hab : a < b) : numI f l a < numI f l b := by
  obtain ⟨q1, j1, x1, _, q10, j10, j19, hN1, x10, x11, jl1, hf1⟩ := num_parts f l a h h0
  obtain ⟨q2, j2, x2, _, q20, j20, j29, hN2, x20, x21, jl2, hf2⟩ := num_parts f l b h (by omega)
  obtain ⟨f1, f2, l1, l2⟩ := h
  rw [hN1, hN2]
  refine Int.lt_of_not_ge fun c => ?_
  obtain ⟨M1, hM1⟩ : ∃ M, 10 * q1 + j1 = M := ⟨_, rfl⟩
  obtain ⟨M2, hM2⟩ : ∃ M, 10 * q2 + j2 = M := ⟨_, rfl⟩
  rw [hM1] at c hf1
  rw [hM2] at c hf2
  by_cases e : M1 = M2
  · have eq : q1 = q2 := by omega
    have ej : j1 = j2 := by omega
    subst eq ej e
    omega
  · have gt : M2 < M1 := by
      refine Int.lt_of_not_ge fun y => ?_
      have : (M1 + 1) * (60 * f) ≤ M2 * (60 * f) := Int.mul_le_mul_of_nonneg_right (by omega) (by omega)
      rw [Int.add_mul] at this
      omega
    have qq : q2 ≤ q1 := by omega
    obtain ⟨D, hD⟩ : ∃ D, M1 - M2 = D := ⟨_, rfl⟩
    have e1 : M1 * (60 * f) = M2 * (60 * f) + D * (60 * f) := by rw [← Int.add_mul]; congr 1; omega
    obtain ⟨E, hE⟩ : ∃ E, (9 * q1 + j1) - (9 * q2 + j2) = E := ⟨_, rfl⟩
    have e2 : l * (9 * q1 + j1) = l * (9 * q2 + j2) + l * E := by rw [← Int.mul_add]; congr 1; omega
    have ED : E ≤ D := by omega
    have lE : l * E ≤ l * D := Int.mul_le_mul_of_nonneg_left ED l1
    by_cases d1 : D = 1
    · subst d1
      by_cases z : j1 = 0
      · have E0 : E = 0 := by omega
        subst E0
        omega
      · have x1l := jl1.resolve_left z
        omega
    · have d2 : 2 * (60 * f - l) ≤ D * (60 * f - l) := Int.mul_le_mul_of_nonneg_right (by omega) (by omega)
      have d3 : D * (60 * f - l) = D * (60 * f) - D * l := Int.mul_sub _ _ _
      have lD : l * D = D * l := Int.mul_comm _ _
      omega
theorem less_app (x y p q : List UInt8) (h : x.length = y.length) : Op.bytesLess (x ++ p) (y ++ q) = if x = y then Op.bytesLess p q else Op.bytesLess x y := by
  induction x generalizing y with
  | nil =>
    cases y with
    | nil => simp
    | cons b y => simp at h
  | cons a x ih =>
    cases y with
    | nil => simp at h
    | cons b y =>
      simp only [List.length_cons, Nat.add_right_cancel_iff] at h
      simp only [List.cons_append, Op.bytesLess, ih y h, List.cons.injEq]
      by_cases e : a = b
      · subst e
        by_cases e2 : x = y
        · subst e2
          simp
        · simp [e2]
      · simp [e, beq_eq_false_iff_ne.2 e]
theorem valN_cons (c : UInt8) (t : List UInt8) : valN (c :: t) = (c.toNat - 48) * 10 ^ t.length + valN t := by
  have g : ∀ (t : List UInt8) (a : Nat), t.foldl (fun n c => n * 10 + (c.toNat - 48)) a = a * 10 ^ t.length + valN t := by
    intro t
    induction t with
    | nil => intro a; simp [valN]
    | cons c t ih =>
      intro a
      unfold valN
      rw [List.foldl_cons, List.foldl_cons, ih, ih, List.length_cons, Nat.pow_succ]
      grind
  unfold valN
  rw [List.foldl_cons, g]
  simp only [Nat.zero_mul, Nat.zero_add]
  rfl
theorem less_dig (x y : List UInt8) (h : x.length = y.length) (hx : x.all isDig = true) (hy : y.all isDig = true) : Op.bytesLess x y = decide (valN x < valN y) ∧ (x = y ↔ valN x = valN y) := by
  induction x generalizing y with
  | nil =>
    cases y with
    | nil => simp [Op.bytesLess]
    | cons b y => simp at h
  | cons a x ih =>
    cases y with
    | nil => simp at h
    | cons b y =>
      simp only [List.length_cons, Nat.add_right_cancel_iff] at h
      rw [List.all_cons, Bool.and_eq_true] at hx hy
      obtain ⟨i1, i2⟩ := ih y h hx.2 hy.2
      have ha : 48 ≤ a.toNat ∧ a.toNat ≤ 57 := of_decide_eq_true hx.1
      have hb : 48 ≤ b.toNat ∧ b.toNat ≤ 57 := of_decide_eq_true hy.1
      have vx := valN_lt x hx.2 x.length (Nat.le_refl _)
      have vy := valN_lt y hy.2 y.length (Nat.le_refl _)
      rw [List.take_length] at vx vy
      rw [valN_cons, valN_cons, h]
      rw [h] at vx
      have ab : a = b ↔ a.toNat = b.toNat := UInt8.toNat_inj.symm
      have lt : a < b ↔ a.toNat < b.toNat := UInt8.lt_iff_toNat_lt
      generalize 10 ^ y.length = P at *
      by_cases e : a.toNat = b.toNat
      · have e2 := ab.2 e
        subst e2
        refine ⟨?_, ?_⟩
        · simp only [Op.bytesLess, i1]
          simp
        · rw [List.cons.injEq, i2]
          constructor
          · rintro ⟨_, z⟩
            rw [z]
          · intro z
            exact ⟨rfl, by omega⟩
      · have ne : ¬ a = b := fun z => e (ab.1 z)
        by_cases c : a.toNat < b.toNat
        · have m : (a.toNat - 48 + 1) * P ≤ (b.toNat - 48) * P := Nat.mul_le_mul_right _ (by omega)
          rw [Nat.add_mul, Nat.one_mul] at m
          refine ⟨?_, ?_⟩
          · simp only [Op.bytesLess, lt.2 c, decide_true, Bool.true_or]
            exact (decide_eq_true (by omega)).symm
          · exact ⟨fun z => absurd (List.cons.inj z).1 ne, fun z => by omega⟩
        · have m : (b.toNat - 48 + 1) * P ≤ (a.toNat - 48) * P := Nat.mul_le_mul_right _ (by omega)
          rw [Nat.add_mul, Nat.one_mul] at m
          refine ⟨?_, ?_⟩
          · have nl : ¬ a < b := fun z => c (lt.1 z)
            simp only [Op.bytesLess, nl, decide_false, Bool.false_or, beq_eq_false_iff_ne.2 ne, Bool.false_and]
            exact (decide_eq_false (by omega)).symm
          · exact ⟨fun z => absurd (List.cons.inj z).1 ne, fun z => by omega⟩
theorem pad_less (a b k : Nat) (p q : List UInt8) (h : (padL a k).length = (padL b k).length) : Op.bytesLess (padL a k ++ p) (padL b k ++ q) = if a = b then Op.bytesLess p q else decide (a < b) := by
  obtain ⟨i1, i2⟩ := less_dig _ _ h (pad_all a k) (pad_all b k)
  rw [pad_val, pad_val] at i1 i2
  rw [less_app _ _ p q h, i1]
  by_cases e : a = b
  · rw [if_pos (i2.2 e), if_pos e]
  · rw [if_neg (fun x => e (i2.1 x)), if_neg e]
theorem one_less (c : UInt8) (p q : List UInt8) : Op.bytesLess ([c] ++ p) ([c] ++ q) = Op.bytesLess p q := by
  rw [less_app [c] [c] p q rfl, if_pos rfl]
/-- Texts of one length that a dial writes rise as their numbers do. -/
theorem dial_less (mk : UInt8) (per dg a b : Nat) (hp : 0 < per) (g1 : 1 ≤ dg) (hg : per ≤ 10 ^ dg) (hl : (dialL 2 mk per dg a).length = (dialL 2 mk per dg b).length) :
    Op.bytesLess (dialL 2 mk per dg a) (dialL 2 mk per dg b) = decide (a < b) := by
  have m1 : a % per < per := Nat.mod_lt _ hp
  have m2 : b % per < per := Nat.mod_lt _ hp
  have d1 : per * (a / per) + a % per = a := Nat.div_add_mod a per
  have d2 : per * (b / per) + b % per = b := Nat.div_add_mod b per
  have lm : ∀ x y : Nat, (padL (x % 60) 2).length = (padL (y % 60) 2).length := fun x y => by rw [pad_two _ (by omega), pad_two _ (by omega)]
  have lx : (padL (a % per) dg).length = (padL (b % per) dg).length := by rw [pad_dg _ _ g1 (by omega), pad_dg _ _ g1 (by omega)]
  unfold dialL at hl ⊢
  simp only [List.length_append, List.length_cons, List.length_nil, lm (a / per / 60) (b / per / 60), lm (a / per) (b / per), lx] at hl
  have lh : (padL (a / per / 3600) 2).length = (padL (b / per / 3600) 2).length := by omega
  have ex := pad_less (a % per) (b % per) dg [] [] lx
  rw [List.append_nil, List.append_nil] at ex
  simp only [List.append_assoc]
  rw [pad_less _ _ 2 _ _ lh, one_less, pad_less _ _ 2 _ _ (lm _ _), one_less, pad_less _ _ 2 _ _ (lm _ _), one_less, ex]
  generalize a % per = x at *
  generalize b % per = y at *
  generalize hA : a / per = A at *
  generalize hB : b / per = B at *
  by_cases e : A = B
  · subst e
    rw [if_pos rfl, if_pos rfl, if_pos rfl]
    by_cases z : x = y
    · subst z
      rw [if_pos rfl]
      exact (decide_eq_false (by omega)).symm
    · rw [if_neg z]
      exact decide_eq_decide.2 (by omega)
  · have key : a < b ↔ A < B := by
      rw [← d1, ← d2]
      constructor
      · intro h
        refine Nat.lt_of_not_le fun c => ?_
        have : per * (B + 1) ≤ per * A := Nat.mul_le_mul_left _ (by omega)
        rw [Nat.mul_add, Nat.mul_one] at this
        omega
      · intro h
        have : per * (A + 1) ≤ per * B := Nat.mul_le_mul_left _ (by omega)
        rw [Nat.mul_add, Nat.mul_one] at this
        omega
    have kd : decide (a < b) = decide (A < B) := decide_eq_decide.2 key
    rw [kd]
    split
    · split
      · split
        · omega
        · exact decide_eq_decide.2 (by omega)
      · exact decide_eq_decide.2 (by omega)
    · exact decide_eq_decide.2 (by omega)
theorem pad_hours (h : Nat) (hh : h < 1000) : (padL h 2).length = if h < 100 then 2 else 3 := by
  by_cases c : h < 100
  · rw [if_pos c, pad_two h c]
  · rw [if_neg c, pad_len]
    have u := dd_len 2 h (by simpa using hh)
    have v := valN_lt (Lib.decDigits h) (dd_all h) _ (Nat.le_refl _)
    rw [List.take_length, dd_val] at v
    have : 3 ≤ (Lib.decDigits h).length := by
      refine Nat.le_of_not_lt fun x => ?_
      have : (10 : Nat) ^ (Lib.decDigits h).length ≤ 10 ^ 2 := Nat.pow_le_pow_right (by omega) (by omega)
      omega
    omega
theorem dial_long (mk : UInt8) (per dg a b : Nat) (hp : 0 < per) (g1 : 1 ≤ dg) (hg : per ≤ 10 ^ dg) (ha : a / per / 3600 < 1000) (hb : b / per / 3600 < 1000) (hl : (dialL 2 mk per dg a).length ≠ (dialL 2 mk per dg b).length) :
    ((dialL 2 mk per dg a).length < (dialL 2 mk per dg b).length) = (a < b) := by
  have m1 : a % per < per := Nat.mod_lt _ hp
  have m2 : b % per < per := Nat.mod_lt _ hp
  have lm : ∀ x y : Nat, (padL (x % 60) 2).length = (padL (y % 60) 2).length := fun x y => by rw [pad_two _ (by omega), pad_two _ (by omega)]
  have lx : (padL (a % per) dg).length = (padL (b % per) dg).length := by rw [pad_dg _ _ g1 (by omega), pad_dg _ _ g1 (by omega)]
  unfold dialL at hl ⊢
  simp only [List.length_append, List.length_cons, List.length_nil, lm (a / per / 60) (b / per / 60), lm (a / per) (b / per), lx, pad_hours _ ha, pad_hours _ hb] at hl ⊢
  have mo : ∀ x y : Nat, x / per / 3600 < y / per / 3600 → x < y := fun x y h => by
    refine Nat.lt_of_not_le fun c => ?_
    have := Nat.div_le_div_right (c := 3600) (Nat.div_le_div_right (c := per) c)
    omega
  apply propext
  constructor
  · intro h
    apply mo
    split at h <;> split at h <;> omega
  · intro h
    have : ¬ b / per / 3600 < a / per / 3600 := fun x => by have := mo _ _ x; omega
    have nl : (if a / per / 3600 < 100 then 2 else 3) ≠ (if b / per / 3600 < 100 then 2 else 3) := fun x => hl (by rw [x])
    split at nl <;> split at nl <;> first | omega | (rw [if_pos (by assumption), if_neg (by assumption)]; omega)
end Go.Proofs.YtaipdckakgohjaaDoor
