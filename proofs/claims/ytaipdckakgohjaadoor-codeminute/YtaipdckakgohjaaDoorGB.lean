/- Several texts, one behind the other. -/
import Derived.Lib.ItoaMem
import Derived.Test.YtaipdckakgohjaaDoorCRefH
import Derived.Test.YtaipdckakgohjaaDoorCdB
import Derived.Test.YtaipdckakgohjaaDoorGS
/- The digits of a number, read again (as BackM, without the texts of Parse). -/
namespace Go.Proofs.YtaipdckakgohjaaDoor
open Go.Lib (decDigits)

theorem dig_of (d : Nat) (h : d < 10) : isDig (UInt8.ofNat (48 + d)) = true ∧ (UInt8.ofNat (48 + d)).toNat = 48 + d := by
  have e : (UInt8.ofNat (48 + d)).toNat = 48 + d := by rw [UInt8.toNat_ofNat']; omega
  exact ⟨by unfold isDig; rw [e]; exact decide_eq_true ⟨by omega, by omega⟩, e⟩
theorem dd_all (u : Nat) : (decDigits u).all isDig = true := by
  induction u using Nat.strongRecOn with
  | _ u ih =>
    rw [decDigits]
    split
    · rename_i h
      rw [List.all_cons, List.all_nil, (dig_of u h).1]
      rfl
    · rw [List.all_append, ih (u / 10) (by omega), List.all_cons, List.all_nil, (dig_of (u % 10) (by omega)).1]
      rfl
theorem dd_val (u : Nat) : valN (decDigits u) = u := by
  induction u using Nat.strongRecOn with
  | _ u ih =>
    rw [decDigits]
    split
    · rename_i h
      show 0 * 10 + ((UInt8.ofNat (48 + u)).toNat - 48) = u
      rw [(dig_of u h).2]
      omega
    · rename_i h
      have := ih (u / 10) (by omega)
      unfold valN at this ⊢
      rw [List.foldl_append, this]
      simp only [List.foldl_cons, List.foldl_nil]
      rw [(dig_of (u % 10) (by omega)).2]
      omega
theorem dd_ne (u : Nat) : decDigits u ≠ [] := by
  rw [decDigits]
  split <;> simp
theorem dd_head (u : Nat) (h0 : 0 < u) : (decDigits u).head? ≠ some 48 := by
  induction u using Nat.strongRecOn with
  | _ u ih =>
    rw [decDigits]
    split
    · rename_i h
      intro e
      have e2 := congrArg UInt8.toNat (Option.some.inj (show some (UInt8.ofNat (48 + u)) = some 48 from e))
      rw [(dig_of u h).2, show (48 : UInt8).toNat = 48 from rfl] at e2
      omega
    · rename_i h
      have := ih (u / 10) (by omega) (by omega)
      cases hd : decDigits (u / 10) with
      | nil => exact absurd hd (dd_ne _)
      | cons x t =>
        rw [hd] at this
        exact this
theorem dd_len : ∀ (k u : Nat), u < 10 ^ (k + 1) → (decDigits u).length ≤ k + 1
  | 0, u, h => by rw [decDigits, dif_pos (by simpa using h)]; simp
  | k + 1, u, h => by
    rw [decDigits]
    split
    · simp
    · have := dd_len k (u / 10) (by rw [Nat.pow_succ] at h; omega)
      simp
      omega
end Go.Proofs.YtaipdckakgohjaaDoor

/- Package code: what is written is read again; a frame's number has that frame: mathematics. -/
namespace Go.Proofs.YtaipdckakgohjaaDoor
open Go.RowKit Go.Shelf
open Go.Lib (decDigits)

theorem pad_len (n k : Nat) : (padL n k).length = max k (decDigits n).length := by
  unfold padL
  rw [List.length_append, List.length_replicate]
  omega
theorem pad_all (n k : Nat) : (padL n k).all isDig = true := by
  unfold padL
  rw [List.all_append, dd_all, Bool.and_true, List.all_eq_true]
  intro c hc
  rw [List.eq_of_mem_replicate hc]
  rfl
theorem valN_pad (j : Nat) (l : List UInt8) : valN (List.replicate j 48 ++ l) = valN l := by
  induction j with
  | zero => rfl
  | succ j ih =>
    rw [List.replicate_succ]
    exact ih
theorem pad_val (n k : Nat) : valN (padL n k) = n := by
  unfold padL
  rw [valN_pad, dd_val]
theorem pad_dig (n k : Nat) : digA (padL n k) = ((n : Int), true) := by
  unfold digA
  rw [if_pos (pad_all n k), pad_val]
theorem dd_pos (n : Nat) : 1 ≤ (decDigits n).length := by
  have := dd_ne n
  cases h : decDigits n with
  | nil => exact absurd h this
  | cons a t => simp
theorem pad_two (n : Nat) (h : n < 100) : (padL n 2).length = 2 := by
  rw [pad_len]
  have := dd_len 1 n (by simpa using h)
  omega
theorem pad_dg (n dg : Nat) (h0 : 1 ≤ dg) (h : n < 10 ^ dg) : (padL n dg).length = dg := by
  rw [pad_len]
  obtain ⟨k, rfl⟩ : ∃ k, dg = k + 1 := ⟨dg - 1, by omega⟩
  have := dd_len k n h
  omega
theorem has_colon (a : List UInt8) : Lib.hasSuffix (a ++ [58]) [58] = true ∧ Lib.trimSuffix (a ++ [58]) [58] = a := by
  have h : Lib.hasSuffix (a ++ [58]) [58] = true := by
    unfold Lib.hasSuffix
    rw [List.isSuffixOf_iff_suffix]
    exact List.suffix_append _ _
  refine ⟨h, ?_⟩
  unfold Lib.trimSuffix
  rw [if_pos h]
  simp
theorem hours_pad (hours h : Nat) (short : Bool) (h1 : 1 ≤ hours) (h3 : hours ≤ 3) (hh : h < 1000) : hoursA hours short (padL h hours ++ [58]) = ((h : Int), true) := by
  unfold hoursA
  rw [if_neg (by simp), (has_colon _).1, (has_colon _).2, pad_dig]
  rw [if_neg]
  have e := pad_len h hours
  have e2 := dd_len 2 h (by simpa using hh)
  rintro (c | c | c | ⟨c, d⟩)
  · cases c
  · omega
  · omega
  · unfold padL at c d
    have z : hours - (decDigits h).length = 0 := by
      rw [List.length_append, List.length_replicate] at c
      omega
    rw [z] at d
    have : 0 < h := by
      refine Nat.pos_of_ne_zero fun h0 => ?_
      subst h0
      rw [List.length_append, List.length_replicate] at c
      have : (decDigits 0).length = 1 := by rw [dd_few 0 (by omega)]; rfl
      omega
    exact dd_head h this d
/-- A text of a dial's form is read as its four numbers say. -/
theorem read_form (hours per dg : Nat) (mark : UInt8) (short : Bool) (a b c d : List UInt8) (va vb vc vd : Int) (lb : b.length = 2) (lc : c.length = 2) (ld : d.length = dg) (ha : hoursA hours short a = (va, true)) (hb : digA b = (vb, true)) (hc : digA c = (vc, true)) (hd : digA d = (vd, true)) (b1 : vb < 60) (c1 : vc < 60) (d1 : vd < per) :
    readA hours mark per dg short (a ++ (b ++ ([58] ++ (c ++ ([mark] ++ d))))) = (((va * 60 + vb) * 60 + vc) * per + vd, true) := by
  have hl : (a ++ (b ++ ([58] ++ (c ++ ([mark] ++ d))))).length = a.length + (6 + dg) := by
    simp only [List.length_append, List.length_cons, List.length_nil, lb, lc, ld]
    omega
  unfold readA
  rw [hl, show a.length + (6 + dg) - 6 - dg = a.length by omega, if_neg (by omega)]
  have t1 : (a ++ (b ++ ([58] ++ (c ++ ([mark] ++ d))))).take a.length = a := List.take_left' rfl
  have t2 : (a ++ (b ++ ([58] ++ (c ++ ([mark] ++ d))))).drop a.length = b ++ ([58] ++ (c ++ ([mark] ++ d))) := List.drop_left' rfl
  have t3 : (b ++ ([58] ++ (c ++ ([mark] ++ d)))).take 2 = b := List.take_left' lb
  have t4 : (a ++ (b ++ ([58] ++ (c ++ ([mark] ++ d))))).drop (a.length + 2) = [58] ++ (c ++ ([mark] ++ d)) := by
    rw [← List.drop_drop, t2]
    exact List.drop_left' lb
  have t5 : (a ++ (b ++ ([58] ++ (c ++ ([mark] ++ d))))).drop (a.length + 3) = c ++ ([mark] ++ d) := by
    rw [show a.length + 3 = (a.length + 2) + 1 by omega, ← List.drop_drop, t4]
    rfl
  have t6 : (c ++ ([mark] ++ d)).take 2 = c := List.take_left' lc
  have t7 : (a ++ (b ++ ([58] ++ (c ++ ([mark] ++ d))))).drop (a.length + 5) = [mark] ++ d := by
    rw [show a.length + 5 = (a.length + 3) + 2 by omega, ← List.drop_drop, t5]
    exact List.drop_left' lc
  have t8 : (a ++ (b ++ ([58] ++ (c ++ ([mark] ++ d))))).drop (a.length + 6) = d := by
    rw [show a.length + 6 = (a.length + 5) + 1 by omega, ← List.drop_drop, t7]
    rfl
  rw [t1, t2, t3, t4, t5, t6, t7, t8, ha, hb, hc, hd, if_neg (by simp), if_pos (by simp [b1, c1, d1])]
theorem read_dial (hours per dg n : Nat) (mark : UInt8) (short : Bool) (h1 : 1 ≤ hours) (h3 : hours ≤ 3) (hp : 0 < per) (g1 : 1 ≤ dg) (hg : per ≤ 10 ^ dg) (hh : n / per / 3600 < 1000) :
    readA hours mark per dg short (dialL hours mark per dg n) = ((n : Int), true) := by
  unfold dialL
  have m1 : n % per < per := Nat.mod_lt _ hp
  have e := read_form hours per dg mark short (padL (n / per / 3600) hours ++ [58]) (padL (n / per / 60 % 60) 2) (padL (n / per % 60) 2) (padL (n % per) dg) _ _ _ _ (pad_two _ (by omega)) (pad_two _ (by omega)) (pad_dg _ _ g1 (by omega)) (hours_pad hours _ short h1 h3 hh) (pad_dig _ _) (pad_dig _ _) (pad_dig _ _) (by omega) (by omega) (by omega)
  simp only [List.append_assoc] at e ⊢
  rw [e]
  have d1 : per * (n / per) + n % per = n := Nat.div_add_mod n per
  have d2 : (n / per / 3600 * 60 + n / per / 60 % 60) * 60 + n / per % 60 = n / per := by omega
  refine Prod.ext ?_ rfl
  show ((((n / per / 3600 : Nat) : Int) * 60 + ((n / per / 60 % 60 : Nat) : Int)) * 60 + ((n / per % 60 : Nat) : Int)) * (per : Int) + ((n % per : Nat) : Int) = (n : Int)
  rw [show (((n / per / 3600 : Nat) : Int) * 60 + ((n / per / 60 % 60 : Nat) : Int)) * 60 + ((n / per % 60 : Nat) : Int) = ((n / per : Nat) : Int) by omega, Int.mul_comm]
  exact_mod_cast d1
theorem num_parts (f l fr : Int) (h : Full f l) (h0 : 0 ≤ fr) : ∃ q j x : Int, q = fr / (600 * f - 9 * l) ∧ 0 ≤ q ∧ 0 ≤ j ∧ j ≤ 9 ∧ numI f l fr = (10 * q + j) * (60 * f) + x ∧ 0 ≤ x ∧ x < 60 * f ∧ (j = 0 ∨ l ≤ x) ∧ fr = (10 * q + j) * (60 * f) + x - l * (9 * q + j) := by
  obtain ⟨f1, f2, l1, l2⟩ := h
  have T0 : 0 < 600 * f - 9 * l := by omega
  have dm := Int.mul_ediv_add_emod fr (600 * f - 9 * l)
  have r0 := Int.emod_nonneg fr (show 600 * f - 9 * l ≠ 0 by omega)
  have r1 := Int.emod_lt_of_pos fr T0
  have q0 : 0 ≤ fr / (600 * f - 9 * l) := Int.ediv_nonneg h0 (by omega)
  unfold numI
  generalize fr / (600 * f - 9 * l) = q at *
  generalize fr % (600 * f - 9 * l) = r at *
  have e1 : (600 * f - 9 * l) * q = 600 * (f * q) - 9 * (l * q) := by rw [Int.sub_mul, Int.mul_assoc, Int.mul_assoc]
  have e2 : q * 10 * (60 * f) = 600 * (f * q) := by grind
  by_cases c : 60 * f ≤ r
  · have S0 : 0 < 60 * f - l := by omega
    have dm2 := Int.mul_ediv_add_emod (r - 60 * f) (60 * f - l)
    have x0 := Int.emod_nonneg (r - 60 * f) (show 60 * f - l ≠ 0 by omega)
    have x1 := Int.emod_lt_of_pos (r - 60 * f) S0
    have k0 : 0 ≤ (r - 60 * f) / (60 * f - l) := Int.ediv_nonneg (by omega) (by omega)
    have k8 : (r - 60 * f) / (60 * f - l) < 9 := Int.ediv_lt_of_lt_mul S0 (by omega)
    rw [if_pos c]
    generalize (r - 60 * f) / (60 * f - l) = k at *
    generalize (r - 60 * f) % (60 * f - l) = x at *
    have e3 : (60 * f - l) * k = 60 * (f * k) - l * k := by rw [Int.sub_mul, Int.mul_assoc]
    have e4 : l * (1 + k) = l + l * k := by rw [Int.mul_add, Int.mul_one]
    have e5 : (10 * q + (1 + k)) * (60 * f) = 600 * (f * q) + 60 * f + 60 * (f * k) := by grind
    have e6 : l * (9 * q + (1 + k)) = 9 * (l * q) + l + l * k := by grind
    refine ⟨q, 1 + k, x + l, rfl, q0, by omega, by omega, ?_, by omega, by omega, .inr (by omega), ?_⟩
    · omega
    · omega
  · rw [if_neg c]
    have e5 : (10 * q + 0) * (60 * f) = 600 * (f * q) := by grind
    have e6 : l * (9 * q + 0) = 9 * (l * q) := by grind
    refine ⟨q, 0, r, rfl, q0, by omega, by omega, ?_, by omega, by omega, .inl rfl, ?_⟩
    · omega
    · omega
theorem num_back (f l fr : Int) (h : Full f l) (h0 : 0 ≤ fr) : skipB f l (numI f l fr) = false ∧ frmI f l (numI f l fr) = fr := by
  obtain ⟨q, j, x, _, q0, j0, j9, hN, x0, x1, jl, hf⟩ := num_parts f l fr h h0
  obtain ⟨f1, f2, l1, l2⟩ := h
  have u := (Int.ediv_emod_unique (show 0 < 60 * f by omega) (a := numI f l fr) (r := x) (q := 10 * q + j)).2 ⟨by rw [hN, Int.mul_comm (60 * f)]; omega, x0, x1⟩
  unfold skipB frmI
  rw [u.1, u.2, show (10 * q + j) % 10 = j by omega, show 10 * q + j - (10 * q + j) / 10 = 9 * q + j by omega]
  refine ⟨decide_eq_false fun y => ?_, by rw [hN]; omega⟩
  rcases jl with e | e
  · exact y.1 e
  · omega
theorem num_hours (f l fr : Int) (h : Full f l) (h0 : 0 ≤ fr) (hb : fr ≤ 360000 * f) : (numI f l fr).toNat / f.toNat / 3600 < 1000 ∧ 0 ≤ numI f l fr := by
  obtain ⟨q, j, x, hq, q0, j0, j9, hN, x0, x1, _, _⟩ := num_parts f l fr h h0
  obtain ⟨f1, f2, l1, l2⟩ := h
  have q1 : q ≤ 639 := by
    rw [hq]
    refine Int.le_of_lt_add_one (Int.ediv_lt_of_lt_mul (by omega) ?_)
    omega
  have y0 : 0 ≤ (10 * q + j) * (60 * f) := Int.mul_nonneg (by omega) (by omega)
  have y : (10 * q + j) * (60 * f) ≤ 6399 * (60 * f) := Int.mul_le_mul_of_nonneg_right (by omega) (by omega)
  have z : numI f l fr < 384000 * f := by rw [hN]; omega
  have z0 : 0 ≤ numI f l fr := by rw [hN]; omega
  refine ⟨?_, z0⟩
  have : (numI f l fr).toNat / f.toNat < 384000 := Nat.div_lt_of_lt_mul (by omega)
  omega
theorem frame_few (n d fr : Int) (dr : Bool) (h : checkI n d dr = 0) (hb : fr * d ≤ 360000 * n) : fr ≤ 360000 * fullI n d := by
  obtain ⟨n1, d1, _, nd, hF⟩ := full_ok n d dr h
  have e := Int.mul_ediv_add_emod (n + d - 1) d
  have r1 := Int.emod_lt_of_pos (n + d - 1) (show 0 < d by omega)
  have k : n ≤ d * fullI n d := by unfold fullI; omega
  have y : fr * d ≤ (360000 * fullI n d) * d := by
    rw [Int.mul_assoc, Int.mul_comm (fullI n d) d]
    omega
  exact Int.le_of_mul_le_mul_right y (by omega)
/-- A frame's label has its number. -/
theorem label_back (n d : Int) (dr : Bool) (fr : Int) (h : checkI n d dr = 0) (hb : 0 ≤ fr ∧ fr * d ≤ 360000 * n) : numF n d dr (labelF n d dr fr) = (fr, 0) := by
  obtain ⟨n1, d1, _, nd, hF⟩ := full_ok n d dr h
  have f1 := hF.1
  have f2 := hF.2.1
  have hh := num_hours _ _ fr hF hb.1 (frame_few n d fr dr h hb.2)
  have nb := num_back _ _ fr hF hb.1
  unfold numF labelF readF
  rw [if_pos h, read_dial 2 _ _ _ _ false (by omega) (by omega) (by omega) (by split <;> omega) (by split <;> omega) hh.1]
  unfold toldF
  have e : (((numI (fullI n d) (if dr = true then leftI n d else 0) fr).toNat : Nat) : Int) = numI (fullI n d) (if dr = true then leftI n d else 0) fr := Int.toNat_of_nonneg hh.2
  rw [if_neg (by simp)]
  show (if skipB _ _ (((numI (fullI n d) (if dr = true then leftI n d else 0) fr).toNat : Nat) : Int) = true then _ else _) = _
  simp only [e]
  rw [nb.1, nb.2, if_neg (by simp), if_pos hb]
end Go.Proofs.YtaipdckakgohjaaDoor

/- Package code: the number of a label that is laid out of its parts: mathematics. -/
namespace Go.Proofs.YtaipdckakgohjaaDoor
open Go.RowKit Go.Shelf

/-- The label of minute M, second s, number k. -/
def partsL (dr : Bool) (dg M s k : Nat) : List UInt8 := padL (M / 60) 2 ++ [58] ++ padL (M % 60) 2 ++ [58] ++ padL s 2 ++ [if dr = true then 59 else 58] ++ padL k dg
theorem full_two (n d : Int) (dr : Bool) (h : checkI n d dr = 0) : fullI n d * d ≤ 2 * n := by
  obtain ⟨n1, d1, dn, nd, hF⟩ := full_ok n d dr h
  have e := Int.mul_ediv_add_emod (n + d - 1) d
  have r0 := Int.emod_nonneg (n + d - 1) (show d ≠ 0 by omega)
  unfold fullI
  rw [Int.mul_comm]
  omega
theorem parts_read (n d : Int) (dr : Bool) (h : checkI n d dr = 0) (f : Nat) (hf : fullI n d = f) (M s k : Nat) (hM : M < 6000) (hs : s < 60) (hk : k < f) :
    readF n d dr (partsL dr (if 100 < fullI n d then 3 else 2) M s k) = ((((M * 60 + s) * f + k : Nat) : Int), true) := by
  obtain ⟨n1, d1, _, nd, hF⟩ := full_ok n d dr h
  have f1 := hF.1
  have f2 := hF.2.1
  unfold readF partsL
  have e := read_form 2 f (if 100 < fullI n d then 3 else 2) (if dr = true then 59 else 58) false (padL (M / 60) 2 ++ [58]) (padL (M % 60) 2) (padL s 2) (padL k (if 100 < fullI n d then 3 else 2)) _ _ _ _ (pad_two _ (by omega)) (pad_two _ (by omega)) (pad_dg _ _ (by split <;> omega) (by split <;> omega)) (hours_pad 2 _ false (by omega) (by omega) (by omega)) (pad_dig _ _) (pad_dig _ _) (pad_dig _ _) (by omega) (by omega) (by omega)
  simp only [List.append_assoc] at e ⊢
  rw [hf] at e ⊢
  rw [Int.toNat_natCast, e]
  refine Prod.ext ?_ rfl
  show ((((M / 60 : Nat) : Int) * 60 + ((M % 60 : Nat) : Int)) * 60 + (s : Int)) * (f : Int) + (k : Int) = _
  rw [show (((M / 60 : Nat) : Int) * 60 + ((M % 60 : Nat) : Int)) * 60 + (s : Int) = ((M * 60 + s : Nat) : Int) by omega]
  push_cast
  rfl
theorem parts_skip (f l : Int) (h : Full f l) (M s k : Nat) (hs : s < 60) (hk : (k : Int) < f) (N : Int) (hN : N = ((M * 60 + s : Nat) : Int) * f + k) :
    N / (60 * f) = M ∧ N % (60 * f) = s * f + k := by
  obtain ⟨f1, f2, l1, l2⟩ := h
  have e : ((M * 60 + s : Nat) : Int) * f = (60 * f) * M + s * f := by
    push_cast
    grind
  have s0 : 0 ≤ (s : Int) * f := Int.mul_nonneg (by omega) (by omega)
  have s1 : (s : Int) * f ≤ 59 * f := Int.mul_le_mul_of_nonneg_right (by omega) (by omega)
  exact (Int.ediv_emod_unique (show 0 < 60 * f by omega) (a := N) (r := s * f + k) (q := M)).2 ⟨by omega, by omega, by omega⟩
/-- What Number says of such a label. -/
theorem parts_num (n d : Int) (dr : Bool) (h : checkI n d dr = 0) (f : Nat) (hf : fullI n d = f) (l : Int) (hl : (if dr = true then leftI n d else 0) = l) (M s k : Nat) (hM : M < 3000) (hs : s < 60) (hk : k < f) :
    numF n d dr (partsL dr (if 100 < fullI n d then 3 else 2) M s k) = if M % 10 ≠ 0 ∧ (s : Int) * f + k < l then (0, 15) else (((M * 60 + s : Nat) : Int) * f + k - l * ((M : Int) - (M / 10 : Nat)), 0) := by
  obtain ⟨n1, d1, _, nd, hF⟩ := full_ok n d dr h
  have f1 := hF.1
  have f2 := hF.2.1
  have ft := full_two n d dr h
  rw [hl] at hF
  unfold numF
  rw [if_pos h, parts_read n d dr h f hf M s k (by omega) hs hk]
  unfold toldF
  rw [if_neg (by simp), hl, hf]
  rw [hf] at hF ft f1 f2
  obtain ⟨u1, u2⟩ := parts_skip f l hF M s k hs (by omega) (((M * 60 + s) * f + k : Nat) : Int) (by push_cast; rfl)
  simp only
  unfold skipB frmI
  rw [u1, u2]
  obtain ⟨_, _, l1, l2⟩ := hF
  by_cases c : M % 10 ≠ 0 ∧ (s : Int) * f + k < l
  · rw [if_pos c, if_pos (decide_eq_true ⟨by omega, c.2⟩)]
  · rw [if_neg c, if_neg (by
      rw [decide_eq_true_iff]
      intro x
      exact c ⟨by have := x.1; omega, x.2⟩)]
    have e0 : (((M * 60 + s) * f + k : Nat) : Int) = ((M * 60 + s : Nat) : Int) * f + k := by push_cast; rfl
    have e1 : (M : Int) / 10 = ((M / 10 : Nat) : Int) := by omega
    rw [e0, e1]
    have a1 : 0 ≤ l * ((M : Int) - (M / 10 : Nat)) := Int.mul_nonneg l1 (by omega)
    have a2 : l * ((M : Int) - (M / 10 : Nat)) ≤ 4 * M := Int.mul_le_mul l2 (by omega) (by omega) (by omega)
    have a3 : (M : Int) * 60 ≤ ((M * 60 + s : Nat) : Int) * f := by
      have : ((M * 60 + s : Nat) : Int) * 1 ≤ ((M * 60 + s : Nat) : Int) * f := Int.mul_le_mul_of_nonneg_left f1 (by omega)
      omega
    have b1 : ((M * 60 + s : Nat) : Int) * f + k ≤ 180000 * f := by
      have : ((M * 60 + s : Nat) : Int) * f ≤ 179999 * f := Int.mul_le_mul_of_nonneg_right (by omega) (by omega)
      omega
    have b2 : (((M * 60 + s : Nat) : Int) * f + k - l * ((M : Int) - (M / 10 : Nat))) * d ≤ (180000 * f) * d := Int.mul_le_mul_of_nonneg_right (by omega) (by omega)
    have b3 : (180000 * (f : Int)) * d = 180000 * (f * d) := Int.mul_assoc _ _ _
    rw [if_pos ⟨by omega, by omega⟩]
end Go.Proofs.YtaipdckakgohjaaDoor
