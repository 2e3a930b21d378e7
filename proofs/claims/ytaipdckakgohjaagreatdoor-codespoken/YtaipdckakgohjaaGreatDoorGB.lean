/- Several texts, one behind the other. -/
import Derived.Lib.ItoaMem
import Derived.Test.YtaipdckakgohjaaGreatDoorCRefG
import Derived.Test.YtaipdckakgohjaaGreatDoorCRefR2
import Derived.Test.YtaipdckakgohjaaGreatDoorCdB
import Derived.Test.YtaipdckakgohjaaGreatDoorCdS
/- The digits of a number, read again (as BackM, without the texts of Parse). -/
namespace Go.Proofs.YtaipdckakgohjaaGreatDoor
open Go.Lib (decDigits)

theorem dig_of (d : Nat) (h : d < 10) : isDig (UInt8.ofNat (48 + d)) = true ∧ (UInt8.ofNat (48 + d)).toNat = 48 + d := by
  have e : (UInt8.ofNat (48 + d)).toNat = 48 + d := by rw [UInt8.toNat_ofNat']; omega
  exact ⟨by unfold isDig; rw [e]; exact decide_eq_true ⟨by omega, by omega⟩, e⟩
theorem dd_all (u : Nat) : (decDigits u).all isDig = true := by
  induction u using Nat.strongRecOn with
  | _ u ih =>
    rw [decDigits]
    split
    · rename_i h
      rw [List.all_cons, List.all_nil, (dig_of u h).1]
      rfl
    · rw [List.all_append, ih (u / 10) (by omega), List.all_cons, List.all_nil, (dig_of (u % 10) (by omega)).1]
      rfl
theorem dd_val (u : Nat) : valN (decDigits u) = u := by
  induction u using Nat.strongRecOn with
  | _ u ih =>
    rw [decDigits]
    split
    · rename_i h
      show 0 * 10 + ((UInt8.ofNat (48 + u)).toNat - 48) = u
      rw [(dig_of u h).2]
      omega
    · rename_i h
      have := ih (u / 10) (by omega)
      unfold valN at this ⊢
      rw [List.foldl_append, this]
      simp only [List.foldl_cons, List.foldl_nil]
      rw [(dig_of (u % 10) (by omega)).2]
      omega
theorem dd_ne (u : Nat) : decDigits u ≠ [] := by
  rw [decDigits]
  split <;> simp
theorem dd_head (u : Nat) (h0 : 0 < u) : (decDigits u).head? ≠ some 48 := by
  induction u using Nat.strongRecOn with
  | _ u ih =>
    rw [decDigits]
    split
    · rename_i h
      intro e
      have e2 := congrArg UInt8.toNat (Option.some.inj (show some (UInt8.ofNat (48 + u)) = some 48 from e))
      rw [(dig_of u h).2, show (48 : UInt8).toNat = 48 from rfl] at e2
      omega
    · rename_i h
      have := ih (u / 10) (by omega) (by omega)
      cases hd : decDigits (u / 10) with
      | nil => exact absurd hd (dd_ne _)
      | cons x t =>
        rw [hd] at this
        exact this
theorem dd_len : ∀ (k u : Nat), u < 10 ^ (k + 1) → (decDigits u).length ≤ k + 1
  | 0, u, h => by rw [decDigits, dif_pos (by simpa using h)]; simp
  | k + 1, u, h => by
    rw [decDigits]
    split
    · simp
    · have := dd_len k (u / 10) (by rw [Nat.pow_succ] at h; omega)
      simp
      omega
end Go.Proofs.YtaipdckakgohjaaGreatDoor

/- surtitleref5.Label at every frame. -/
namespace Go.Proofs.YtaipdckakgohjaaGreatDoor
open Go.RowKit Go.Shelf

theorem num_at (f l : Int) (h : Full f l) (fr q r0 : Int) (hq : fr / (600 * f - 9 * l) = q) (hr : fr % (600 * f - 9 * l) = r0) (j x u F M : Int) (hj : 0 ≤ j ∧ j ≤ 9) (hx0 : 0 ≤ x) (hx : x + gone f l j = r0) (uc : (j = 0 ∧ u = 0) ∨ (1 ≤ j ∧ u = l)) (hx2 : x < 60 * f - u) (hF : x + u = F) (hM : j + 10 * q = M) :
    numI f l fr = M * (60 * f) + F ∧ 0 ≤ F ∧ F < 60 * f := by
  obtain ⟨f1, f2, l1, l2⟩ := h
  unfold numI
  rw [hq, hr]
  have e0 : q * 10 * (60 * f) = 10 * q * (60 * f) := by rw [Int.mul_comm q 10]
  have e1 : M * (60 * f) = j * (60 * f) + 10 * q * (60 * f) := by rw [← hM, Int.add_mul]
  rcases uc with ⟨rfl, rfl⟩ | ⟨j1, rfl⟩
  · unfold gone at hx
    rw [if_pos rfl] at hx
    rw [if_neg (by omega), e0, e1]
    omega
  · unfold gone at hx
    rw [if_neg (by omega)] at hx
    have c1 : 60 * f * j = j * (60 * f) := Int.mul_comm _ _
    have c2 : (60 * f - u) * (j - 1) = 60 * f * j - 60 * f - u * (j - 1) := by rw [Int.sub_mul, Int.mul_sub, Int.mul_one]
    have c3 : u * (j - 1) = u * j - u := by rw [Int.mul_sub, Int.mul_one]
    have c4 : 0 ≤ (60 * f - u) * (j - 1) := Int.mul_nonneg (by omega) (by omega)
    have dv : (r0 - 60 * f) / (60 * f - u) = j - 1 := (Int.ediv_emod_unique (by omega) (r := x) |>.2 ⟨by rw [c2]; omega, by omega, by omega⟩).1
    rw [dv, if_pos (by omega), e0, e1, show (1 : Int) + (j - 1) = j by omega]
    omega
theorem dial_at (mk : UInt8) (f wd M F : Nat) (hf : 0 < f) (hF : F < 60 * f) : dialL 2 mk f wd (M * (60 * f) + F) = padL (M / 60) 2 ++ [58] ++ padL (M % 60) 2 ++ [58] ++ padL (F / f) 2 ++ [mk] ++ padL (F % f) wd := by
  have e1 : (M * (60 * f) + F) / f = M * 60 + F / f := by
    rw [show M * (60 * f) + F = F + f * (M * 60) by rw [Nat.add_comm, Nat.mul_comm f, Nat.mul_assoc], Nat.add_mul_div_left _ _ hf, Nat.add_comm]
  have e2 : (M * (60 * f) + F) % f = F % f := by
    rw [show M * (60 * f) + F = F + f * (M * 60) by rw [Nat.add_comm, Nat.mul_comm f, Nat.mul_assoc], Nat.add_mul_mod_self_left]
  have e3 : F / f < 60 := (Nat.div_lt_iff_lt_mul hf).2 hF
  unfold dialL
  rw [e1, e2]
  generalize F / f = c at *
  rw [show (M * 60 + c) / 3600 = M / 60 by omega, show (M * 60 + c) / 60 % 60 = M % 60 by omega, show (M * 60 + c) % 60 = c by omega]
theorem rlabel_ok (n d : Int) (dr : Bool) (fr : Int) (h : checkI n d dr = 0) (hb : 0 ≤ fr ∧ fr * d ≤ 360000 * n) (w : World) :
    Calls Tryz.prog 11 #[.agg #[.int .i64 n, .int .i64 d, .bool dr], .int .i64 fr] w fun e w' => e = .returned (.tuple #[.string (bs (labelF n d dr fr)), .int .i64 0]) ∧ Below w.heap.size w w' := by
  obtain ⟨n1, d1, _, nd, hF⟩ := full_ok n d dr h
  have HC := rcheck_any n d dr
  rw [h] at HC
  have HL := rlast_any n d dr n1 d1
  have HFu := rfull_any n d dr n1 d1
  have HE := fun w => rleft_walk n d (fullI n d) _ dr ⟨by have := hF.1; omega, hF.2.1⟩ rfl w HFu
  rw [left_eq h] at HE
  have HU := fun (m : Int) (hm : 0 ≤ m ∧ m ≤ 20) w => rout_walk n d _ m dr ⟨hm.1, by omega⟩ w HE
  have HV : ∀ w, Calls Tryz.prog 42 #[.int .i64 (fullI n d)] w fun e w' => e = .returned (.int .i64 ((if 100 < fullI n d then 3 else 2 : Nat) : Nat)) ∧ Below w.heap.size w w' := fun w => by
    have := (rwide_any (fullI n d) w).mono fun e w' (x : e = .returned (.int .i64 (if 100 < fullI n d then 3 else 2)) ∧ w' = w) => (⟨x.1, x.2 ▸ Below.refl _ _⟩ : e = .returned (.int .i64 (if 100 < fullI n d then 3 else 2)) ∧ Below w.heap.size w w')
    rw [show (((if 100 < fullI n d then 3 else 2 : Nat) : Nat) : Int) = (if 100 < fullI n d then (3 : Int) else 2) by split <;> rfl]
    exact this
  have y : fr * d ≤ 86400000 * d := by omega
  have fb : fr ≤ 86400000 := Int.le_of_mul_le_mul_right y (by omega)
  have fl : fr ≤ 360000 * n / d := (last_iff n d fr d1.1).2 hb.2
  obtain ⟨fn, hfn⟩ := Int.eq_ofNat_of_zero_le hb.1
  obtain ⟨f, hf⟩ := Int.eq_ofNat_of_zero_le (show 0 ≤ fullI n d by have := hF.1; omega)
  obtain ⟨l, hl⟩ : ∃ l, (if dr = true then leftI n d else 0) = l := ⟨_, rfl⟩
  unfold labelF
  rw [hl] at hF HE HU ⊢
  rw [hf] at hF HFu HV ⊢
  have F1 := hF.1
  have F2 := hF.2.1
  have L1 := hF.2.2.1
  have L2 := hF.2.2.2
  have T0 : 0 < 600 * (f : Int) - 9 * l := by omega
  obtain ⟨q, hq⟩ := Int.eq_ofNat_of_zero_le (Int.ediv_nonneg hb.1 (show 0 ≤ 600 * (f : Int) - 9 * l by omega))
  obtain ⟨r0, hr⟩ := Int.eq_ofNat_of_zero_le (Int.emod_nonneg fr (show 600 * (f : Int) - 9 * l ≠ 0 by omega))
  have r1 := Int.emod_lt_of_pos fr T0
  have q1 : fr / (600 * (f : Int) - 9 * l) ≤ fr := Int.ediv_le_self _ hb.1
  have HX : ∀ (mk : UInt8) (wd : Nat) (j x M F : Nat) (u : Int), j ≤ 9 → (x : Int) + gone f l j = r0 → ((j = 0 ∧ u = 0) ∨ (1 ≤ j ∧ u = l)) → (x : Int) < 60 * (f : Int) - u → (x : Int) + u = F → (j : Int) + 10 * (q : Int) = M → padL (M / 60) 2 ++ [58] ++ padL (M % 60) 2 ++ [58] ++ padL (F / f) 2 ++ [mk] ++ padL (F % f) wd = dialL 2 mk f wd (numI f l fr).toNat := by
    intro mk wd j x M F u a1 a2 a3 a4 a5 a6
    obtain ⟨b1, b2, b3⟩ := num_at f l hF fr q r0 hq hr j x u F M ⟨by omega, by omega⟩ (by omega) a2 (by omega) a4 a5 a6
    rw [b1, show ((M : Int) * (60 * (f : Int)) + (F : Int)).toNat = M * (60 * f) + F by rw [show (M : Int) * (60 * (f : Int)) + (F : Int) = ((M * (60 * f) + F : Nat) : Int) by simp]; exact Int.toNat_natCast _]
    exact (dial_at mk f wd M F (by omega) (by omega)).symm
  rw [show ((f : Int).toNat) = f by omega]
  rw [hfn] at hq hr fl HX r1 q1 ⊢
  cases dr
  · exact rlb_okf n d _ l _ fn f q r0 _ _ fl (by omega) hF rfl T0 hq hr (by omega) (by omega) (hideR (by split <;> omega)) w HC HL HFu HE HU HV (hideR (HX 58 _))
  · exact rlb_okt n d _ l _ fn f q r0 _ _ fl (by omega) hF rfl T0 hq hr (by omega) (by omega) (hideR (by split <;> omega)) w HC HL HFu HE HU HV (hideR (HX 59 _))
theorem rlabel_no (n d : Int) (dr : Bool) (fr : Int) (h : checkI n d dr = 0) (hb : ¬ (0 ≤ fr ∧ fr * d ≤ 360000 * n)) (w : World) :
    Calls Tryz.prog 11 #[.agg #[.int .i64 n, .int .i64 d, .bool dr], .int .i64 fr] w fun e w' => e = .returned (.tuple #[.string ⟨#[]⟩, .int .i64 31]) ∧ Below w.heap.size w w' := by
  obtain ⟨n1, d1, _, _, _⟩ := full_ok n d dr h
  have HC := rcheck_any n d dr
  rw [h] at HC
  by_cases f0 : fr < 0
  · exact rlb_neg n d fr dr f0 w HC
  · exact rlb_far n d fr _ dr (by omega) (by have := (last_iff n d fr d1.1).1; omega) w HC (rlast_any n d dr n1 d1)
end Go.Proofs.YtaipdckakgohjaaGreatDoor

/- Package code: what is written is read again; a frame's number has that frame: mathematics. -/
namespace Go.Proofs.YtaipdckakgohjaaGreatDoor
open Go.RowKit Go.Shelf
open Go.Lib (decDigits)

theorem pad_len (n k : Nat) : (padL n k).length = max k (decDigits n).length := by
  unfold padL
  rw [List.length_append, List.length_replicate]
  omega
theorem pad_all (n k : Nat) : (padL n k).all isDig = true := by
  unfold padL
  rw [List.all_append, dd_all, Bool.and_true, List.all_eq_true]
  intro c hc
  rw [List.eq_of_mem_replicate hc]
  rfl
theorem valN_pad (j : Nat) (l : List UInt8) : valN (List.replicate j 48 ++ l) = valN l := by
  induction j with
  | zero => rfl
  | succ j ih =>
    rw [List.replicate_succ]
    exact ih
theorem pad_val (n k : Nat) : valN (padL n k) = n := by
  unfold padL
  rw [valN_pad, dd_val]
theorem pad_dig (n k : Nat) : digA (padL n k) = ((n : Int), true) := by
  unfold digA
  rw [if_pos (pad_all n k), pad_val]
theorem dd_pos (n : Nat) : 1 ≤ (decDigits n).length := by
  have := dd_ne n
  cases h : decDigits n with
  | nil => exact absurd h this
  | cons a t => simp
theorem pad_two (n : Nat) (h : n < 100) : (padL n 2).length = 2 := by
  rw [pad_len]
  have := dd_len 1 n (by simpa using h)
  omega
theorem pad_dg (n dg : Nat) (h0 : 1 ≤ dg) (h : n < 10 ^ dg) : (padL n dg).length = dg := by
  rw [pad_len]
  obtain ⟨k, rfl⟩ : ∃ k, dg = k + 1 := ⟨dg - 1, by omega⟩
  have := dd_len k n h
  omega
theorem has_colon (a : List UInt8) : Lib.hasSuffix (a ++ [58]) [58] = true ∧ Lib.trimSuffix (a ++ [58]) [58] = a := by
  have h : Lib.hasSuffix (a ++ [58]) [58] = true := by
    unfold Lib.hasSuffix
    rw [List.isSuffixOf_iff_suffix]
    exact List.suffix_append _ _
  refine ⟨h, ?_⟩
  unfold Lib.trimSuffix
  rw [if_pos h]
  simp
theorem hours_pad (hours h : Nat) (short : Bool) (h1 : 1 ≤ hours) (h3 : hours ≤ 3) (hh : h < 1000) : hoursA hours short (padL h hours ++ [58]) = ((h : Int), true) := by
  unfold hoursA
  rw [if_neg (by simp), (has_colon _).1, (has_colon _).2, pad_dig]
  rw [if_neg]
  have e := pad_len h hours
  have e2 := dd_len 2 h (by simpa using hh)
  rintro (c | c | c | ⟨c, d⟩)
  · cases c
  · omega
  · omega
  · unfold padL at c d
    have z : hours - (decDigits h).length = 0 := by
      rw [List.length_append, List.length_replicate] at c
      omega
    rw [z] at d
    have : 0 < h := by
      refine Nat.pos_of_ne_zero fun h0 => ?_
      subst h0
      rw [List.length_append, List.length_replicate] at c
      have : (decDigits 0).length = 1 := by rw [dd_few 0 (by omega)]; rfl
      omega
    exact dd_head h this d
/-- A text of a dial's form is read as its four numbers say. -/
theorem read_form (hours per dg : Nat) (mark : UInt8) (short : Bool) (a b c d : List UInt8) (va vb vc vd : Int) (lb : b.length = 2) (lc : c.length = 2) (ld : d.length = dg) (ha : hoursA hours short a = (va, true)) (hb : digA b = (vb, true)) (hc : digA c = (vc, true)) (hd : digA d = (vd, true)) (b1 : vb < 60) (c1 : vc < 60) (d1 : vd < per) :
    readA hours mark per dg short (a ++ (b ++ ([58] ++ (c ++ ([mark] ++ d))))) = (((va * 60 + vb) * 60 + vc) * per + vd, true) := by
  have hl : (a ++ (b ++ ([58] ++ (c ++ ([mark] ++ d))))).length = a.length + (6 + dg) := by
    simp only [List.length_append, List.length_cons, List.length_nil, lb, lc, ld]
    omega
  unfold readA
  rw [hl, show a.length + (6 + dg) - 6 - dg = a.length by omega, if_neg (by omega)]
  have t1 : (a ++ (b ++ ([58] ++ (c ++ ([mark] ++ d))))).take a.length = a := List.take_left' rfl
  have t2 : (a ++ (b ++ ([58] ++ (c ++ ([mark] ++ d))))).drop a.length = b ++ ([58] ++ (c ++ ([mark] ++ d))) := List.drop_left' rfl
  have t3 : (b ++ ([58] ++ (c ++ ([mark] ++ d)))).take 2 = b := List.take_left' lb
  have t4 : (a ++ (b ++ ([58] ++ (c ++ ([mark] ++ d))))).drop (a.length + 2) = [58] ++ (c ++ ([mark] ++ d)) := by
    rw [← List.drop_drop, t2]
    exact List.drop_left' lb
  have t5 : (a ++ (b ++ ([58] ++ (c ++ ([mark] ++ d))))).drop (a.length + 3) = c ++ ([mark] ++ d) := by
    rw [show a.length + 3 = (a.length + 2) + 1 by omega, ← List.drop_drop, t4]
    rfl
  have t6 : (c ++ ([mark] ++ d)).take 2 = c := List.take_left' lc
  have t7 : (a ++ (b ++ ([58] ++ (c ++ ([mark] ++ d))))).drop (a.length + 5) = [mark] ++ d := by
    rw [show a.length + 5 = (a.length + 3) + 2 by omega, ← List.drop_drop, t5]
    exact List.drop_left' lc
  have t8 : (a ++ (b ++ ([58] ++ (c ++ ([mark] ++ d))))).drop (a.length + 6) = d := by
    rw [show a.length + 6 = (a.length + 5) + 1 by omega, ← List.drop_drop, t7]
    rfl
  rw [t1, t2, t3, t4, t5, t6, t7, t8, ha, hb, hc, hd, if_neg (by simp), if_pos (by simp [b1, c1, d1])]
theorem read_dial (hours per dg n : Nat) (mark : UInt8) (short : Bool) (h1 : 1 ≤ hours) (h3 : hours ≤ 3) (hp : 0 < per) (g1 : 1 ≤ dg) (hg : per ≤ 10 ^ dg) (hh : n / per / 3600 < 1000) :
    readA hours mark per dg short (dialL hours mark per dg n) = ((n : Int), true) := by
  unfold dialL
  have m1 : n % per < per := Nat.mod_lt _ hp
  have e := read_form hours per dg mark short (padL (n / per / 3600) hours ++ [58]) (padL (n / per / 60 % 60) 2) (padL (n / per % 60) 2) (padL (n % per) dg) _ _ _ _ (pad_two _ (by omega)) (pad_two _ (by omega)) (pad_dg _ _ g1 (by omega)) (hours_pad hours _ short h1 h3 hh) (pad_dig _ _) (pad_dig _ _) (pad_dig _ _) (by omega) (by omega) (by omega)
  simp only [List.append_assoc] at e ⊢
  rw [e]
  have d1 : per * (n / per) + n % per = n := Nat.div_add_mod n per
  have d2 : (n / per / 3600 * 60 + n / per / 60 % 60) * 60 + n / per % 60 = n / per := by omega
  refine Prod.ext ?_ rfl
  show ((((n / per / 3600 : Nat) : Int) * 60 + ((n / per / 60 % 60 : Nat) : Int)) * 60 + ((n / per % 60 : Nat) : Int)) * (per : Int) + ((n % per : Nat) : Int) = (n : Int)
  rw [show (((n / per / 3600 : Nat) : Int) * 60 + ((n / per / 60 % 60 : Nat) : Int)) * 60 + ((n / per % 60 : Nat) : Int) = ((n / per : Nat) : Int) by omega, Int.mul_comm]
  exact_mod_cast d1
theorem num_parts (f l fr : Int) (h : Full f l) (h0 : 0 ≤ fr) : ∃ q j x : Int, q = fr / (600 * f - 9 * l) ∧ 0 ≤ q ∧ 0 ≤ j ∧ j ≤ 9 ∧ numI f l fr = (10 * q + j) * (60 * f) + x ∧ 0 ≤ x ∧ x < 60 * f ∧ (j = 0 ∨ l ≤ x) ∧ fr = (10 * q + j) * (60 * f) + x - l * (9 * q + j) := by
  obtain ⟨f1, f2, l1, l2⟩ := h
  have T0 : 0 < 600 * f - 9 * l := by omega
  have dm := Int.mul_ediv_add_emod fr (600 * f - 9 * l)
  have r0 := Int.emod_nonneg fr (show 600 * f - 9 * l ≠ 0 by omega)
  have r1 := Int.emod_lt_of_pos fr T0
  have q0 : 0 ≤ fr / (600 * f - 9 * l) := Int.ediv_nonneg h0 (by omega)
  unfold numI
  generalize fr / (600 * f - 9 * l) = q at *
  generalize fr % (600 * f - 9 * l) = r at *
  have e1 : (600 * f - 9 * l) * q = 600 * (f * q) - 9 * (l * q) := by rw [Int.sub_mul, Int.mul_assoc, Int.mul_assoc]
  have e2 : q * 10 * (60 * f) = 600 * (f * q) := by grind
  by_cases c : 60 * f ≤ r
  · have S0 : 0 < 60 * f - l := by omega
    have dm2 := Int.mul_ediv_add_emod (r - 60 * f) (60 * f - l)
    have x0 := Int.emod_nonneg (r - 60 * f) (show 60 * f - l ≠ 0 by omega)
    have x1 := Int.emod_lt_of_pos (r - 60 * f) S0
    have k0 : 0 ≤ (r - 60 * f) / (60 * f - l) := Int.ediv_nonneg (by omega) (by omega)
    have k8 : (r - 60 * f) / (60 * f - l) < 9 := Int.ediv_lt_of_lt_mul S0 (by omega)
    rw [if_pos c]
    generalize (r - 60 * f) / (60 * f - l) = k at *
    generalize (r - 60 * f) % (60 * f - l) = x at *
    have e3 : (60 * f - l) * k = 60 * (f * k) - l * k := by rw [Int.sub_mul, Int.mul_assoc]
    have e4 : l * (1 + k) = l + l * k := by rw [Int.mul_add, Int.mul_one]
    have e5 : (10 * q + (1 + k)) * (60 * f) = 600 * (f * q) + 60 * f + 60 * (f * k) := by grind
    have e6 : l * (9 * q + (1 + k)) = 9 * (l * q) + l + l * k := by grind
    refine ⟨q, 1 + k, x + l, rfl, q0, by omega, by omega, ?_, by omega, by omega, .inr (by omega), ?_⟩
    · omega
    · omega
  · rw [if_neg c]
    have e5 : (10 * q + 0) * (60 * f) = 600 * (f * q) := by grind
    have e6 : l * (9 * q + 0) = 9 * (l * q) := by grind
    refine ⟨q, 0, r, rfl, q0, by omega, by omega, ?_, by omega, by omega, .inl rfl, ?_⟩
    · omega
    · omega
theorem num_back (f l fr : Int) (h : Full f l) (h0 : 0 ≤ fr) : skipB f l (numI f l fr) = false ∧ frmI f l (numI f l fr) = fr := by
  obtain ⟨q, j, x, _, q0, j0, j9, hN, x0, x1, jl, hf⟩ := num_parts f l fr h h0
  obtain ⟨f1, f2, l1, l2⟩ := h
  have u := (Int.ediv_emod_unique (show 0 < 60 * f by omega) (a := numI f l fr) (r := x) (q := 10 * q + j)).2 ⟨by rw [hN, Int.mul_comm (60 * f)]; omega, x0, x1⟩
  unfold skipB frmI
  rw [u.1, u.2, show (10 * q + j) % 10 = j by omega, show 10 * q + j - (10 * q + j) / 10 = 9 * q + j by omega]
  refine ⟨decide_eq_false fun y => ?_, by rw [hN]; omega⟩
  rcases jl with e | e
  · exact y.1 e
  · omega
theorem num_hours (f l fr : Int) (h : Full f l) (h0 : 0 ≤ fr) (hb : fr ≤ 360000 * f) : (numI f l fr).toNat / f.toNat / 3600 < 1000 ∧ 0 ≤ numI f l fr := by
  obtain ⟨q, j, x, hq, q0, j0, j9, hN, x0, x1, _, _⟩ := num_parts f l fr h h0
  obtain ⟨f1, f2, l1, l2⟩ := h
  have q1 : q ≤ 639 := by
    rw [hq]
    refine Int.le_of_lt_add_one (Int.ediv_lt_of_lt_mul (by omega) ?_)
    omega
  have y0 : 0 ≤ (10 * q + j) * (60 * f) := Int.mul_nonneg (by omega) (by omega)
  have y : (10 * q + j) * (60 * f) ≤ 6399 * (60 * f) := Int.mul_le_mul_of_nonneg_right (by omega) (by omega)
  have z : numI f l fr < 384000 * f := by rw [hN]; omega
  have z0 : 0 ≤ numI f l fr := by rw [hN]; omega
  refine ⟨?_, z0⟩
  have : (numI f l fr).toNat / f.toNat < 384000 := Nat.div_lt_of_lt_mul (by omega)
  omega
theorem frame_few (n d fr : Int) (dr : Bool) (h : checkI n d dr = 0) (hb : fr * d ≤ 360000 * n) : fr ≤ 360000 * fullI n d := by
  obtain ⟨n1, d1, _, nd, hF⟩ := full_ok n d dr h
  have e := Int.mul_ediv_add_emod (n + d - 1) d
  have r1 := Int.emod_lt_of_pos (n + d - 1) (show 0 < d by omega)
  have k : n ≤ d * fullI n d := by unfold fullI; omega
  have y : fr * d ≤ (360000 * fullI n d) * d := by
    rw [Int.mul_assoc, Int.mul_comm (fullI n d) d]
    omega
  exact Int.le_of_mul_le_mul_right y (by omega)
/-- A frame's label has its number. -/
theorem label_back (n d : Int) (dr : Bool) (fr : Int) (h : checkI n d dr = 0) (hb : 0 ≤ fr ∧ fr * d ≤ 360000 * n) : numF n d dr (labelF n d dr fr) = (fr, 0) := by
  obtain ⟨n1, d1, _, nd, hF⟩ := full_ok n d dr h
  have f1 := hF.1
  have f2 := hF.2.1
  have hh := num_hours _ _ fr hF hb.1 (frame_few n d fr dr h hb.2)
  have nb := num_back _ _ fr hF hb.1
  unfold numF labelF readF
  rw [if_pos h, read_dial 2 _ _ _ _ false (by omega) (by omega) (by omega) (by split <;> omega) (by split <;> omega) hh.1]
  unfold toldF
  have e : (((numI (fullI n d) (if dr = true then leftI n d else 0) fr).toNat : Nat) : Int) = numI (fullI n d) (if dr = true then leftI n d else 0) fr := Int.toNat_of_nonneg hh.2
  rw [if_neg (by simp)]
  show (if skipB _ _ (((numI (fullI n d) (if dr = true then leftI n d else 0) fr).toNat : Nat) : Int) = true then _ else _) = _
  simp only [e]
  rw [nb.1, nb.2, if_neg (by simp), if_pos hb]
end Go.Proofs.YtaipdckakgohjaaGreatDoor

/- A dial's text, read from the left and from the right: the same: mathematics. -/
namespace Go.Proofs.YtaipdckakgohjaaGreatDoor
open Go.RowKit Go.Shelf

/-- Read from the left: four numbers, where the reader stands, whether it is bad. -/
structure Chain where
  h : Int
  m : Int
  s : Int
  x : Int
  k : Nat
  b : Bool
def chainS (least : Nat) (mk : UInt8) (dg : Nat) (l : List UInt8) (k0 : Nat) : Chain :=
  let c1 := hrS least l k0 false
  let c2 := markS 58 l c1.2.1 c1.2.2
  let c3 := sxS l c2.1 c2.2
  let c4 := markS 58 l c3.2.1 c3.2.2
  let c5 := sxS l c4.1 c4.2
  let c6 := markS mk l c5.2.1 c5.2.2
  let c7 := rdS dg l c6.1 c6.2
  ⟨c1.1, c3.1, c5.1, c7.1, c7.2.1, c7.2.2⟩
theorem runC_all (q t : List UInt8) (h : q.all isDig = true) : q.length ≤ runC (q ++ t) := by
  induction q with
  | nil => simp
  | cons c q ih =>
    rw [List.all_cons, Bool.and_eq_true] at h
    have := ih h.2
    show (c :: q).length ≤ (if isDig c = true then runC (q ++ t) + 1 else 0)
    rw [if_pos h.1, List.length_cons]
    omega
theorem runC_stop (q t : List UInt8) (c : UInt8) (h : q.all isDig = true) (hc : isDig c = false) : runC (q ++ c :: t) = q.length := by
  induction q with
  | nil =>
    show (if isDig c = true then runC t + 1 else 0) = 0
    rw [if_neg (by rw [hc]; simp)]
  | cons a q ih =>
    rw [List.all_cons, Bool.and_eq_true] at h
    show (if isDig a = true then runC (q ++ c :: t) + 1 else 0) = (a :: q).length
    rw [if_pos h.1, ih h.2, List.length_cons]
theorem runC_dig (l : List UInt8) (m : Nat) (h : m ≤ runC l) : (l.take m).all isDig = true ∧ (l.take m).length = m := by
  refine ⟨?_, by have := runC_le l; simp; omega⟩
  induction l generalizing m with
  | nil => simp
  | cons c t ih =>
    cases m with
    | zero => simp
    | succ m =>
      unfold runC at h
      by_cases hc : isDig c = true
      · rw [if_pos hc] at h
        rw [List.take_succ_cons, List.all_cons, hc, ih m (by omega)]
        rfl
      · rw [if_neg hc] at h
        omega
theorem rd_at (m : Nat) (l q t : List UInt8) (k : Nat) (b : Bool) (hd : l.drop k = q ++ t) (hq : q.all isDig = true) (hm : q.length = m) : rdS m l k b = (((valN q : Nat) : Int), k + m, b) ∧ l.drop (k + m) = t := by
  have r := runC_all q t hq
  unfold rdS
  rw [hd, if_pos (by omega), List.take_left' hm]
  refine ⟨rfl, ?_⟩
  rw [← List.drop_drop, hd]
  exact List.drop_left' hm
theorem rd_of (m : Nat) (l : List UInt8) (k : Nat) (b : Bool) (h : (rdS m l k b).2.2 = false) : b = false ∧ ((l.drop k).take m).all isDig = true ∧ ((l.drop k).take m).length = m ∧ rdS m l k b = (((valN ((l.drop k).take m) : Nat) : Int), k + m, false) := by
  unfold rdS at h ⊢
  by_cases c : m ≤ runC (l.drop k)
  · rw [if_pos c] at h ⊢
    have := runC_dig (l.drop k) m c
    simp only at h
    subst h
    exact ⟨rfl, this.1, this.2, rfl⟩
  · rw [if_neg c] at h
    cases h
theorem mark_at (c : UInt8) (l t : List UInt8) (k : Nat) (b : Bool) (hd : l.drop k = c :: t) : markS c l k b = (k + 1, b) ∧ l.drop (k + 1) = t := by
  have e : l[k]? = some c := by
    rw [← List.head?_drop, hd]
    rfl
  unfold markS
  rw [if_pos e]
  refine ⟨rfl, ?_⟩
  rw [← List.drop_drop, hd]
  rfl
theorem mark_of (c : UInt8) (l : List UInt8) (k : Nat) (b : Bool) (h : (markS c l k b).2 = false) : b = false ∧ l.drop k = c :: l.drop (k + 1) ∧ markS c l k b = (k + 1, false) := by
  unfold markS at h ⊢
  by_cases e : l[k]? = some c
  · rw [if_pos e] at h ⊢
    simp only at h
    subst h
    obtain ⟨hk, hc⟩ := List.getElem?_eq_some_iff.1 e
    exact ⟨rfl, by rw [List.drop_eq_getElem_cons hk, hc], rfl⟩
  · rw [if_neg e] at h
    cases h
theorem sx_at (l q t : List UInt8) (k : Nat) (b : Bool) (hd : l.drop k = q ++ t) (hq : q.all isDig = true) (hm : q.length = 2) (hv : valN q < 60) : sxS l k b = (((valN q : Nat) : Int), k + 2, b) ∧ l.drop (k + 2) = t := by
  obtain ⟨e, e2⟩ := rd_at 2 l q t k b hd hq hm
  unfold sxS
  rw [e]
  refine ⟨?_, e2⟩
  simp only
  rw [decide_eq_false (by omega), Bool.or_false]
theorem sx_of (l : List UInt8) (k : Nat) (b : Bool) (h : (sxS l k b).2.2 = false) : b = false ∧ ((l.drop k).take 2).all isDig = true ∧ ((l.drop k).take 2).length = 2 ∧ valN ((l.drop k).take 2) < 60 ∧ sxS l k b = (((valN ((l.drop k).take 2) : Nat) : Int), k + 2, false) := by
  unfold sxS at h ⊢
  simp only [Bool.or_eq_false_iff, decide_eq_false_iff_not] at h
  obtain ⟨e0, e1, e2, e3⟩ := rd_of 2 l k b h.1
  rw [e3] at h ⊢
  have h2 := h.2
  simp only at h2
  refine ⟨e0, e1, e2, by omega, ?_⟩
  simp only
  rw [decide_eq_false (by omega), Bool.or_false]
theorem hr_at (least : Nat) (l q t : List UInt8) (k : Nat) (b : Bool) (hd : l.drop k = q ++ 58 :: t) (hq : q.all isDig = true) (h1 : least ≤ q.length) (h2 : q.length ≤ 3) (h3 : least < q.length → q.head? ≠ some 48) : hrS least l k b = (((valN q : Nat) : Int), k + q.length, b) ∧ l.drop (k + q.length) = 58 :: t := by
  have r := runC_stop q t 58 hq rfl
  unfold hrS
  rw [hd, r, List.take_left' rfl, if_neg]
  · refine ⟨rfl, ?_⟩
    rw [← List.drop_drop, hd]
    exact List.drop_left' rfl
  · rintro (c | c | ⟨c, d⟩)
    · omega
    · omega
    · apply h3 c
      rw [← List.head?_drop, hd] at d
      cases q with
      | nil => simp at c
      | cons a q => exact d
theorem hr_of (least : Nat) (l : List UInt8) (k : Nat) (b : Bool) (h0 : 1 ≤ least) (h : (hrS least l k b).2.2 = false) : b = false ∧ ∃ q, q = (l.drop k).take q.length ∧ q.all isDig = true ∧ least ≤ q.length ∧ q.length ≤ 3 ∧ (least < q.length → q.head? ≠ some 48) ∧ hrS least l k b = (((valN q : Nat) : Int), k + q.length, false) := by
  unfold hrS at h ⊢
  by_cases c : runC (l.drop k) < least ∨ 3 < runC (l.drop k) ∨ (least < runC (l.drop k) ∧ l[k]? = some 48)
  · rw [if_pos c] at h
    cases h
  · rw [if_neg c] at h ⊢
    simp only at h
    subst h
    obtain ⟨e1, e2⟩ := runC_dig (l.drop k) _ (Nat.le_refl _)
    refine ⟨rfl, (l.drop k).take (runC (l.drop k)), by rw [e2], e1, ?_, ?_, ?_, by rw [e2]⟩
    · rw [e2]
      exact Nat.le_of_not_lt fun x => c (.inl x)
    · rw [e2]
      exact Nat.le_of_not_lt fun x => c (.inr (.inl x))
    · rw [e2]
      intro x y
      apply c
      refine .inr (.inr ⟨x, ?_⟩)
      rw [← List.head?_drop]
      cases hd : l.drop k with
      | nil => rw [hd] at x; simp [runC] at x
      | cons a q =>
        rw [hd] at y
        obtain ⟨j, hj⟩ : ∃ j, runC (a :: q) = j + 1 := ⟨runC (a :: q) - 1, by rw [hd] at x; omega⟩
        rw [hj] at y
        exact y
theorem take_two (l : List UInt8) (k : Nat) : (l.drop k).take 2 ++ l.drop (k + 2) = l.drop k := by
  have := List.take_append_drop 2 (l.drop k)
  rw [List.drop_drop] at this
  exact this
/-- A text of that form. -/
structure FormL (least : Nat) (mk : UInt8) (dg : Nat) (l a b c d : List UInt8) : Prop where
  eq : l = a ++ 58 :: (b ++ 58 :: (c ++ mk :: d))
  a1 : a.all isDig = true
  a2 : least ≤ a.length
  a3 : a.length ≤ 3
  a4 : least < a.length → a.head? ≠ some 48
  b1 : b.all isDig = true
  b2 : b.length = 2
  b3 : valN b < 60
  c1 : c.all isDig = true
  c2 : c.length = 2
  c3 : valN c < 60
  d1 : d.all isDig = true
  d2 : d.length = dg
theorem form_chain {least : Nat} {mk : UInt8} {dg : Nat} {l a b c d : List UInt8} (F : FormL least mk dg l a b c d) : chainS least mk dg l 0 = ⟨(valN a : Nat), (valN b : Nat), (valN c : Nat), (valN d : Nat), l.length, false⟩ := by
  obtain ⟨e1, n1⟩ := hr_at least l a _ 0 false F.eq F.a1 F.a2 F.a3 F.a4
  obtain ⟨e2, n2⟩ := mark_at 58 l _ _ false n1
  obtain ⟨e3, n3⟩ := sx_at l b _ _ false n2 F.b1 F.b2 F.b3
  obtain ⟨e4, n4⟩ := mark_at 58 l _ _ false n3
  obtain ⟨e5, n5⟩ := sx_at l c _ _ false n4 F.c1 F.c2 F.c3
  obtain ⟨e6, n6⟩ := mark_at mk l _ _ false n5
  obtain ⟨e7, n7⟩ := rd_at dg l d [] _ false (by rw [List.append_nil]; exact n6) F.d1 F.d2
  unfold chainS
  simp only [e1, e2, e3, e4, e5, e6, e7]
  have := congrArg List.length F.eq
  simp only [List.length_append, List.length_cons, F.b2, F.c2, F.d2] at this
  rw [show 0 + a.length + 1 + 2 + 1 + 2 + 1 + dg = l.length by omega]
theorem chain_form {least : Nat} {mk : UInt8} {dg : Nat} {l : List UInt8} (h0 : 1 ≤ least) (hb : (chainS least mk dg l 0).b = false) (hk : (chainS least mk dg l 0).k = l.length) : ∃ a b c d, FormL least mk dg l a b c d := by
  unfold chainS at hb hk
  simp only at hb hk
  obtain ⟨f6, q7, s7, e7⟩ := rd_of dg l _ _ hb
  obtain ⟨f5, q6, e6⟩ := mark_of mk l _ _ f6
  obtain ⟨f4, q5, s5, v5, e5⟩ := sx_of l _ _ f5
  obtain ⟨f3, q4, e4⟩ := mark_of 58 l _ _ f4
  obtain ⟨f2, q3, s3, v3, e3⟩ := sx_of l _ _ f3
  obtain ⟨f1, q2, e2⟩ := mark_of 58 l _ _ f2
  obtain ⟨_, a, ha, a1, a2, a3, a4, e1⟩ := hr_of least l 0 false h0 f1
  rw [e1] at e2 q2 e3 q3 s3 v3 e4 q4 e5 q5 s5 v5 e6 q6 e7 q7 s7 hk
  simp only [e2] at e3 q3 s3 v3 e4 q4 e5 q5 s5 v5 e6 q6 e7 q7 s7 hk
  simp only [e3] at e4 q4 e5 q5 s5 v5 e6 q6 e7 q7 s7 hk
  simp only [e4] at e5 q5 s5 v5 e6 q6 e7 q7 s7 hk
  simp only [e5] at e6 q6 e7 q7 s7 hk
  simp only [e6] at e7 q7 s7 hk
  simp only [e7] at hk
  have l0 : l = a ++ l.drop a.length := by
    rw [List.drop_zero] at ha
    conv => lhs; rw [← List.take_append_drop a.length l]
    rw [← ha]
  generalize hA : a.length = A at *
  simp only [Nat.zero_add] at *
  have t3 : l.drop (A + 1) = (l.drop (A + 1)).take 2 ++ l.drop (A + 1 + 2) := (take_two l (A + 1)).symm
  have t5 : l.drop (A + 1 + 2 + 1) = (l.drop (A + 1 + 2 + 1)).take 2 ++ l.drop (A + 1 + 2 + 1 + 2) := (take_two l (A + 1 + 2 + 1)).symm
  have t7 : (l.drop (A + 1 + 2 + 1 + 2 + 1)).take dg = l.drop (A + 1 + 2 + 1 + 2 + 1) := List.take_of_length_le (by simp; omega)
  rw [t7] at q7 s7
  refine ⟨a, (l.drop (A + 1)).take 2, (l.drop (A + 1 + 2 + 1)).take 2, l.drop (A + 1 + 2 + 1 + 2 + 1), ⟨?_, a1, by omega, by omega, by rw [hA]; exact a4, q3, s3, v3, q5, s5, v5, q7, s7⟩⟩
  rw [← q6, ← t5, ← q4, ← t3, ← q2]
  exact l0
theorem form_read {least : Nat} {mk : UInt8} {dg : Nat} {l a b c d : List UInt8} (per : Nat) (F : FormL least mk dg l a b c d) (hd : valN d < per) :
    readA least mk per dg false l = (((((valN a : Nat) : Int) * 60 + (valN b : Nat)) * 60 + (valN c : Nat)) * per + (valN d : Nat), true) := by
  have D : ∀ q : List UInt8, q.all isDig = true → digA q = (((valN q : Nat) : Int), true) := fun q hq => by
    unfold digA
    rw [if_pos hq]
  have hA : hoursA least false (a ++ [58]) = (((valN a : Nat) : Int), true) := by
    unfold hoursA
    rw [if_neg (by simp), (has_colon _).1, (has_colon _).2, D a F.a1, if_neg]
    rintro (x | x | x | ⟨x, y⟩)
    · cases x
    · have := F.a2; omega
    · have := F.a3; omega
    · exact F.a4 x y
  have := read_form least per dg mk false (a ++ [58]) b c d _ _ _ _ F.b2 F.c2 F.d2 hA (D b F.b1) (D c F.c1) (D d F.d1) (by have := F.b3; omega) (by have := F.c3; omega) (by omega)
  rw [F.eq]
  simp only [List.append_assoc, List.cons_append, List.nil_append] at this ⊢
  exact this
theorem dig_of_true (q : List UInt8) (h : (digA q).2 = true) : q.all isDig = true ∧ digA q = (((valN q : Nat) : Int), true) := by
  unfold digA at h ⊢
  by_cases c : q.all isDig = true
  · rw [if_pos c]
    exact ⟨c, rfl⟩
  · rw [if_neg c] at h
    cases h
theorem read_formL {least : Nat} {mk : UInt8} {dg : Nat} {l : List UInt8} (per : Nat) (h : (readA least mk per dg false l).2 = true) : ∃ a b c d, FormL least mk dg l a b c d ∧ valN d < per := by
  unfold readA at h
  split at h
  · cases h
  · split at h
    · cases h
    · split at h
      · rename_i h1 h2 h3
        clear h
        simp only [Bool.and_eq_true, decide_eq_true_eq] at h3
        obtain ⟨⟨⟨ha, hb, hb2⟩, hc, hc2⟩, hd, hd2⟩ := h3
        generalize hk : l.length - 6 - dg = k at *
        have m1 : (l.drop (k + 2)).head? = some 58 := by
          refine Classical.byContradiction fun x => h2 (.inl x)
        have m2 : (l.drop (k + 5)).head? = some mk := by
          refine Classical.byContradiction fun x => h2 (.inr x)
        obtain ⟨b1, b2⟩ := dig_of_true _ hb
        obtain ⟨c1, c2⟩ := dig_of_true _ hc
        obtain ⟨d1, d2⟩ := dig_of_true _ hd
        rw [b2] at hb2
        rw [c2] at hc2
        rw [d2] at hd2
        unfold hoursA at ha
        split at ha
        · cases ha
        · split at ha
          · cases ha
          · rename_i h4 h5
            obtain ⟨a1, _⟩ := dig_of_true _ ha
            have hs : Lib.hasSuffix (l.take k) [58] = true := by
              cases hx : Lib.hasSuffix (l.take k) [58]
              · exact absurd (.inl hx) h5
              · rfl
            obtain ⟨t, ht⟩ := List.isSuffixOf_iff_suffix.1 hs
            have tt := (has_colon t).2
            rw [ht] at tt
            rw [tt] at a1 h5
            have p1 : l.drop (k + 2) = 58 :: l.drop (k + 3) := by
              rw [List.head?_drop] at m1
              obtain ⟨hk2, hc⟩ := List.getElem?_eq_some_iff.1 m1
              rw [List.drop_eq_getElem_cons hk2, hc]
            have p2 : l.drop (k + 5) = mk :: l.drop (k + 6) := by
              rw [List.head?_drop] at m2
              obtain ⟨hk2, hc⟩ := List.getElem?_eq_some_iff.1 m2
              rw [List.drop_eq_getElem_cons hk2, hc]
            refine ⟨t, (l.drop k).take 2, (l.drop (k + 3)).take 2, l.drop (k + 6), ⟨?_, a1, ?_, ?_, ?_, b1, by simp; omega, by omega, c1, by simp; omega, by omega, d1, by simp; omega⟩, by omega⟩
            · rw [← p2, show k + 5 = k + 3 + 2 by omega, take_two l (k + 3), ← p1, take_two l k]
              rw [show t ++ 58 :: List.drop k l = (t ++ [58]) ++ List.drop k l by simp, ht, List.take_append_drop]
            · exact Nat.le_of_not_lt fun x => h5 (.inr (.inl x))
            · exact Nat.le_of_not_lt fun x => h5 (.inr (.inr (.inl x)))
            · intro x y
              exact h5 (.inr (.inr (.inr ⟨x, y⟩)))
      · cases h
theorem read_no {least : Nat} {mk : UInt8} {dg per : Nat} {l : List UInt8} {s : Bool} (h : ¬ (readA least mk per dg s l).2 = true) : readA least mk per dg s l = (0, false) := by
  unfold readA at h ⊢
  split
  · rfl
  · rename_i h1
    rw [if_neg h1] at h
    split
    · rfl
    · rename_i h2
      rw [if_neg h2] at h
      split
      · rename_i h3
        rw [if_pos h3] at h
        exact absurd rfl h
      · rfl
/-- From the left and from the right: the same. -/
theorem chain_read (least : Nat) (mk : UInt8) (dg per : Nat) (l : List UInt8) (h0 : 1 ≤ least) :
    readA least mk per dg false l = if (chainS least mk dg l 0).b = false ∧ (chainS least mk dg l 0).k = l.length ∧ (chainS least mk dg l 0).x < per then ((((chainS least mk dg l 0).h * 60 + (chainS least mk dg l 0).m) * 60 + (chainS least mk dg l 0).s) * per + (chainS least mk dg l 0).x, true) else (0, false) := by
  by_cases ok : (chainS least mk dg l 0).b = false ∧ (chainS least mk dg l 0).k = l.length ∧ (chainS least mk dg l 0).x < per
  · rw [if_pos ok]
    obtain ⟨a, b, c, d, F⟩ := chain_form h0 ok.1 ok.2.1
    have e := form_chain F
    rw [e] at ok ⊢
    exact form_read per F (by have := ok.2.2; simp only at this; omega)
  · rw [if_neg ok]
    refine read_no fun x => ok ?_
    obtain ⟨a, b, c, d, F, hd⟩ := read_formL per x
    rw [form_chain F]
    exact ⟨rfl, rfl, by simp only; omega⟩
end Go.Proofs.YtaipdckakgohjaaGreatDoor
