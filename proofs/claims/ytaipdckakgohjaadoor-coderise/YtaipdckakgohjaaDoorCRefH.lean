/- surtitleref5.Label at every frame. -/
import Derived.Test.YtaipdckakgohjaaDoorCRefG
namespace Go.Proofs.YtaipdckakgohjaaDoor
open Go.RowKit Go.Shelf

theorem num_at (f l : Int) (h : Full f l) (fr q r0 : Int) (hq : fr / (600 * f - 9 * l) = q) (hr : fr % (600 * f - 9 * l) = r0) (j x u F M : Int) (hj : 0 ≤ j ∧ j ≤ 9) (hx0 : 0 ≤ x) (hx : x + gone f l j = r0) (uc : (j = 0 ∧ u = 0) ∨ (1 ≤ j ∧ u = l)) (hx2 : x < 60 * f - u) (hF : x + u = F) (hM : j + 10 * q = M) :
    numI f l fr = M * (60 * f) + F ∧ 0 ≤ F ∧ F < 60 * f := by
  obtain ⟨f1, f2, l1, l2⟩ := h
  unfold numI
  rw [hq, hr]
  have e0 : q * 10 * (60 * f) = 10 * q * (60 * f) := by rw [Int.mul_comm q 10]
  have e1 : M * (60 * f) = j * (60 * f) + 10 * q * (60 * f) := by rw [← hM, Int.add_mul]
  rcases uc with ⟨rfl, rfl⟩ | ⟨j1, rfl⟩
  · unfold gone at hx
    rw [if_pos rfl] at hx
    rw [if_neg (by omega), e0, e1]
    omega
  · unfold gone at hx
    rw [if_neg (by omega)] at hx
    have c1 : 60 * f * j = j * (60 * f) := Int.mul_comm _ _
    have c2 : (60 * f - u) * (j - 1) = 60 * f * j - 60 * f - u * (j - 1) := by rw [Int.sub_mul, Int.mul_sub, Int.mul_one]
    have c3 : u * (j - 1) = u * j - u := by rw [Int.mul_sub, Int.mul_one]
    have c4 : 0 ≤ (60 * f - u) * (j - 1) := Int.mul_nonneg (by omega) (by omega)
    have dv : (r0 - 60 * f) / (60 * f - u) = j - 1 := (Int.ediv_emod_unique (by omega) (r := x) |>.2 ⟨by rw [c2]; omega, by omega, by omega⟩).1
    rw [dv, if_pos (by omega), e0, e1, show (1 : Int) + (j - 1) = j by omega]
    omega
theorem dial_at (mk : UInt8) (f wd M F : Nat) (hf : 0 < f) (hF : F < 60 * f) : dialL 2 mk f wd (M * (60 * f) + F) = padL (M / 60) 2 ++ [58] ++ padL (M % 60) 2 ++ [58] ++ padL (F / f) 2 ++ [mk] ++ padL (F % f) wd := by
  have e1 : (M * (60 * f) + F) / f = M * 60 + F / f := by
    rw [show M * (60 * f) + F = F + f * (M * 60) by rw [Nat.add_comm, Nat.mul_comm f, Nat.mul_assoc], Nat.add_mul_div_left _ _ hf, Nat.add_comm]
  have e2 : (M * (60 * f) + F) % f = F % f := by
    rw [show M * (60 * f) + F = F + f * (M * 60) by rw [Nat.add_comm, Nat.mul_comm f, Nat.mul_assoc], Nat.add_mul_mod_self_left]
  have e3 : F / f < 60 := (Nat.div_lt_iff_lt_mul hf).2 hF
  unfold dialL
  rw [e1, e2]
  generalize F / f = c at *
  rw [show (M * 60 + c) / 3600 = M / 60 by omega, show (M * 60 + c) / 60 % 60 = M % 60 by omega, show (M * 60 + c) % 60 = c by omega]
theorem rlabel_ok (n d : Int) (dr : Bool) (fr : Int) (h : checkI n d dr = 0) (hb : 0 ≤ fr ∧ fr * d ≤ 360000 * n) (w : World) :
    Calls Tryd.prog 25 #[.agg #[.int .i64 n, .int .i64 d, .bool dr], .int .i64 fr] w fun e w' => e = .returned (.tuple #[.string (bs (labelF n d dr fr)), .int .i64 0]) ∧ Below w.heap.size w w' := by
  obtain ⟨n1, d1, _, nd, hF⟩ := full_ok n d dr h
  have HC := rcheck_any n d dr
  rw [h] at HC
  have HL := rlast_any n d dr n1 d1
  have HFu := rfull_any n d dr n1 d1
  have HE := fun w => rleft_walk n d (fullI n d) _ dr ⟨by have := hF.1; omega, hF.2.1⟩ rfl w HFu
  rw [left_eq h] at HE
  have HU := fun (m : Int) (hm : 0 ≤ m ∧ m ≤ 20) w => rout_walk n d _ m dr ⟨hm.1, by omega⟩ w HE
  have HV : ∀ w, Calls Tryd.prog 54 #[.int .i64 (fullI n d)] w fun e w' => e = .returned (.int .i64 ((if 100 < fullI n d then 3 else 2 : Nat) : Nat)) ∧ Below w.heap.size w w' := fun w => by
    have := (rwide_any (fullI n d) w).mono fun e w' (x : e = .returned (.int .i64 (if 100 < fullI n d then 3 else 2)) ∧ w' = w) => (⟨x.1, x.2 ▸ Below.refl _ _⟩ : e = .returned (.int .i64 (if 100 < fullI n d then 3 else 2)) ∧ Below w.heap.size w w')
    rw [show (((if 100 < fullI n d then 3 else 2 : Nat) : Nat) : Int) = (if 100 < fullI n d then (3 : Int) else 2) by split <;> rfl]
    exact this
  have y : fr * d ≤ 86400000 * d := by omega
  have fb : fr ≤ 86400000 := Int.le_of_mul_le_mul_right y (by omega)
  have fl : fr ≤ 360000 * n / d := (last_iff n d fr d1.1).2 hb.2
  obtain ⟨fn, hfn⟩ := Int.eq_ofNat_of_zero_le hb.1
  obtain ⟨f, hf⟩ := Int.eq_ofNat_of_zero_le (show 0 ≤ fullI n d by have := hF.1; omega)
  obtain ⟨l, hl⟩ : ∃ l, (if dr = true then leftI n d else 0) = l := ⟨_, rfl⟩
  unfold labelF
  rw [hl] at hF HE HU ⊢
  rw [hf] at hF HFu HV ⊢
  have F1 := hF.1
  have F2 := hF.2.1
  have L1 := hF.2.2.1
  have L2 := hF.2.2.2
  have T0 : 0 < 600 * (f : Int) - 9 * l := by omega
  obtain ⟨q, hq⟩ := Int.eq_ofNat_of_zero_le (Int.ediv_nonneg hb.1 (show 0 ≤ 600 * (f : Int) - 9 * l by omega))
  obtain ⟨r0, hr⟩ := Int.eq_ofNat_of_zero_le (Int.emod_nonneg fr (show 600 * (f : Int) - 9 * l ≠ 0 by omega))
  have r1 := Int.emod_lt_of_pos fr T0
  have q1 : fr / (600 * (f : Int) - 9 * l) ≤ fr := Int.ediv_le_self _ hb.1
  have HX : ∀ (mk : UInt8) (wd : Nat) (j x M F : Nat) (u : Int), j ≤ 9 → (x : Int) + gone f l j = r0 → ((j = 0 ∧ u = 0) ∨ (1 ≤ j ∧ u = l)) → (x : Int) < 60 * (f : Int) - u → (x : Int) + u = F → (j : Int) + 10 * (q : Int) = M → padL (M / 60) 2 ++ [58] ++ padL (M % 60) 2 ++ [58] ++ padL (F / f) 2 ++ [mk] ++ padL (F % f) wd = dialL 2 mk f wd (numI f l fr).toNat := by
    intro mk wd j x M F u a1 a2 a3 a4 a5 a6
    obtain ⟨b1, b2, b3⟩ := num_at f l hF fr q r0 hq hr j x u F M ⟨by omega, by omega⟩ (by omega) a2 (by omega) a4 a5 a6
    rw [b1, show ((M : Int) * (60 * (f : Int)) + (F : Int)).toNat = M * (60 * f) + F by rw [show (M : Int) * (60 * (f : Int)) + (F : Int) = ((M * (60 * f) + F : Nat) : Int) by simp]; exact Int.toNat_natCast _]
    exact (dial_at mk f wd M F (by omega) (by omega)).symm
  rw [show ((f : Int).toNat) = f by omega]
  rw [hfn] at hq hr fl HX r1 q1 ⊢
  cases dr
  · exact rlb_okf n d _ l _ fn f q r0 _ _ fl (by omega) hF rfl T0 hq hr (by omega) (by omega) (hideR (by split <;> omega)) w HC HL HFu HE HU HV (hideR (HX 58 _))
  · exact rlb_okt n d _ l _ fn f q r0 _ _ fl (by omega) hF rfl T0 hq hr (by omega) (by omega) (hideR (by split <;> omega)) w HC HL HFu HE HU HV (hideR (HX 59 _))
theorem rlabel_no (n d : Int) (dr : Bool) (fr : Int) (h : checkI n d dr = 0) (hb : ¬ (0 ≤ fr ∧ fr * d ≤ 360000 * n)) (w : World) :
    Calls Tryd.prog 25 #[.agg #[.int .i64 n, .int .i64 d, .bool dr], .int .i64 fr] w fun e w' => e = .returned (.tuple #[.string ⟨#[]⟩, .int .i64 31]) ∧ Below w.heap.size w w' := by
  obtain ⟨n1, d1, _, _, _⟩ := full_ok n d dr h
  have HC := rcheck_any n d dr
  rw [h] at HC
  by_cases f0 : fr < 0
  · exact rlb_neg n d fr dr f0 w HC
  · exact rlb_far n d fr _ dr (by omega) (by have := (last_iff n d fr d1.1).1; omega) w HC (rlast_any n d dr n1 d1)
end Go.Proofs.YtaipdckakgohjaaDoor
