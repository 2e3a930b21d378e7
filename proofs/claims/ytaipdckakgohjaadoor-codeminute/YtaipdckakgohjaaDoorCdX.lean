/- surtitlelaw5's within, two, three. -/
import Derived.Test.YtaipdckakgohjaaDoorCRefD
import Derived.Test.YtaipdckakgohjaaDoorCdM
namespace Go.Proofs.YtaipdckakgohjaaDoor
open Go.RowKit Go.Shelf
attribute [local go_sem] Oper.semAt_some

theorem pad2 (n : Nat) (h : n < 100) : padL n 2 = [UInt8.ofNat (48 + n / 10), UInt8.ofNat (48 + n % 10)] := by
  have e : moreD n 2 = padL n 2 := if_neg (by omega)
  have z : moreD 0 0 = [] := if_pos ⟨rfl, rfl⟩
  rw [← e, more_step n 2 (by omega), more_step (n / 10) 1 (by omega), show n / 10 / 10 = 0 by omega, show 2 - 1 - 1 = 0 from rfl, z, show n / 10 % 10 = n / 10 by omega]
  rfl
theorem pad3 (n : Nat) (h : n < 1000) : padL n 3 = [UInt8.ofNat (48 + n / 100), UInt8.ofNat (48 + n / 10 % 10), UInt8.ofNat (48 + n % 10)] := by
  have e : moreD n 3 = padL n 3 := if_neg (by omega)
  have z : moreD 0 0 = [] := if_pos ⟨rfl, rfl⟩
  rw [← e, more_step n 3 (by omega), more_step (n / 10) 2 (by omega), more_step (n / 10 / 10) 1 (by omega), show n / 10 / 10 / 10 = 0 by omega, show 3 - 1 - 1 - 1 = 0 from rfl, z, show n / 10 / 10 % 10 = n / 100 by omega]
  rfl
set_option maxRecDepth 100000 in
theorem conv2 (V : World) (b : Nat) (y z : Int) (h0 : V.cell? ⟨b, 0, none⟩ = some (.int .u8 y)) (h1 : V.cell? ⟨b, 1, none⟩ = some (.int .u8 z)) :
    (convert 94 9 (.slice (some ⟨b, 0, none⟩) 2 2)).run Tryd.prog V = .ok (.string (bs [UInt8.ofNat y.toNat, UInt8.ofNat z.toNat])) V := by
  rw [run_convert_bytes_string V _ _ 5 _ _ _ (by kernel_rfl) (by kernel_rfl) (by kernel_rfl), run_bytesToString V ⟨b, 0, none⟩ 2 2 [y, z] (by go_simp)]
  rfl
set_option maxRecDepth 100000 in
theorem conv3 (V : World) (b : Nat) (x y z : Int) (h0 : V.cell? ⟨b, 0, none⟩ = some (.int .u8 x)) (h1 : V.cell? ⟨b, 1, none⟩ = some (.int .u8 y)) (h2 : V.cell? ⟨b, 2, none⟩ = some (.int .u8 z)) :
    (convert 94 9 (.slice (some ⟨b, 0, none⟩) 3 3)).run Tryd.prog V = .ok (.string (bs [UInt8.ofNat x.toNat, UInt8.ofNat y.toNat, UInt8.ofNat z.toNat])) V := by
  rw [run_convert_bytes_string V _ _ 5 _ _ _ (by kernel_rfl) (by kernel_rfl) (by kernel_rfl), run_bytesToString V ⟨b, 0, none⟩ 3 3 [x, y, z] (by go_simp)]
  rfl
set_option maxRecDepth 100000 in
theorem within_any (a m : Int) (hm : 0 < m ∧ m ≤ 1000000000) (w : World) :
    Calls Tryd.prog 33 #[.int .i64 a, .int .i64 m] w fun e w' => e = .returned (.int .i64 (a % m)) ∧ w' = w := by
  obtain ⟨t, ht⟩ : ∃ t, a.tmod m = t := ⟨_, rfl⟩
  have zt : ∀ w, (Op.intDiv .rem .i64 a m).run Tryd.prog w = .ok (.int .i64 t) w := fun w => by
    unfold Op.intDiv
    rw [if_neg (by omega), ht]
    rfl
  have m0 := Int.emod_nonneg a (show m ≠ 0 by omega)
  have m1 := Int.emod_lt_of_pos a hm.1
  have tm : a % m = if t < 0 then t + m else t := by
    rw [← ht]
    by_cases c : 0 ≤ a
    · have e := Int.tmod_eq_emod_of_nonneg (b := m) c
      rw [e, if_neg (by omega)]
    · have e := Int.tmod_eq_emod (a := a) (b := m)
      have na : (m.natAbs : Int) = m := by omega
      by_cases dv : m ∣ a
      · rw [if_pos (.inr dv)] at e
        have : a % m = 0 := Int.emod_eq_zero_of_dvd dv
        rw [e, this]
        simp
      · rw [if_neg (fun x => x.elim c dv)] at e
        have : a % m ≠ 0 := fun x => dv (Int.dvd_of_emod_eq_zero x)
        rw [e, if_pos (by omega)]
        omega
  have tb : -1000000000 ≤ t ∧ t ≤ 1000000000 := by
    by_cases c : t < 0
    · rw [if_pos c] at tm; omega
    · rw [if_neg c] at tm; omega
  rw [tm]
  clear tm m0 m1
  by_cases c : t < 0
  · rw [if_pos c]
    go_enter Tryd.func33, Tryd.ntmps33
    go_wp2_with fail
    go_ret
    exact ⟨rfl, rfl⟩
  · rw [if_neg c]
    go_enter Tryd.func33, Tryd.ntmps33
    go_wp2_with fail
    go_ret
    exact ⟨rfl, rfl⟩
set_option maxRecDepth 100000 in
theorem two_any (n : Nat) (h : n < 100) (w : World) :
    Calls Tryd.prog 34 #[.int .i64 n] w fun e w' => e = .returned (.string (bs (padL n 2))) ∧ Below w.heap.size w w' := by
  rw [pad2 n h]
  obtain ⟨p, hp⟩ : ∃ p, n / 10 = p := ⟨_, rfl⟩
  obtain ⟨q, hq⟩ : ∃ q, n % 10 = q := ⟨_, rfl⟩
  rw [hp, hq]
  have e1 : (n : Int) / 10 = (p : Int) := by omega
  have e2 : (n : Int) % 10 = (q : Int) := by omega
  have p10 : p < 10 := by omega
  have q10 : q < 10 := by omega
  have w8 : IntKind.u8.wrap (48 + (p : Int)) = 48 + (p : Int) := by rw [IntKind.wrap_u8]; omega
  have w9 : IntKind.u8.wrap (48 + (q : Int)) = 48 + (q : Int) := by rw [IntKind.wrap_u8]; omega
  have kc : ∀ (V : World) (B : Nat), V.cell? ⟨B, 0, none⟩ = some (.int .u8 (48 + (p : Int))) → V.cell? ⟨B, 1, none⟩ = some (.int .u8 (48 + (q : Int))) → (convert 94 9 (.slice (some ⟨B, 0, none⟩) 2 2)).run Tryd.prog V = .ok (.string (bs [UInt8.ofNat (48 + p), UInt8.ofNat (48 + q)])) V := fun V B h0 h1 => by
    have := conv2 V B _ _ h0 h1
    rw [show (48 + (p : Int)).toNat = 48 + p by omega, show (48 + (q : Int)).toNat = 48 + q by omega] at this
    exact this
  generalize bs [UInt8.ofNat (48 + p), UInt8.ofNat (48 + q)] = x at kc ⊢
  clear hp hq
  go_enter Tryd.func34, Tryd.ntmps34
  go_wp2_with fail
  go_ret
  exact ⟨rfl, bel1 w _⟩
set_option maxRecDepth 100000 in
theorem three_any (n : Nat) (wide : Bool) (h : n < 1000) (hw : wide = false → n < 100) (w : World) :
    Calls Tryd.prog 36 #[.int .i64 n, .bool wide] w fun e w' => e = .returned (.string (bs (padL n (if wide = true then 3 else 2)))) ∧ Below w.heap.size w w' := by
  cases wide
  · have HT := hideR (two_any n (hw rfl))
    rw [if_neg (by simp)]
    go_enter Tryd.func36, Tryd.ntmps36
    go_wp2_with fail
    go_at_call 34
    refine (HT.out _).mono ?_
    rintro e w1 ⟨rfl, b1⟩
    go_wp2_with fail
    go_ret
    exact ⟨rfl, b1⟩
  · rw [if_pos rfl, pad3 n h]
    obtain ⟨o, ho⟩ : ∃ p, n / 100 = p := ⟨_, rfl⟩
    obtain ⟨t, htt⟩ : ∃ p, n / 10 = p := ⟨_, rfl⟩
    obtain ⟨p, hp⟩ : ∃ p, t % 10 = p := ⟨_, rfl⟩
    obtain ⟨q, hq⟩ : ∃ q, n % 10 = q := ⟨_, rfl⟩
    rw [ho, htt, hp, hq]
    have e0 : (n : Int) / 100 = (o : Int) := by omega
    have e3 : (n : Int) / 10 = (t : Int) := by omega
    have e1 : (t : Int) % 10 = (p : Int) := by omega
    have e2 : (n : Int) % 10 = (q : Int) := by omega
    have o10 : o < 10 := by omega
    have p10 : p < 10 := by omega
    have q10 : q < 10 := by omega
    have t10 : t < 100 := by omega
    have w7 : IntKind.u8.wrap (48 + (o : Int)) = 48 + (o : Int) := by rw [IntKind.wrap_u8]; omega
    have w8 : IntKind.u8.wrap (48 + (p : Int)) = 48 + (p : Int) := by rw [IntKind.wrap_u8]; omega
    have w9 : IntKind.u8.wrap (48 + (q : Int)) = 48 + (q : Int) := by rw [IntKind.wrap_u8]; omega
    have kc : ∀ (V : World) (B : Nat), V.cell? ⟨B, 0, none⟩ = some (.int .u8 (48 + (o : Int))) → V.cell? ⟨B, 1, none⟩ = some (.int .u8 (48 + (p : Int))) → V.cell? ⟨B, 2, none⟩ = some (.int .u8 (48 + (q : Int))) → (convert 94 9 (.slice (some ⟨B, 0, none⟩) 3 3)).run Tryd.prog V = .ok (.string (bs [UInt8.ofNat (48 + o), UInt8.ofNat (48 + p), UInt8.ofNat (48 + q)])) V := fun V B h0 h1 h2 => by
      have := conv3 V B _ _ _ h0 h1 h2
      rw [show (48 + (o : Int)).toNat = 48 + o by omega, show (48 + (p : Int)).toNat = 48 + p by omega, show (48 + (q : Int)).toNat = 48 + q by omega] at this
      exact this
    generalize bs [UInt8.ofNat (48 + o), UInt8.ofNat (48 + p), UInt8.ofNat (48 + q)] = x at kc ⊢
    clear hp hq ho htt
    go_enter Tryd.func36, Tryd.ntmps36
    go_wp2_with fail
    go_ret
    exact ⟨rfl, bel1 w _⟩
end Go.Proofs.YtaipdckakgohjaaDoor
