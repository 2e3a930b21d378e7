/- surtitleref5: digits. -/
import Derived.Test.YtaipdckakgohjaaGreatDoorCdB
import Derived.Laws.BytesString
import Derived.Deep.RegionHeld3
namespace Go.Proofs.YtaipdckakgohjaaGreatDoor
open Go.RowKit Go.Shelf
open Go.Lib (decDigits)
attribute [local go_sem] Oper.semAt_some bs_toList

/-- What is still to be written of a number. -/
def moreD (m k : Nat) : List UInt8 := if m = 0 ∧ k = 0 then [] else padL m k
theorem dd_step (m : Nat) (h : ¬ m < 10) : decDigits m = decDigits (m / 10) ++ [UInt8.ofNat (48 + m % 10)] := by
  rw [decDigits, dif_neg h]
theorem dd_few (m : Nat) (h : m < 10) : decDigits m = [UInt8.ofNat (48 + m)] := by
  rw [decDigits, dif_pos h]
theorem more_step (m k : Nat) (h : 0 < m ∨ 0 < k) : moreD m k = moreD (m / 10) (k - 1) ++ [UInt8.ofNat (48 + m % 10)] := by
  unfold moreD
  rw [if_neg (by omega)]
  by_cases h1 : m < 10
  · rw [show m / 10 = 0 by omega, show m % 10 = m by omega]
    unfold padL
    rw [dd_few m h1]
    by_cases h2 : k - 1 = 0
    · rw [if_pos ⟨rfl, h2⟩]
      simp [h2]
    · rw [if_neg (by omega), dd_few 0 (by omega)]
      obtain ⟨j, rfl⟩ : ∃ j, k = j + 2 := ⟨k - 2, by omega⟩
      simp only [List.length_singleton]
      rw [show j + 2 - 1 = j + 1 by omega, show j + 1 - 1 = j by omega]
      rw [List.replicate_succ']
      rfl
  · rw [if_neg (by omega)]
    unfold padL
    rw [dd_step m h1, List.length_append, List.length_singleton, show k - ((decDigits (m / 10)).length + 1) = k - 1 - (decDigits (m / 10)).length by omega, List.append_assoc]
set_option maxRecDepth 100000 in
theorem conv1 (V : World) (b : Nat) (z : Int) (hc : V.cell? ⟨b, 0, none⟩ = some (.int .u8 z)) :
    (convert 79 9 (.slice (some ⟨b, 0, none⟩) 1 1)).run Tryz.prog V = .ok (.string (bs [UInt8.ofNat z.toNat])) V := by
  rw [run_convert_bytes_string V _ _ 5 _ _ _ (by kernel_rfl) (by kernel_rfl) (by kernel_rfl), run_bytesToString V ⟨b, 0, none⟩ 1 1 [z] (by go_simp)]
  rfl
set_option maxRecDepth 100000 in
theorem rdigits_any (m k : Nat) (hm : m ≤ 9223372036854775807) (hk : k ≤ 10) (h : 0 < k) (w : World) :
    Calls Tryz.prog 41 #[.int .i64 m, .int .i64 k] w fun e w' => e = .returned (.string (bs (padL m k))) ∧ Below w.heap.size w w' := by
  obtain ⟨r, hr⟩ : ∃ r, padL m k = r := ⟨_, rfl⟩
  have HR : Hid (moreD m k ++ [] = r) := hideR (by unfold moreD; rw [if_neg (by omega), List.append_nil]; exact hr)
  have hrl : r.length ≤ 100 := by
    have := Lib.itoa_length_le (m : Int) (by omega) (by omega)
    rw [itoa_nat] at this
    rw [← hr]
    unfold padL
    simp
    omega
  rw [hr]
  clear hr
  go_enter Tryz.func41, Tryz.ntmps41
  go_wp2
  go_loopw [0, 1, 5] (fun vn vk vs wr => ∃ (a : Nat) (b : Int) (l : List UInt8), vn = .int .i64 a ∧ vk = .int .i64 b ∧ vs = .string (bs l) ∧ a ≤ 9223372036854775807 ∧ -1000 + (l.length : Int) ≤ b + 2 * (l.length : Int) ∧ b ≤ 10 ∧ l.length ≤ 100 ∧ Hid (moreD a b.toNat ++ l = r) ∧ Below w.heap.size w wr) (fun vn vk _ _ => (intOf vn).toNat + (intOf vk).toNat)
  case atStart => exact ⟨m, k, [], rfl, rfl, rfl, hm, by simp only [List.length_nil]; omega, by omega, by simp, HR, Below.refl _ _⟩
  case round =>
    clear HR
    obtain ⟨a, b, l, rfl, rfl, rfl, ha, hb, hb2, hl, HR, hB⟩ := hrel
    by_cases c : 0 < a ∨ 0 < b
    · have st := more_step a b.toNat (by omega)
      have HR2 : Hid (moreD (a / 10) (b - 1).toNat ++ (UInt8.ofNat (48 + a % 10) :: l) = r) := hideR (by
        have := HR.out
        rw [st, List.append_assoc, show b.toNat - 1 = (b - 1).toNat by omega] at this
        exact this)
      have ll : (UInt8.ofNat (48 + a % 10) :: l).length ≤ 100 := by
        have := congrArg List.length HR2.out
        rw [List.length_append] at this
        omega
      simp only [List.length_cons] at ll
      clear HR st
      obtain ⟨q, hq⟩ : ∃ q, a / 10 = q := ⟨_, rfl⟩
      obtain ⟨d, hd⟩ : ∃ d, a % 10 = d := ⟨_, rfl⟩
      rw [hq, hd] at HR2
      have e1 : (a : Int) / 10 = (q : Int) := by omega
      have e2 : (a : Int) % 10 = (d : Int) := by omega
      have d10 : d < 10 := by omega
      have w8 : IntKind.u8.wrap (48 + (d : Int)) = 48 + (d : Int) := by rw [IntKind.wrap_u8]; omega
      have kc : ∀ (V : World) (B : Nat), V.cell? ⟨B, 0, none⟩ = some (.int .u8 (48 + (d : Int))) → (convert 79 9 (.slice (some ⟨B, 0, none⟩) 1 1)).run Tryz.prog V = .ok (.string (bs [UInt8.ofNat (48 + d)])) V := fun V B h => by
        have := conv1 V B _ h
        rw [show (48 + (d : Int)).toNat = 48 + d by omega] at this
        exact this
      have ad : ∀ w, (Op.stringOp .add (bs [UInt8.ofNat (48 + d)]) (bs l)).run Tryz.prog w = .ok (.string (bs (UInt8.ofNat (48 + d) :: l))) w := fun w => by
        have := run_string_add_sum (P := Tryz.prog) w (bs [UInt8.ofNat (48 + d)]) (bs l) (by rw [bs_size, bs_size]; simp; omega)
        rw [bs_append] at this
        exact this
      have wb : -9000000000000000000 ≤ b := by omega
      obtain ⟨y, hy⟩ : ∃ y, bs (UInt8.ofNat (48 + d) :: l) = y := ⟨_, rfl⟩
      have HY := hideR hy
      rw [hy] at ad
      clear hy
      generalize bs [UInt8.ofNat (48 + d)] = x at kc ad
      have hmeas : q + (b - 1).toNat < a + b.toNat := by omega
      have HE : Hid (∀ wr', Below w.heap.size w wr' → ∃ (a' : Nat) (b' : Int) (l' : List UInt8), Value.int .i64 q = .int .i64 a' ∧ Value.int .i64 (b - 1) = .int .i64 b' ∧ Value.string y = .string (bs l') ∧ a' ≤ 9223372036854775807 ∧ -1000 + (l'.length : Int) ≤ b' + 2 * (l'.length : Int) ∧ b' ≤ 10 ∧ l'.length ≤ 100 ∧ Hid (moreD a' b'.toNat ++ l' = r) ∧ Below w.heap.size w wr') :=
        hideR fun wr' hB' => ⟨q, b - 1, _, rfl, rfl, by rw [HY.out], by omega, by simp only [List.length_cons]; omega, by omega, by simp only [List.length_cons]; omega, HR2, hB'⟩
      clear HR2 HY hq hd hb ll
      by_cases c3 : 0 < a
      · have c2 : (0 : Int) < (a : Int) := by omega
        go_wp2_with fail
        refine ⟨HE.out _ (bup hB (bel1 wr _)), ?_⟩
        simp only [intOf]
        omega
      · have c4 : 0 < b := by omega
        have c5 : (a : Int) ≤ 0 := by omega
        go_wp2_with fail
        refine ⟨HE.out _ (bup hB (bel1 wr _)), ?_⟩
        simp only [intOf]
        omega
    · have a0 : a = 0 := by omega
      have b0 : b ≤ 0 := by omega
      subst a0
      have hr : l = r := by
        have := HR.out
        unfold moreD at this
        rw [if_pos ⟨rfl, by omega⟩] at this
        exact this
      subst hr
      clear HR
      go_wp2_with fail
      go_ret
      exact ⟨rfl, hB⟩
end Go.Proofs.YtaipdckakgohjaaGreatDoor
