import Derived.Lib.DecodeN
import Derived.Lib.LaidU8T
import Derived.Deep.QuietTactic
import Derived.BigQuiet
import Derived.Test.YtlkgnheccoodpaaGreatDoorW1
import Derived.Test.YtlkgnheccoodpaaGreatDoorW4
namespace Go.Proofs.YtlkgnheccoodpaaGreatDoor
open Go.RowKit
theorem below_dn {B : Nat} {a w : World} (h : Below B a w) (n : Nat) : Below B a (w.drewN n) := h.trans ⟨rfl, rfl, rfl, Nat.le_refl _, fun _ _ => rfl⟩
set_option maxRecDepth 100000 in
set_option maxHeartbeats 400000 in
theorem full_zero (w : World) : Calls Tryz.prog 130 #[.string ByteArray.empty] w fun e w' => e = .returned (.bool false) ∧ w' = w := by
 go_enter Tryz.func130, Tryz.ntmps130
 go_wp2
 go_ret
 exact ⟨rfl, rfl⟩
set_option maxRecDepth 100000 in
set_option maxHeartbeats 400000 in
theorem full_ge (s : ByteArray) (w : World) (v : Int) (h0 : 0 < s.size) (_hb : s[0].toNat < 256) (_h1 : 0 ≤ v) (_h2 : v < 256) (_hc : w.cell? ⟨2, s[0].toNat, none⟩ = some (.int .u8 v)) (_hn : v % 8 ≤ s.size) :
  Calls Tryz.prog 130 #[.string s] w fun e w' => e = .returned (.bool true) ∧ w' = w := by
 have hne : ((s.size : Int) == 0) = false := beq_eq_false_iff_ne.2 (by omega)
 go_enter Tryz.func130, Tryz.ntmps130
 go_wp2
 go_ret
 exact ⟨rfl, rfl⟩
set_option maxRecDepth 100000 in
set_option maxHeartbeats 400000 in
theorem full_1 (s : ByteArray) (w : World) (v lo hi : Int) (h0 : s.size = 1) (_hb : (s[0]'(by omega)).toNat < 256) (_h1 : 0 ≤ v) (_h2 : v < 256) (_hc : w.cell? ⟨2, (s[0]'(by omega)).toNat, none⟩ = some (.int .u8 v)) (_hn : 1 < v % 8)
  (_ha0 : w.cell? ⟨3, (v / 16).toNat * 2, none⟩ = some (.int .u8 lo)) (_ha1 : w.cell? ⟨3, (v / 16).toNat * 2 + 1, none⟩ = some (.int .u8 hi)) :
  Calls Tryz.prog 130 #[.string s] w fun e w' => e = .returned (.bool false) ∧ Below w.heap.size w w' := by
 have hne : ((s.size : Int) == 0) = false := beq_eq_false_iff_ne.2 (by omega)
 go_enter Tryz.func130, Tryz.ntmps130
 go_wp2
 go_quiet (fail)
 go_wp2
 go_ret
 exact ⟨rfl, below_dn ((Below.refl _ w).alloc (Nat.le_refl _) _) _⟩
set_option maxRecDepth 100000 in
set_option maxHeartbeats 400000 in
theorem full_2lo (s : ByteArray) (w : World) (v lo hi : Int) (h0 : s.size = 2) (_hb : (s[0]'(by omega)).toNat < 256) (_h1 : 0 ≤ v) (_h2 : v < 256) (_hc : w.cell? ⟨2, (s[0]'(by omega)).toNat, none⟩ = some (.int .u8 v)) (_hn : 2 < v % 8)
  (_ha0 : w.cell? ⟨3, (v / 16).toNat * 2, none⟩ = some (.int .u8 lo)) (_ha1 : w.cell? ⟨3, (v / 16).toNat * 2 + 1, none⟩ = some (.int .u8 hi)) (_hx : ((s[1]'(by omega)).toNat : Int) < lo) :
  Calls Tryz.prog 130 #[.string s] w fun e w' => e = .returned (.bool true) ∧ Below w.heap.size w w' := by
 have hne : ((s.size : Int) == 0) = false := beq_eq_false_iff_ne.2 (by omega)
 go_enter Tryz.func130, Tryz.ntmps130
 go_wp2
 go_quiet (fail)
 go_wp2
 go_ret
 exact ⟨rfl, below_dn ((Below.refl _ w).alloc (Nat.le_refl _) _) _⟩
set_option maxRecDepth 100000 in
set_option maxHeartbeats 400000 in
theorem full_2hi (s : ByteArray) (w : World) (v lo hi : Int) (h0 : s.size = 2) (_hb : (s[0]'(by omega)).toNat < 256) (_h1 : 0 ≤ v) (_h2 : v < 256) (_hc : w.cell? ⟨2, (s[0]'(by omega)).toNat, none⟩ = some (.int .u8 v)) (_hn : 2 < v % 8)
  (_ha0 : w.cell? ⟨3, (v / 16).toNat * 2, none⟩ = some (.int .u8 lo)) (_ha1 : w.cell? ⟨3, (v / 16).toNat * 2 + 1, none⟩ = some (.int .u8 hi)) (_hx : lo ≤ ((s[1]'(by omega)).toNat : Int)) (_hy : hi < ((s[1]'(by omega)).toNat : Int)) :
  Calls Tryz.prog 130 #[.string s] w fun e w' => e = .returned (.bool true) ∧ Below w.heap.size w w' := by
 have hne : ((s.size : Int) == 0) = false := beq_eq_false_iff_ne.2 (by omega)
 go_enter Tryz.func130, Tryz.ntmps130
 go_wp2
 go_quiet (fail)
 go_wp2
 go_ret
 exact ⟨rfl, below_dn ((Below.refl _ w).alloc (Nat.le_refl _) _) _⟩
set_option maxRecDepth 100000 in
set_option maxHeartbeats 400000 in
theorem full_2in (s : ByteArray) (w : World) (v lo hi : Int) (h0 : s.size = 2) (_hb : (s[0]'(by omega)).toNat < 256) (_h1 : 0 ≤ v) (_h2 : v < 256) (_hc : w.cell? ⟨2, (s[0]'(by omega)).toNat, none⟩ = some (.int .u8 v)) (_hn : 2 < v % 8)
  (_ha0 : w.cell? ⟨3, (v / 16).toNat * 2, none⟩ = some (.int .u8 lo)) (_ha1 : w.cell? ⟨3, (v / 16).toNat * 2 + 1, none⟩ = some (.int .u8 hi)) (_hx : lo ≤ ((s[1]'(by omega)).toNat : Int)) (_hy : ((s[1]'(by omega)).toNat : Int) ≤ hi) :
  Calls Tryz.prog 130 #[.string s] w fun e w' => e = .returned (.bool false) ∧ Below w.heap.size w w' := by
 have hne : ((s.size : Int) == 0) = false := beq_eq_false_iff_ne.2 (by omega)
 go_enter Tryz.func130, Tryz.ntmps130
 go_wp2
 go_quiet (fail)
 go_wp2
 go_ret
 exact ⟨rfl, below_dn ((Below.refl _ w).alloc (Nat.le_refl _) _) _⟩
set_option maxRecDepth 100000 in
set_option maxHeartbeats 400000 in
theorem full_3lo (s : ByteArray) (w : World) (v lo hi : Int) (h0 : s.size = 3) (_hb : (s[0]'(by omega)).toNat < 256) (_h1 : 0 ≤ v) (_h2 : v < 256) (_hc : w.cell? ⟨2, (s[0]'(by omega)).toNat, none⟩ = some (.int .u8 v)) (_hn : 3 < v % 8)
  (_ha0 : w.cell? ⟨3, (v / 16).toNat * 2, none⟩ = some (.int .u8 lo)) (_ha1 : w.cell? ⟨3, (v / 16).toNat * 2 + 1, none⟩ = some (.int .u8 hi)) (_hx : ((s[1]'(by omega)).toNat : Int) < lo) :
  Calls Tryz.prog 130 #[.string s] w fun e w' => e = .returned (.bool true) ∧ Below w.heap.size w w' := by
 have hne : ((s.size : Int) == 0) = false := beq_eq_false_iff_ne.2 (by omega)
 go_enter Tryz.func130, Tryz.ntmps130
 go_wp2
 go_quiet (fail)
 go_wp2
 go_ret
 exact ⟨rfl, below_dn ((Below.refl _ w).alloc (Nat.le_refl _) _) _⟩
set_option maxRecDepth 100000 in
set_option maxHeartbeats 400000 in
theorem full_3hi (s : ByteArray) (w : World) (v lo hi : Int) (h0 : s.size = 3) (_hb : (s[0]'(by omega)).toNat < 256) (_h1 : 0 ≤ v) (_h2 : v < 256) (_hc : w.cell? ⟨2, (s[0]'(by omega)).toNat, none⟩ = some (.int .u8 v)) (_hn : 3 < v % 8)
  (_ha0 : w.cell? ⟨3, (v / 16).toNat * 2, none⟩ = some (.int .u8 lo)) (_ha1 : w.cell? ⟨3, (v / 16).toNat * 2 + 1, none⟩ = some (.int .u8 hi)) (_hx : lo ≤ ((s[1]'(by omega)).toNat : Int)) (_hy : hi < ((s[1]'(by omega)).toNat : Int)) :
  Calls Tryz.prog 130 #[.string s] w fun e w' => e = .returned (.bool true) ∧ Below w.heap.size w w' := by
 have hne : ((s.size : Int) == 0) = false := beq_eq_false_iff_ne.2 (by omega)
 go_enter Tryz.func130, Tryz.ntmps130
 go_wp2
 go_quiet (fail)
 go_wp2
 go_ret
 exact ⟨rfl, below_dn ((Below.refl _ w).alloc (Nat.le_refl _) _) _⟩
set_option maxRecDepth 100000 in
set_option maxHeartbeats 400000 in
theorem full_3lo2 (s : ByteArray) (w : World) (v lo hi : Int) (h0 : s.size = 3) (_hb : (s[0]'(by omega)).toNat < 256) (_h1 : 0 ≤ v) (_h2 : v < 256) (_hc : w.cell? ⟨2, (s[0]'(by omega)).toNat, none⟩ = some (.int .u8 v)) (_hn : 3 < v % 8)
  (_ha0 : w.cell? ⟨3, (v / 16).toNat * 2, none⟩ = some (.int .u8 lo)) (_ha1 : w.cell? ⟨3, (v / 16).toNat * 2 + 1, none⟩ = some (.int .u8 hi)) (_hx : lo ≤ ((s[1]'(by omega)).toNat : Int)) (_hy : ((s[1]'(by omega)).toNat : Int) ≤ hi) (_hz : ((s[2]'(by omega)).toNat : Int) < 128) :
  Calls Tryz.prog 130 #[.string s] w fun e w' => e = .returned (.bool true) ∧ Below w.heap.size w w' := by
 have hne : ((s.size : Int) == 0) = false := beq_eq_false_iff_ne.2 (by omega)
 go_enter Tryz.func130, Tryz.ntmps130
 go_wp2
 go_quiet (fail)
 go_wp2
 go_ret
 exact ⟨rfl, below_dn ((Below.refl _ w).alloc (Nat.le_refl _) _) _⟩
set_option maxRecDepth 100000 in
set_option maxHeartbeats 400000 in
theorem full_3hi2 (s : ByteArray) (w : World) (v lo hi : Int) (h0 : s.size = 3) (_hb : (s[0]'(by omega)).toNat < 256) (_h1 : 0 ≤ v) (_h2 : v < 256) (_hc : w.cell? ⟨2, (s[0]'(by omega)).toNat, none⟩ = some (.int .u8 v)) (_hn : 3 < v % 8)
  (_ha0 : w.cell? ⟨3, (v / 16).toNat * 2, none⟩ = some (.int .u8 lo)) (_ha1 : w.cell? ⟨3, (v / 16).toNat * 2 + 1, none⟩ = some (.int .u8 hi)) (_hx : lo ≤ ((s[1]'(by omega)).toNat : Int)) (_hy : ((s[1]'(by omega)).toNat : Int) ≤ hi) (_hz : 191 < ((s[2]'(by omega)).toNat : Int)) :
  Calls Tryz.prog 130 #[.string s] w fun e w' => e = .returned (.bool true) ∧ Below w.heap.size w w' := by
 have hne : ((s.size : Int) == 0) = false := beq_eq_false_iff_ne.2 (by omega)
 go_enter Tryz.func130, Tryz.ntmps130
 go_wp2
 go_quiet (fail)
 go_wp2
 go_ret
 exact ⟨rfl, below_dn ((Below.refl _ w).alloc (Nat.le_refl _) _) _⟩
set_option maxRecDepth 100000 in
set_option maxHeartbeats 400000 in
theorem full_3in (s : ByteArray) (w : World) (v lo hi : Int) (h0 : s.size = 3) (_hb : (s[0]'(by omega)).toNat < 256) (_h1 : 0 ≤ v) (_h2 : v < 256) (_hc : w.cell? ⟨2, (s[0]'(by omega)).toNat, none⟩ = some (.int .u8 v)) (_hn : 3 < v % 8)
  (_ha0 : w.cell? ⟨3, (v / 16).toNat * 2, none⟩ = some (.int .u8 lo)) (_ha1 : w.cell? ⟨3, (v / 16).toNat * 2 + 1, none⟩ = some (.int .u8 hi)) (_hx : lo ≤ ((s[1]'(by omega)).toNat : Int)) (_hy : ((s[1]'(by omega)).toNat : Int) ≤ hi) (_hz : 128 ≤ ((s[2]'(by omega)).toNat : Int)) (_hz' : ((s[2]'(by omega)).toNat : Int) ≤ 191) :
  Calls Tryz.prog 130 #[.string s] w fun e w' => e = .returned (.bool false) ∧ Below w.heap.size w w' := by
 have hne : ((s.size : Int) == 0) = false := beq_eq_false_iff_ne.2 (by omega)
 go_enter Tryz.func130, Tryz.ntmps130
 go_wp2
 go_quiet (fail)
 go_wp2
 go_ret
 exact ⟨rfl, below_dn ((Below.refl _ w).alloc (Nat.le_refl _) _) _⟩
def fullB (s : ByteArray) : Bool :=
 if s.size = 0 then false
 else if Lib.firstT (s.get! 0).toNat % 8 ≤ s.size then true
 else if 1 < s.size ∧ ((s.get! 1).toNat < Lib.accLo (Lib.firstT (s.get! 0).toNat / 16) ∨ Lib.accHi (Lib.firstT (s.get! 0).toNat / 16) < (s.get! 1).toNat) then true
 else if 2 < s.size ∧ ((s.get! 2).toNat < 128 ∨ 191 < (s.get! 2).toNat) then true
 else false
theorem firstT_lt (b : Nat) : Lib.firstT b < 256 := by
 unfold Lib.firstT
 repeat' split
 all_goals omega
theorem firstT_sz (b : Nat) : Lib.firstT b % 8 ≤ 4 := by
 unfold Lib.firstT
 repeat' split
 all_goals omega
theorem get_bang (s : ByteArray) (k : Nat) (h : k < s.size) : s.get! k = s[k] := by
 exact get_at s k h
theorem full_any (s : ByteArray) (w : World) (hT : Lib.Utf8Tabs 2 3 w) : Calls Tryz.prog 130 #[.string s] w fun e w' => e = .returned (.bool (fullB s)) ∧ Below w.heap.size w w' := by
 by_cases hz : s.size = 0
 ·have e : s = ByteArray.empty := by cases s with | mk d => simp [ByteArray.size] at hz; subst hz; rfl
  subst e
  exact (full_zero w).mono fun e w' ⟨h1, h2⟩ => ⟨h1, h2 ▸ Below.refl _ _⟩
 have h0 : 0 < s.size := by omega
 have g0 := get_bang s 0 h0
 have hb : s[0].toNat < 256 := s[0].toNat_lt
 have hf := firstT_lt s[0].toNat
 have hs4 := firstT_sz s[0].toNat
 have hc := hT.1 s[0].toNat hb
 obtain ⟨ha0, ha1⟩ := hT.2 (Lib.firstT s[0].toNat / 16) (by omega)
 have hq : ((Lib.firstT s[0].toNat : Int) / 16).toNat = Lib.firstT s[0].toNat / 16 := by omega
 have hb0 : w.cell? ⟨3, ((Lib.firstT s[0].toNat : Int) / 16).toNat * 2, none⟩ = some (.int .u8 (Lib.accLo (Lib.firstT s[0].toNat / 16))) := by rw [hq, Nat.mul_comm]; exact ha0
 have hb1 : w.cell? ⟨3, ((Lib.firstT s[0].toNat : Int) / 16).toNat * 2 + 1, none⟩ = some (.int .u8 (Lib.accHi (Lib.firstT s[0].toNat / 16))) := by rw [hq, Nat.mul_comm]; exact ha1
 by_cases hge : Lib.firstT s[0].toNat % 8 ≤ s.size
 ·have e : fullB s = true := by unfold fullB; rw [if_neg hz, g0, if_pos hge]
  rw [e]
  exact (full_ge s w _ h0 hb (by omega) (by omega) hc (by omega)).mono fun e w' ⟨h1, h2⟩ => ⟨h1, h2 ▸ Below.refl _ _⟩
 have e0 : fullB s = if 1 < s.size ∧ ((s.get! 1).toNat < Lib.accLo (Lib.firstT s[0].toNat / 16) ∨ Lib.accHi (Lib.firstT s[0].toNat / 16) < (s.get! 1).toNat) then true
   else if 2 < s.size ∧ ((s.get! 2).toNat < 128 ∨ 191 < (s.get! 2).toNat) then true else false := by unfold fullB; rw [if_neg hz, g0, if_neg hge]
 rw [e0]
 clear e0
 have hn : s.size = 1 ∨ s.size = 2 ∨ s.size = 3 := by omega
 rcases hn with hn | hn | hn
 ·rw [if_neg (by omega), if_neg (by omega)]
  exact full_1 s w _ _ _ hn hb (by omega) (by omega) hc (by omega) hb0 hb1
 ·have g1 := get_bang s 1 (by omega)
  rw [g1]
  by_cases h1 : (s[1]'(by omega)).toNat < Lib.accLo (Lib.firstT s[0].toNat / 16)
  ·rw [if_pos ⟨by omega, .inl h1⟩]
   exact full_2lo s w _ _ _ hn hb (by omega) (by omega) hc (by omega) hb0 hb1 (by omega)
  ·by_cases h2 : Lib.accHi (Lib.firstT s[0].toNat / 16) < (s[1]'(by omega)).toNat
   ·rw [if_pos ⟨by omega, .inr h2⟩]
    exact full_2hi s w _ _ _ hn hb (by omega) (by omega) hc (by omega) hb0 hb1 (by omega) (by omega)
   ·rw [if_neg (by omega), if_neg (by omega)]
    exact full_2in s w _ _ _ hn hb (by omega) (by omega) hc (by omega) hb0 hb1 (by omega) (by omega)
 ·have g1 := get_bang s 1 (by omega)
  have g2 := get_bang s 2 (by omega)
  rw [g1, g2]
  by_cases h1 : (s[1]'(by omega)).toNat < Lib.accLo (Lib.firstT s[0].toNat / 16)
  ·rw [if_pos ⟨by omega, .inl h1⟩]
   exact full_3lo s w _ _ _ hn hb (by omega) (by omega) hc (by omega) hb0 hb1 (by omega)
  ·by_cases h2 : Lib.accHi (Lib.firstT s[0].toNat / 16) < (s[1]'(by omega)).toNat
   ·rw [if_pos ⟨by omega, .inr h2⟩]
    exact full_3hi s w _ _ _ hn hb (by omega) (by omega) hc (by omega) hb0 hb1 (by omega) (by omega)
   ·rw [if_neg (by omega)]
    by_cases h3 : (s[2]'(by omega)).toNat < 128
    ·rw [if_pos ⟨by omega, .inl h3⟩]
     exact full_3lo2 s w _ _ _ hn hb (by omega) (by omega) hc (by omega) hb0 hb1 (by omega) (by omega) (by omega)
    ·by_cases h4 : 191 < (s[2]'(by omega)).toNat
     ·rw [if_pos ⟨by omega, .inr h4⟩]
      exact full_3hi2 s w _ _ _ hn hb (by omega) (by omega) hc (by omega) hb0 hb1 (by omega) (by omega) (by omega)
     ·rw [if_neg (by omega)]
      exact full_3in s w _ _ _ hn hb (by omega) (by omega) hc (by omega) hb0 hb1 (by omega) (by omega) (by omega) (by omega)
def openN (s : ByteArray) : Nat → ByteArray
 | 0 => ByteArray.empty
 | n + 1 => if fullB (s.extract (s.size - (n + 1)) s.size) = true then openN s n else s.extract (s.size - (n + 1)) s.size
def openE (s : ByteArray) : ByteArray := openN s (min s.size 3)
theorem tabs_below {w w' : World} (hw : 4 ≤ w.heap.size) (hT : Lib.Utf8Tabs 2 3 w) (h : Below w.heap.size w w') : Lib.Utf8Tabs 2 3 w' :=
 ⟨fun c hc => (h.cell (p := ⟨2, c, none⟩) (by show 2 < _; omega)).trans (hT.1 c hc), fun i hi => ⟨(h.cell (p := ⟨3, 2 * i, none⟩) (by show 3 < _; omega)).trans (hT.2 i hi).1, (h.cell (p := ⟨3, 2 * i + 1, none⟩) (by show 3 < _; omega)).trans (hT.2 i hi).2⟩⟩
set_option maxRecDepth 100000 in
set_option maxHeartbeats 400000 in
theorem openEnd_any (s : ByteArray) (w : World) (hs : s.size ≤ 140737488355328) (hw : 4 ≤ w.heap.size) (hT : Lib.Utf8Tabs 2 3 w) : Calls Tryz.prog 115 #[.string s] w fun e w' => e = .returned (.string (openE s)) ∧ Below w.heap.size w w' := by
 go_enter Tryz.func115, Tryz.ntmps115
 go_wp2
 go_loopw [2, 3, 4] (fun _ n _ w' => ∃ k : Nat, k ≤ s.size ∧ n = .int .i64 k ∧ openN s k = openE s ∧ Below w.heap.size w w') (fun _ n _ _ => (intOf n).toNat)
 case atStart => exact ⟨min s.size 3, by omega, by go_num, rfl, Below.refl _ _⟩
 case round =>
  obtain ⟨k, hk, rfl, hop, hB⟩ := hrel
  have OP : Hid (openN s k = openE s) := hop
  clear hop
  cases k with
  | zero =>
   go_wp2
   go_ret
   exact ⟨by rw [← OP.out]; rfl, hB⟩
  | succ m =>
   go_wp2_with fail
   refine (full_any _ _ (tabs_below hw hT hB)).mono ?_
   rintro e w1 ⟨rfl, hB1⟩
   have hB2 := hB.trans (hB1.mono hB.size)
   cases hf : fullB (s.extract (s.size - (m + 1)) s.size)
   ·go_wp2
    go_ret
    exact ⟨by rw [← OP.out]; simp [openN, hf], hB2⟩
   ·go_wp2
    go_roundw
    case rel => exact ⟨m, by omega, by go_num, by rw [← OP.out]; simp [openN, hf], hB2⟩
    case measure => simp [intOf]
end Go.Proofs.YtlkgnheccoodpaaGreatDoor
namespace Go.Proofs.YtlkgnheccoodpaaGreatDoor
open Go.RowKit Go.Shelf
attribute [local go_sem] Oper.semAt_some
def firstL (s : ByteArray) : Nat := match signs s with
 | [] => 0
 | x :: _ => x.len
set_option maxRecDepth 100000 in
set_option maxHeartbeats 1000000 in
theorem firstLen_any (s : ByteArray) (w : World) (hs : s.size ≤ 140737488355328) : Calls Tryz.prog 116 #[.string s] w fun e w' => e = .returned (.int .i64 (firstL s)) ∧ Below w.heap.size w w' := by
 refine (callsIn_wide (n := 9)).1 ?_
 refine callsIn_of_wp_marks Tryz.func116 rfl trivial ?_ rfl
 simp only [Tryz.ntmps116, List.size_toArray, List.length_cons, List.length_nil, Nat.reduceAdd, Nat.reduceSub, Array.replicate_succ, Array.replicate_zero, List.push_toArray, List.append_toArray, List.nil_append, List.cons_append]
 gi_wp2_with (refine ⟨trivial, ?_⟩; gi_at_call 131; refine (callsIn_wide.2 (signs_mk _ _)).mono ?_; rintro e w' ⟨rfl, rfl⟩)
 obtain ⟨V, hV⟩ : ∃ V, (w.alloc (.cells #[.int .i64 0] 3)).alloc (.cells #[.string s] 9) = V := ⟨_, rfl⟩
 have b0 : Boxed V w.heap.size 3 (.int .i64 0) := by rw [← hV]; exact (Boxed.new w 3 _).alloc _
 have b1 : Boxed V (w.heap.size + 1) 9 (.string s) := by
  rw [← hV]
  have := Boxed.new (w.alloc (.cells #[.int .i64 0] 3)) 9 (.string s)
  rw [World.size_alloc] at this
  exact this
 have hB : Below w.heap.size w V := by rw [← hV]; exact ((Below.refl _ w).alloc (Nat.le_refl _) _).alloc (by simp) _
 have hz : V.heap.size = w.heap.size + 2 := by rw [← hV]; simp
 rw [hV]
 clear hV
 refine wpIn_rangeFunc_ownH (α := Sg) rfl (by omega) (gf := 135) (lb := #[.pointer (some ⟨w.heap.size + 1, 0, none⟩)]) rfl trivial (enters_of Tryz.func135 (by kernel_rfl) rfl)
  (signs_stops (9 - 1) (w.heap.size + 1) (by omega) s hs V (by omega) b1.cell) Kp_t (Kp_b (by omega)) (Below.refl _ _) (fun _ => rfl)
  (fun pre A => (pre = [] ∧ Boxed A w.heap.size 3 (.int .i64 0)) ∧ Below w.heap.size V A)
  (fun c pre A => ((c = .ret ∧ ∃ x, pre = [x] ∧ Boxed A w.heap.size 3 (.int .i64 x.len)) ∧ Below w.heap.size V A))
  (OwnFrom.and (OwnFrom.and (ownFrom_pure _ _) (Own.from (boxed_own _ _ _) _)) (ownFrom_below (by omega) (by omega)))
  (fun c => OwnFrom.and (fun pre A B row hs hg hr => by
   obtain ⟨e1, x, e2, e3⟩ := hs
   exact ⟨e1, x, e2, e3.kept hg (fun e => by have := (hr _ e.symm).1; omega)⟩) (ownFrom_below (by omega) (by omega)))
  ⟨⟨rfl, b0⟩, Below.refl _ _⟩
  (fun x a' A => ∃ gb, w.heap.size < gb ∧ Row4 A gb 186 (.int .i64 x.loc) (.int .i64 x.len) (.int .i32 x.rune) (.bool x.bad) ∧
   a' = { tmps := #[.string s, undef, .pointer (some ⟨w.heap.size, 0, none⟩), .pointer (some ⟨gb, 0, none⟩), .string s, .func (.func 135) #[] #[.pointer (some ⟨w.heap.size + 1, 0, none⟩)], (.agg #[.int .i64 x.loc, .int .i64 x.len, .int .i32 x.rune, .bool x.bad]), undef, undef], defers := [] })
  (fun x a' _ A B row hs hg hr => by
   obtain ⟨gb, e1, e2, e3⟩ := hs
   refine ⟨gb, e1, e2.of_block (hg.block _ e2.lt (fun e => ?_)), e3⟩
   obtain ⟨_, o, ho, hcl⟩ := hr _ e.symm
   rw [show A.heap[gb]? = _ from e2] at ho
   cases ho
   cases hcl)
  ?assign ?body ?done ?stop
 case assign =>
  rintro lin pre x A K ⟨⟨rfl, c0⟩, hBA⟩ hK
  have hAz := hBA.size
  simp only [Sg.val]
  gi_wp2
  refine hK _ _ ((KeepsOthers.alloc _ _).from _) ⟨World.cell?_of_block (Below.heap_alloc _ _ _ ?_), fun k o _ hk _ => (Below.heap_alloc _ _ _ (Array.getElem?_eq_some_iff.1 hk).1).trans hk⟩ ⟨⟨trivial, c0.alloc _⟩, hBA.alloc (by omega) _⟩ ⟨A.heap.size, by omega, World.alloc_heap_new A _, rfl⟩
  show w.heap.size + 1 < A.heap.size
  omega
 case body =>
  rintro lin pre x a' A hlin ⟨r, hr⟩ ⟨⟨rfl, c0⟩, hBA⟩ ⟨gb, hgb, hg4, rfl⟩ hlen
  obtain ⟨g0, g1, g2, g3⟩ := hg4.cells
  have k0 := c0.cell
  have f0 := c0.frozen
  gi_wp2
  exact ⟨(KeepsOthers.setCell _ _ _).from _, ⟨rfl, x, rfl, c0.set _⟩, hBA.setCell (p := ⟨w.heap.size, 0, none⟩) (Nat.le_refl _) _⟩
 case done =>
  rintro D xs A hD rfl ⟨⟨hnil, c0⟩, hBA⟩ hK
  have k0 := c0.cell
  have f0 := c0.frozen
  have HN := hide hnil
  clear hnil
  gi_wp2
  have hK' := (Below.heap_setCell A ⟨w.heap.size, 0, none⟩ (.int .i64 0) D (by simp; omega)).trans hK
  refine ⟨by simp, .inl ⟨_, _, rfl, run_takeDeferred hK', ?_⟩⟩
  have z0 : ((A.setCell ⟨w.heap.size, 0, none⟩ (.int .i64 0)).putObj D (.deferred none)).cell? ⟨w.heap.size, 0, none⟩ = _ := (World.cell?_of_block (World.putObj_heap_other (by show w.heap.size ≠ D; omega))).trans (c0.set (.int .i64 0)).cell
  refine ⟨.int .i64 0, by simp [results, Tryz.f116, go_sem, z0], by simp [firstL, HN.out], ((hB.trans hBA).setCell (p := ⟨w.heap.size, 0, none⟩) (Nat.le_refl _) _).trans ((putObj_below _ _ _).mono (by omega))⟩
 case stop =>
  rintro D c pre A hD ⟨r, hr⟩ ⟨⟨rfl, x, rfl, c0⟩, hBA⟩ hK
  gi_wp2
  refine ⟨by simp, .inl ⟨_, _, rfl, run_takeDeferred hK, ?_⟩⟩
  have z0 : (A.putObj D (.deferred none)).cell? ⟨w.heap.size, 0, none⟩ = _ := (World.cell?_of_block (World.putObj_heap_other (by show w.heap.size ≠ D; omega))).trans c0.cell
  refine ⟨.int .i64 x.len, by simp [results, Tryz.f116, go_sem, z0], by simp [firstL, ← hr], (hB.trans hBA).trans ((putObj_below _ _ _).mono (by omega))⟩
set_option maxRecDepth 100000 in
set_option maxHeartbeats 1000000 in
theorem melts_no (a b : ByteArray) (w : World) (ha : a.size ≤ 140737488355328) (hw : 4 ≤ w.heap.size) (hT : Lib.Utf8Tabs 2 3 w) (ho : (openE a).size = 0) :
  Calls Tryz.prog 96 #[.string a, .string b] w fun e w' => e = .returned (.bool false) ∧ Below w.heap.size w w' := by
 go_enter Tryz.func96, Tryz.ntmps96
 go_wp2_with fail
 refine (openEnd_any a _ ha hw hT).mono ?_
 rintro e w1 ⟨rfl, hB1⟩
 generalize openE a = o at *
 obtain ⟨d⟩ := o
 have e : d = #[] := by simpa [ByteArray.size] using ho
 subst e
 go_wp2
 go_ret
 exact ⟨rfl, hB1⟩
theorem openN_size (s : ByteArray) : ∀ n, (openN s n).size ≤ n
 | 0 => by simp [openN]
 | n + 1 => by
  have := openN_size s n
  unfold openN
  split
  ·omega
  ·simp only [ByteArray.size_extract]; omega
theorem openE_size (s : ByteArray) : (openE s).size ≤ 3 := Nat.le_trans (openN_size s _) (by omega)
set_option maxRecDepth 100000 in
set_option maxHeartbeats 1000000 in
theorem melts_yes (a b : ByteArray) (w : World) (ha : a.size ≤ 140737488355328) (hb : b.size ≤ 140737488355328) (hw : 4 ≤ w.heap.size) (hT : Lib.Utf8Tabs 2 3 w) (ho : (openE a).toList.isEmpty = false) :
  Calls Tryz.prog 96 #[.string a, .string b] w fun e w' => e = .returned (.bool (decide ((openE a).size < firstL (openE a ++ b.extract 0 (min b.size 4))))) ∧ Below w.heap.size w w' := by
 go_enter Tryz.func96, Tryz.ntmps96
 go_wp2_with fail
 refine (openEnd_any a _ ha hw hT).mono ?_
 rintro e w1 ⟨rfl, hB1⟩
 have hsz := openE_size a
 generalize hoe : openE a = o at *
 have HO := hide hoe
 clear hoe
 have hm : (min (b.size : Int) 4).toNat = min b.size 4 := by omega
 have hcat : ¬ 9223372036854775807 < o.size + min (min (b.size : Int) 4).toNat b.size := by omega
 have hlen : (o ++ b.extract 0 (min (b.size : Int) 4).toNat).size ≤ 140737488355328 := by simp only [ByteArray.size_append, ByteArray.size_extract]; omega
 have HM := hide hm
 clear hm
 go_wp2_with fail
 refine (firstLen_any _ _ hlen).mono ?_
 rintro e w2 ⟨rfl, hB2⟩
 have hB3 := hB1.trans (hB2.mono hB1.size)
 go_wp2
 all_goals
  go_ret
  refine ⟨?_, hB3⟩
  rw [HO.out, ← HM.out]
  rfl
def meltsB (a b : ByteArray) : Bool := !(openE a).toList.isEmpty && decide ((openE a).size < firstL (openE a ++ b.extract 0 (min b.size 4)))
theorem melts_any (a b : ByteArray) (w : World) (ha : a.size ≤ 140737488355328) (hb : b.size ≤ 140737488355328) (hw : 4 ≤ w.heap.size) (hT : Lib.Utf8Tabs 2 3 w) :
  Calls Tryz.prog 96 #[.string a, .string b] w fun e w' => e = .returned (.bool (meltsB a b)) ∧ Below w.heap.size w w' := by
 cases ho : (openE a).toList.isEmpty
 ·rw [show meltsB a b = decide ((openE a).size < firstL (openE a ++ b.extract 0 (min b.size 4))) from by simp [meltsB, ho]]
  exact melts_yes a b w ha hb hw hT ho
 ·rw [show meltsB a b = false from by simp [meltsB, ho]]
  refine melts_no a b w ha hw hT ?_
  rw [Lib.toList_data] at ho
  rw [Lib.size_eq, List.isEmpty_iff.1 ho]
  rfl
end Go.Proofs.YtlkgnheccoodpaaGreatDoor
