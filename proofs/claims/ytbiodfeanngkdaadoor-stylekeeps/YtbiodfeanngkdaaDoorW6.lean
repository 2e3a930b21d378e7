/- Contracts of utf8.FullRuneInString and of utf.openEnd: whether bytes are the front of an encoding. -/
import Derived.Test.YtbiodfeanngkdaaDoorW1
import Derived.Lib.DecodeN
import Derived.Lib.LaidU8T
import Derived.Deep.QuietTactic
import Derived.BigQuiet
namespace Go.Proofs.YtbiodfeanngkdaaDoor
open Go.RowKit

theorem below_dn {B : Nat} {a w : World} (h : Below B a w) (n : Nat) : Below B a (w.drewN n) := h.trans ⟨rfl, rfl, rfl, Nat.le_refl _, fun _ _ => rfl⟩

set_option maxRecDepth 100000 in
set_option maxHeartbeats 400000 in
theorem full_zero (w : World) : Calls Tryd.prog 41 #[.string ByteArray.empty] w fun e w' => e = .returned (.bool false) ∧ w' = w := by
  go_enter Tryd.func41, Tryd.ntmps41
  go_wp2
  go_ret
  exact ⟨rfl, rfl⟩

set_option maxRecDepth 100000 in
set_option maxHeartbeats 400000 in
theorem full_ge (s : ByteArray) (w : World) (v : Int) (h0 : 0 < s.size) (_hb : s[0].toNat < 256) (_h1 : 0 ≤ v) (_h2 : v < 256) (_hc : w.cell? ⟨0, s[0].toNat, none⟩ = some (.int .u8 v)) (_hn : v % 8 ≤ s.size) :
    Calls Tryd.prog 41 #[.string s] w fun e w' => e = .returned (.bool true) ∧ w' = w := by
  have hne : ((s.size : Int) == 0) = false := beq_eq_false_iff_ne.2 (by omega)
  go_enter Tryd.func41, Tryd.ntmps41
  go_wp2
  go_ret
  exact ⟨rfl, rfl⟩

set_option maxRecDepth 100000 in
set_option maxHeartbeats 400000 in
theorem full_1 (s : ByteArray) (w : World) (v lo hi : Int) (h0 : s.size = 1) (_hb : (s[0]'(by omega)).toNat < 256) (_h1 : 0 ≤ v) (_h2 : v < 256) (_hc : w.cell? ⟨0, (s[0]'(by omega)).toNat, none⟩ = some (.int .u8 v)) (_hn : 1 < v % 8)
    (_ha0 : w.cell? ⟨1, (v / 16).toNat * 2, none⟩ = some (.int .u8 lo)) (_ha1 : w.cell? ⟨1, (v / 16).toNat * 2 + 1, none⟩ = some (.int .u8 hi)) :
    Calls Tryd.prog 41 #[.string s] w fun e w' => e = .returned (.bool false) ∧ Below w.heap.size w w' := by
  have hne : ((s.size : Int) == 0) = false := beq_eq_false_iff_ne.2 (by omega)
  go_enter Tryd.func41, Tryd.ntmps41
  go_wp2
  go_quiet (fail)
  go_wp2
  go_ret
  exact ⟨rfl, below_dn ((Below.refl _ w).alloc (Nat.le_refl _) _) _⟩

set_option maxRecDepth 100000 in
set_option maxHeartbeats 400000 in
theorem full_2lo (s : ByteArray) (w : World) (v lo hi : Int) (h0 : s.size = 2) (_hb : (s[0]'(by omega)).toNat < 256) (_h1 : 0 ≤ v) (_h2 : v < 256) (_hc : w.cell? ⟨0, (s[0]'(by omega)).toNat, none⟩ = some (.int .u8 v)) (_hn : 2 < v % 8)
    (_ha0 : w.cell? ⟨1, (v / 16).toNat * 2, none⟩ = some (.int .u8 lo)) (_ha1 : w.cell? ⟨1, (v / 16).toNat * 2 + 1, none⟩ = some (.int .u8 hi)) (_hx : ((s[1]'(by omega)).toNat : Int) < lo) :
    Calls Tryd.prog 41 #[.string s] w fun e w' => e = .returned (.bool true) ∧ Below w.heap.size w w' := by
  have hne : ((s.size : Int) == 0) = false := beq_eq_false_iff_ne.2 (by omega)
  go_enter Tryd.func41, Tryd.ntmps41
  go_wp2
  go_quiet (fail)
  go_wp2
  go_ret
  exact ⟨rfl, below_dn ((Below.refl _ w).alloc (Nat.le_refl _) _) _⟩

set_option maxRecDepth 100000 in
set_option maxHeartbeats 400000 in
theorem full_2hi (s : ByteArray) (w : World) (v lo hi : Int) (h0 : s.size = 2) (_hb : (s[0]'(by omega)).toNat < 256) (_h1 : 0 ≤ v) (_h2 : v < 256) (_hc : w.cell? ⟨0, (s[0]'(by omega)).toNat, none⟩ = some (.int .u8 v)) (_hn : 2 < v % 8)
    (_ha0 : w.cell? ⟨1, (v / 16).toNat * 2, none⟩ = some (.int .u8 lo)) (_ha1 : w.cell? ⟨1, (v / 16).toNat * 2 + 1, none⟩ = some (.int .u8 hi)) (_hx : lo ≤ ((s[1]'(by omega)).toNat : Int)) (_hy : hi < ((s[1]'(by omega)).toNat : Int)) :
    Calls Tryd.prog 41 #[.string s] w fun e w' => e = .returned (.bool true) ∧ Below w.heap.size w w' := by
  have hne : ((s.size : Int) == 0) = false := beq_eq_false_iff_ne.2 (by omega)
  go_enter Tryd.func41, Tryd.ntmps41
  go_wp2
  go_quiet (fail)
  go_wp2
  go_ret
  exact ⟨rfl, below_dn ((Below.refl _ w).alloc (Nat.le_refl _) _) _⟩

set_option maxRecDepth 100000 in
set_option maxHeartbeats 400000 in
theorem full_2in (s : ByteArray) (w : World) (v lo hi : Int) (h0 : s.size = 2) (_hb : (s[0]'(by omega)).toNat < 256) (_h1 : 0 ≤ v) (_h2 : v < 256) (_hc : w.cell? ⟨0, (s[0]'(by omega)).toNat, none⟩ = some (.int .u8 v)) (_hn : 2 < v % 8)
    (_ha0 : w.cell? ⟨1, (v / 16).toNat * 2, none⟩ = some (.int .u8 lo)) (_ha1 : w.cell? ⟨1, (v / 16).toNat * 2 + 1, none⟩ = some (.int .u8 hi)) (_hx : lo ≤ ((s[1]'(by omega)).toNat : Int)) (_hy : ((s[1]'(by omega)).toNat : Int) ≤ hi) :
    Calls Tryd.prog 41 #[.string s] w fun e w' => e = .returned (.bool false) ∧ Below w.heap.size w w' := by
  have hne : ((s.size : Int) == 0) = false := beq_eq_false_iff_ne.2 (by omega)
  go_enter Tryd.func41, Tryd.ntmps41
  go_wp2
  go_quiet (fail)
  go_wp2
  go_ret
  exact ⟨rfl, below_dn ((Below.refl _ w).alloc (Nat.le_refl _) _) _⟩

set_option maxRecDepth 100000 in
set_option maxHeartbeats 400000 in
theorem full_3lo (s : ByteArray) (w : World) (v lo hi : Int) (h0 : s.size = 3) (_hb : (s[0]'(by omega)).toNat < 256) (_h1 : 0 ≤ v) (_h2 : v < 256) (_hc : w.cell? ⟨0, (s[0]'(by omega)).toNat, none⟩ = some (.int .u8 v)) (_hn : 3 < v % 8)
    (_ha0 : w.cell? ⟨1, (v / 16).toNat * 2, none⟩ = some (.int .u8 lo)) (_ha1 : w.cell? ⟨1, (v / 16).toNat * 2 + 1, none⟩ = some (.int .u8 hi)) (_hx : ((s[1]'(by omega)).toNat : Int) < lo) :
    Calls Tryd.prog 41 #[.string s] w fun e w' => e = .returned (.bool true) ∧ Below w.heap.size w w' := by
  have hne : ((s.size : Int) == 0) = false := beq_eq_false_iff_ne.2 (by omega)
  go_enter Tryd.func41, Tryd.ntmps41
  go_wp2
  go_quiet (fail)
  go_wp2
  go_ret
  exact ⟨rfl, below_dn ((Below.refl _ w).alloc (Nat.le_refl _) _) _⟩

set_option maxRecDepth 100000 in
set_option maxHeartbeats 400000 in
theorem full_3hi (s : ByteArray) (w : World) (v lo hi : Int) (h0 : s.size = 3) (_hb : (s[0]'(by omega)).toNat < 256) (_h1 : 0 ≤ v) (_h2 : v < 256) (_hc : w.cell? ⟨0, (s[0]'(by omega)).toNat, none⟩ = some (.int .u8 v)) (_hn : 3 < v % 8)
    (_ha0 : w.cell? ⟨1, (v / 16).toNat * 2, none⟩ = some (.int .u8 lo)) (_ha1 : w.cell? ⟨1, (v / 16).toNat * 2 + 1, none⟩ = some (.int .u8 hi)) (_hx : lo ≤ ((s[1]'(by omega)).toNat : Int)) (_hy : hi < ((s[1]'(by omega)).toNat : Int)) :
    Calls Tryd.prog 41 #[.string s] w fun e w' => e = .returned (.bool true) ∧ Below w.heap.size w w' := by
  have hne : ((s.size : Int) == 0) = false := beq_eq_false_iff_ne.2 (by omega)
  go_enter Tryd.func41, Tryd.ntmps41
  go_wp2
  go_quiet (fail)
  go_wp2
  go_ret
  exact ⟨rfl, below_dn ((Below.refl _ w).alloc (Nat.le_refl _) _) _⟩

set_option maxRecDepth 100000 in
set_option maxHeartbeats 400000 in
theorem full_3lo2 (s : ByteArray) (w : World) (v lo hi : Int) (h0 : s.size = 3) (_hb : (s[0]'(by omega)).toNat < 256) (_h1 : 0 ≤ v) (_h2 : v < 256) (_hc : w.cell? ⟨0, (s[0]'(by omega)).toNat, none⟩ = some (.int .u8 v)) (_hn : 3 < v % 8)
    (_ha0 : w.cell? ⟨1, (v / 16).toNat * 2, none⟩ = some (.int .u8 lo)) (_ha1 : w.cell? ⟨1, (v / 16).toNat * 2 + 1, none⟩ = some (.int .u8 hi)) (_hx : lo ≤ ((s[1]'(by omega)).toNat : Int)) (_hy : ((s[1]'(by omega)).toNat : Int) ≤ hi) (_hz : ((s[2]'(by omega)).toNat : Int) < 128) :
    Calls Tryd.prog 41 #[.string s] w fun e w' => e = .returned (.bool true) ∧ Below w.heap.size w w' := by
  have hne : ((s.size : Int) == 0) = false := beq_eq_false_iff_ne.2 (by omega)
  go_enter Tryd.func41, Tryd.ntmps41
  go_wp2
  go_quiet (fail)
  go_wp2
  go_ret
  exact ⟨rfl, below_dn ((Below.refl _ w).alloc (Nat.le_refl _) _) _⟩

set_option maxRecDepth 100000 in
set_option maxHeartbeats 400000 in
theorem full_3hi2 (s : ByteArray) (w : World) (v lo hi : Int) (h0 : s.size = 3) (_hb : (s[0]'(by omega)).toNat < 256) (_h1 : 0 ≤ v) (_h2 : v < 256) (_hc : w.cell? ⟨0, (s[0]'(by omega)).toNat, none⟩ = some (.int .u8 v)) (_hn : 3 < v % 8)
    (_ha0 : w.cell? ⟨1, (v / 16).toNat * 2, none⟩ = some (.int .u8 lo)) (_ha1 : w.cell? ⟨1, (v / 16).toNat * 2 + 1, none⟩ = some (.int .u8 hi)) (_hx : lo ≤ ((s[1]'(by omega)).toNat : Int)) (_hy : ((s[1]'(by omega)).toNat : Int) ≤ hi) (_hz : 191 < ((s[2]'(by omega)).toNat : Int)) :
    Calls Tryd.prog 41 #[.string s] w fun e w' => e = .returned (.bool true) ∧ Below w.heap.size w w' := by
  have hne : ((s.size : Int) == 0) = false := beq_eq_false_iff_ne.2 (by omega)
  go_enter Tryd.func41, Tryd.ntmps41
  go_wp2
  go_quiet (fail)
  go_wp2
  go_ret
  exact ⟨rfl, below_dn ((Below.refl _ w).alloc (Nat.le_refl _) _) _⟩

set_option maxRecDepth 100000 in
set_option maxHeartbeats 400000 in
theorem full_3in (s : ByteArray) (w : World) (v lo hi : Int) (h0 : s.size = 3) (_hb : (s[0]'(by omega)).toNat < 256) (_h1 : 0 ≤ v) (_h2 : v < 256) (_hc : w.cell? ⟨0, (s[0]'(by omega)).toNat, none⟩ = some (.int .u8 v)) (_hn : 3 < v % 8)
    (_ha0 : w.cell? ⟨1, (v / 16).toNat * 2, none⟩ = some (.int .u8 lo)) (_ha1 : w.cell? ⟨1, (v / 16).toNat * 2 + 1, none⟩ = some (.int .u8 hi)) (_hx : lo ≤ ((s[1]'(by omega)).toNat : Int)) (_hy : ((s[1]'(by omega)).toNat : Int) ≤ hi) (_hz : 128 ≤ ((s[2]'(by omega)).toNat : Int)) (_hz' : ((s[2]'(by omega)).toNat : Int) ≤ 191) :
    Calls Tryd.prog 41 #[.string s] w fun e w' => e = .returned (.bool false) ∧ Below w.heap.size w w' := by
  have hne : ((s.size : Int) == 0) = false := beq_eq_false_iff_ne.2 (by omega)
  go_enter Tryd.func41, Tryd.ntmps41
  go_wp2
  go_quiet (fail)
  go_wp2
  go_ret
  exact ⟨rfl, below_dn ((Below.refl _ w).alloc (Nat.le_refl _) _) _⟩

/-- What utf8.FullRuneInString tells of at most three bytes (more are always full). -/
def fullB (s : ByteArray) : Bool :=
  if s.size = 0 then false
  else if Lib.firstT (s.get! 0).toNat % 8 ≤ s.size then true
  else if 1 < s.size ∧ ((s.get! 1).toNat < Lib.accLo (Lib.firstT (s.get! 0).toNat / 16) ∨ Lib.accHi (Lib.firstT (s.get! 0).toNat / 16) < (s.get! 1).toNat) then true
  else if 2 < s.size ∧ ((s.get! 2).toNat < 128 ∨ 191 < (s.get! 2).toNat) then true
  else false

theorem firstT_lt (b : Nat) : Lib.firstT b < 256 := by
  unfold Lib.firstT
  repeat' split
  all_goals omega
theorem firstT_sz (b : Nat) : Lib.firstT b % 8 ≤ 4 := by
  unfold Lib.firstT
  repeat' split
  all_goals omega

theorem get_bang (s : ByteArray) (k : Nat) (h : k < s.size) : s.get! k = s[k] := by
  exact get_at s k h

theorem full_any (s : ByteArray) (w : World) (hT : Lib.Utf8Tabs 0 1 w) : Calls Tryd.prog 41 #[.string s] w fun e w' => e = .returned (.bool (fullB s)) ∧ Below w.heap.size w w' := by
  by_cases hz : s.size = 0
  · have e : s = ByteArray.empty := by cases s with | mk d => simp [ByteArray.size] at hz; subst hz; rfl
    subst e
    exact (full_zero w).mono fun e w' ⟨h1, h2⟩ => ⟨h1, h2 ▸ Below.refl _ _⟩
  have h0 : 0 < s.size := by omega
  have g0 := get_bang s 0 h0
  have hb : s[0].toNat < 256 := s[0].toNat_lt
  have hf := firstT_lt s[0].toNat
  have hs4 := firstT_sz s[0].toNat
  have hc := hT.1 s[0].toNat hb
  obtain ⟨ha0, ha1⟩ := hT.2 (Lib.firstT s[0].toNat / 16) (by omega)
  have hq : ((Lib.firstT s[0].toNat : Int) / 16).toNat = Lib.firstT s[0].toNat / 16 := by omega
  have hb0 : w.cell? ⟨1, ((Lib.firstT s[0].toNat : Int) / 16).toNat * 2, none⟩ = some (.int .u8 (Lib.accLo (Lib.firstT s[0].toNat / 16))) := by rw [hq, Nat.mul_comm]; exact ha0
  have hb1 : w.cell? ⟨1, ((Lib.firstT s[0].toNat : Int) / 16).toNat * 2 + 1, none⟩ = some (.int .u8 (Lib.accHi (Lib.firstT s[0].toNat / 16))) := by rw [hq, Nat.mul_comm]; exact ha1
  by_cases hge : Lib.firstT s[0].toNat % 8 ≤ s.size
  · have e : fullB s = true := by unfold fullB; rw [if_neg hz, g0, if_pos hge]
    rw [e]
    exact (full_ge s w _ h0 hb (by omega) (by omega) hc (by omega)).mono fun e w' ⟨h1, h2⟩ => ⟨h1, h2 ▸ Below.refl _ _⟩
  have e0 : fullB s = if 1 < s.size ∧ ((s.get! 1).toNat < Lib.accLo (Lib.firstT s[0].toNat / 16) ∨ Lib.accHi (Lib.firstT s[0].toNat / 16) < (s.get! 1).toNat) then true
      else if 2 < s.size ∧ ((s.get! 2).toNat < 128 ∨ 191 < (s.get! 2).toNat) then true else false := by unfold fullB; rw [if_neg hz, g0, if_neg hge]
  rw [e0]
  clear e0
  have hn : s.size = 1 ∨ s.size = 2 ∨ s.size = 3 := by omega
  rcases hn with hn | hn | hn
  · rw [if_neg (by omega), if_neg (by omega)]
    exact full_1 s w _ _ _ hn hb (by omega) (by omega) hc (by omega) hb0 hb1
  · have g1 := get_bang s 1 (by omega)
    rw [g1]
    by_cases h1 : (s[1]'(by omega)).toNat < Lib.accLo (Lib.firstT s[0].toNat / 16)
    · rw [if_pos ⟨by omega, .inl h1⟩]
      exact full_2lo s w _ _ _ hn hb (by omega) (by omega) hc (by omega) hb0 hb1 (by omega)
    · by_cases h2 : Lib.accHi (Lib.firstT s[0].toNat / 16) < (s[1]'(by omega)).toNat
      · rw [if_pos ⟨by omega, .inr h2⟩]
        exact full_2hi s w _ _ _ hn hb (by omega) (by omega) hc (by omega) hb0 hb1 (by omega) (by omega)
      · rw [if_neg (by omega), if_neg (by omega)]
        exact full_2in s w _ _ _ hn hb (by omega) (by omega) hc (by omega) hb0 hb1 (by omega) (by omega)
  · have g1 := get_bang s 1 (by omega)
    have g2 := get_bang s 2 (by omega)
    rw [g1, g2]
    by_cases h1 : (s[1]'(by omega)).toNat < Lib.accLo (Lib.firstT s[0].toNat / 16)
    · rw [if_pos ⟨by omega, .inl h1⟩]
      exact full_3lo s w _ _ _ hn hb (by omega) (by omega) hc (by omega) hb0 hb1 (by omega)
    · by_cases h2 : Lib.accHi (Lib.firstT s[0].toNat / 16) < (s[1]'(by omega)).toNat
      · rw [if_pos ⟨by omega, .inr h2⟩]
        exact full_3hi s w _ _ _ hn hb (by omega) (by omega) hc (by omega) hb0 hb1 (by omega) (by omega)
      · rw [if_neg (by omega)]
        by_cases h3 : (s[2]'(by omega)).toNat < 128
        · rw [if_pos ⟨by omega, .inl h3⟩]
          exact full_3lo2 s w _ _ _ hn hb (by omega) (by omega) hc (by omega) hb0 hb1 (by omega) (by omega) (by omega)
        · by_cases h4 : 191 < (s[2]'(by omega)).toNat
          · rw [if_pos ⟨by omega, .inr h4⟩]
            exact full_3hi2 s w _ _ _ hn hb (by omega) (by omega) hc (by omega) hb0 hb1 (by omega) (by omega) (by omega)
          · rw [if_neg (by omega)]
            exact full_3in s w _ _ _ hn hb (by omega) (by omega) hc (by omega) hb0 hb1 (by omega) (by omega) (by omega) (by omega)

/-- The longest end of s, of at most n bytes, that is a front of an encoding. -/
def openN (s : ByteArray) : Nat → ByteArray
  | 0 => ByteArray.empty
  | n + 1 => if fullB (s.extract (s.size - (n + 1)) s.size) = true then openN s n else s.extract (s.size - (n + 1)) s.size
def openE (s : ByteArray) : ByteArray := openN s (min s.size 3)

theorem tabs_below {w w' : World} (hw : 2 ≤ w.heap.size) (hT : Lib.Utf8Tabs 0 1 w) (h : Below w.heap.size w w') : Lib.Utf8Tabs 0 1 w' :=
  ⟨fun c hc => (h.cell (p := ⟨0, c, none⟩) (by show 0 < _; omega)).trans (hT.1 c hc), fun i hi => ⟨(h.cell (p := ⟨1, 2 * i, none⟩) (by show 1 < _; omega)).trans (hT.2 i hi).1, (h.cell (p := ⟨1, 2 * i + 1, none⟩) (by show 1 < _; omega)).trans (hT.2 i hi).2⟩⟩

set_option maxRecDepth 100000 in
set_option maxHeartbeats 400000 in
theorem openEnd_any (s : ByteArray) (w : World) (hs : s.size ≤ 140737488355328) (hw : 2 ≤ w.heap.size) (hT : Lib.Utf8Tabs 0 1 w) : Calls Tryd.prog 28 #[.string s] w fun e w' => e = .returned (.string (openE s)) ∧ Below w.heap.size w w' := by
  go_enter Tryd.func28, Tryd.ntmps28
  go_wp2
  go_loopw [2, 3, 4] (fun _ n _ w' => ∃ k : Nat, k ≤ s.size ∧ n = .int .i64 k ∧ openN s k = openE s ∧ Below w.heap.size w w') (fun _ n _ _ => (intOf n).toNat)
  case atStart => exact ⟨min s.size 3, by omega, by go_num, rfl, Below.refl _ _⟩
  case round =>
    obtain ⟨k, hk, rfl, hop, hB⟩ := hrel
    have OP : Hid (openN s k = openE s) := hop
    clear hop
    cases k with
    | zero =>
      go_wp2
      go_ret
      exact ⟨by rw [← OP.out]; rfl, hB⟩
    | succ m =>
      go_wp2_with fail
      refine (full_any _ _ (tabs_below hw hT hB)).mono ?_
      rintro e w1 ⟨rfl, hB1⟩
      have hB2 := hB.trans (hB1.mono hB.size)
      cases hf : fullB (s.extract (s.size - (m + 1)) s.size)
      · go_wp2
        go_ret
        exact ⟨by rw [← OP.out]; simp [openN, hf], hB2⟩
      · go_wp2
        go_roundw
        case rel => exact ⟨m, by omega, by go_num, by rw [← OP.out]; simp [openN, hf], hB2⟩
        case measure => simp [intOf]

end Go.Proofs.YtbiodfeanngkdaaDoor
