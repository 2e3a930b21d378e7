/- bidi: the small functions of classes and levels (chapter 4). -/
import Derived.Test.YtbehlaclffjkbaaDoorBdA
import Derived.Laws.Bits64b
import Derived.Laws.BitsLemmas
namespace Go.Proofs.YtbehlaclffjkbaaDoor
open Go.RowKit Go.Shelf

def oddB (e : Int) : Bool := e % 2 == 1
def sideI (e : Int) : Int := if oddB e = true then 15 else 17
def lvlI (c e : Int) : Int := if c = sideI e then e else if oddB e = true then e + 1 else if c = 15 then e + 1 else e + 2
def insI (e : Int) (left : Bool) : Int := if (oddB (e + 1) == left) = true then e + 1 else e + 2
def pullI (c : Int) : Int := if c = 17 then 17 else 15
theorem pull_any (c : Int) (w : World) : Calls Tryd.prog 84 #[.int .i64 c] w fun e w' => e = .returned (.int .i64 (pullI c)) ∧ w' = w := by
  unfold pullI
  go_enter Tryd.func84, Tryd.ntmps84
  by_cases h : c = 17
  · rw [if_pos h]
    subst h
    go_wp2_with fail
    go_ret
    exact ⟨rfl, rfl⟩
  · rw [if_neg h]
    have e : (c == 17) = false := by simp [h]
    go_wp2_with fail
    go_ret
    exact ⟨rfl, rfl⟩
theorem and1_i64 (a : Nat) (h : a < 9223372036854775808) : bits .and .i64 (a : Int) 1 = ((a % 2 : Nat) : Int) := by
  have h1 : (BitVec.ofInt 64 (a : Int)).toNat = a := by
    rw [BitVec.ofInt_natCast, BitVec.toNat_ofNat]; exact Nat.mod_eq_of_lt (by omega)
  show IntKind.i64.wrap ((BitVec.ofInt 64 (a : Int) &&& BitVec.ofInt 64 1).toNat : Int) = _
  rw [BitVec.toNat_and, h1, show (BitVec.ofInt 64 1).toNat = 1 from rfl, Nat.and_one_is_mod]
  exact IntWalk.i64_in _ ⟨by omega, by omega⟩
theorem and1_u32 (a : Nat) (h : a < 4294967296) : bits .and .u32 (a : Int) 1 = ((a % 2 : Nat) : Int) := by
  have h1 : (BitVec.ofInt 32 (a : Int)).toNat = a := by
    rw [BitVec.ofInt_natCast, BitVec.toNat_ofNat]; exact Nat.mod_eq_of_lt (by omega)
  show IntKind.u32.wrap ((BitVec.ofInt 32 (a : Int) &&& BitVec.ofInt 32 1).toNat : Int) = _
  rw [BitVec.toNat_and, h1, show (BitVec.ofInt 32 1).toNat = 1 from rfl, Nat.and_one_is_mod, IntKind.wrap_u32]
  omega
theorem odd_any (e : Int) (h : 0 ≤ e ∧ e ≤ 1000000000000000) (w : World) : Calls Tryd.prog 48 #[.int .i64 e] w fun r w' => r = .returned (.bool (oddB e)) ∧ w' = w := by
  obtain ⟨k, rfl⟩ : ∃ k : Nat, e = (k : Int) := ⟨e.toNat, by omega⟩
  have hb : bits .and .i64 (k : Int) 1 = ((k % 2 : Nat) : Int) := and1_i64 k (by omega)
  unfold oddB
  go_enter Tryd.func48, Tryd.ntmps48
  go_wp2_with fail
  go_ret
  exact ⟨rfl, rfl⟩
theorem bit_u32 (K c : Nat) (hK : K < 262144) : bits .and .u32 ((K : Int) / 2 ^ c) 1 = (((K / 2 ^ c) % 2 : Nat) : Int) := by
  have hp : ((2 ^ c : Nat) : Int) = (2 : Int) ^ c := Int.natCast_pow 2 c
  have hd : (K : Int) / 2 ^ c = ((K / 2 ^ c : Nat) : Int) := by rw [← hp]; exact (Int.natCast_ediv K (2 ^ c)).symm
  rw [hd]
  exact and1_u32 _ (Nat.lt_of_le_of_lt (Nat.div_le_self _ _) (by omega))
theorem bit_test (K c : Nat) : K.testBit c = ((((K / 2 ^ c) % 2 : Nat) : Int) == 1) := by
  rw [Nat.testBit_eq_decide_div_mod_eq]
  have h2 := Nat.mod_two_eq_zero_or_one (K / 2 ^ c)
  generalize K / 2 ^ c % 2 = z at *
  rcases h2 with rfl | rfl <;> rfl
set_option maxRecDepth 100000 in
set_option maxHeartbeats 1000000 in
theorem has_any (K : Nat) (c : Nat) (h : 1 ≤ c ∧ c ≤ 17) (hK : K < 262144) (w : World) : Calls Tryd.prog 47 #[.int .u32 (K : Int), .int .i64 (c : Int)] w fun r w' => r = .returned (.bool (K.testBit c)) ∧ w' = w := by
  have c0 : (0 : Int) ≤ (c : Int) := by omega
  have c32 : (c : Int) ≤ 32 := by omega
  have hb := bit_u32 K c hK
  rw [bit_test]
  obtain ⟨z, hz⟩ : ∃ z, ((K / 2 ^ c) % 2 : Nat) = z := ⟨_, rfl⟩
  rw [hz] at hb ⊢
  clear hz hK
  go_enter Tryd.func47, Tryd.ntmps47
  go_wp2_with fail
  go_ret
  exact ⟨rfl, rfl⟩
theorem odd_bd (e : Int) : oddB e = true ∨ oddB e = false := by cases oddB e <;> simp
theorem side_any (e : Int) (h : 0 ≤ e ∧ e ≤ 1000000000000000) (w : World) : Calls Tryd.prog 49 #[.int .i64 e] w fun r w' => r = .returned (.int .i64 (sideI e)) ∧ w' = w := by
  have HO := hideB (fun W => odd_any e h W)
  unfold sideI
  generalize oddB e = z at *
  go_enter Tryd.func49, Tryd.ntmps49
  go_wp2_with fail
  refine (HO.out w).mono ?_
  rintro r w1 ⟨rfl, rfl⟩
  cases z <;> (go_wp2_with fail; go_ret; exact ⟨rfl, rfl⟩)
theorem lvl_any (c e : Int) (h : 0 ≤ e ∧ e ≤ 1000000000000000) (w : World) : Calls Tryd.prog 51 #[.int .i64 c, .int .i64 e] w fun r w' => r = .returned (.int .i64 (lvlI c e)) ∧ w' = w := by
  have HS := hideB (fun W => side_any e h W)
  have HO := hideB (fun W => odd_any e h W)
  have w1 : IntKind.i64.wrap (e + 1) = e + 1 := IntWalk.i64_in _ ⟨by omega, by omega⟩
  have w2 : IntKind.i64.wrap (e + 2) = e + 2 := IntWalk.i64_in _ ⟨by omega, by omega⟩
  unfold lvlI
  generalize sideI e = s at *
  generalize oddB e = z at *
  go_enter Tryd.func51, Tryd.ntmps51
  go_wp2_with fail
  refine (HS.out w).mono ?_
  rintro r w' ⟨rfl, rfl⟩
  by_cases h1 : c = s
  · subst h1
    go_wp2_with fail
    go_ret
    exact ⟨by simp, rfl⟩
  · have e1 : (c == s) = false := by simp [h1]
    go_wp2_with fail
    refine (HO.out _).mono ?_
    rintro r w'' ⟨rfl, rfl⟩
    cases z with
    | true =>
      go_wp2_with fail
      go_ret
      exact ⟨by first | (simp; done) | simp [h1], rfl⟩
    | false =>
      by_cases h2 : c = 15
      · subst h2
        go_wp2_with fail
        go_ret
        exact ⟨by first | (simp; done) | simp [h1], rfl⟩
      · have e2 : (c == 15) = false := by simp [h2]
        go_wp2_with fail
        go_ret
        exact ⟨by first | (simp; done) | (simp [h1]; done) | simp [h1, h2], rfl⟩
theorem ins_any (e : Int) (left : Bool) (h : 0 ≤ e ∧ e ≤ 100000000000000) (w : World) : Calls Tryd.prog 20 #[.int .i64 e, .bool left] w fun r w' => r = .returned (.int .i64 (insI e left)) ∧ w' = w := by
  have HO := hideB (fun W => odd_any (e + 1) (by omega) W)
  have w1 : IntKind.i64.wrap (e + 1) = e + 1 := IntWalk.i64_in _ ⟨by omega, by omega⟩
  have w2 : IntKind.i64.wrap (e + 2) = e + 2 := IntWalk.i64_in _ ⟨by omega, by omega⟩
  unfold insI
  generalize oddB (e + 1) = z at *
  go_enter Tryd.func20, Tryd.ntmps20
  go_wp2_with fail
  refine (HO.out w).mono ?_
  rintro r w' ⟨rfl, rfl⟩
  cases z <;> cases left <;> (go_wp2_with fail; go_ret; exact ⟨by simp, rfl⟩)
end Go.Proofs.YtbehlaclffjkbaaDoor
