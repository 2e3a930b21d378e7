/- Contracts of surtitleref3's texts: run, zero. -/
import Derived.Test.YtmofjkfghidlnaaDoorRatP2
namespace Go.Proofs.YtmofjkfghidlnaaDoor
open Go.RowKit Go.Shelf
attribute [local go_sem] Oper.semAt_some bs_toList

/-- How many digits stand ahead. -/
def runN : List UInt8 → Nat
  | [] => 0
  | c :: t => if isDig c = true then runN t + 1 else 0
theorem runN_step {l : List UInt8} {k : Nat} (hk : k < l.length) : runN (l.drop k) = if isDig l[k] = true then runN (l.drop (k + 1)) + 1 else 0 := by
  rw [List.drop_eq_getElem_cons hk]
  rfl
theorem runN_end (l : List UInt8) : runN (l.drop l.length) = 0 := by rw [List.drop_length]; rfl

set_option maxRecDepth 100000 in
theorem rrun_any (l : List UInt8) (p : Nat) (hp : p ≤ l.length) (hl : l.length ≤ 9223372036854775806) (w : World) :
    Calls Tryd.prog 83 #[.string (bs l), .int .i64 p] w fun e w' => e = .returned (.int .i64 (runN (l.drop p))) ∧ w' = w := by
  have hsz := bs_size l
  go_enter Tryd.func83, Tryd.ntmps83
  go_wp2
  go_loop [5] (fun vi => ∃ k : Nat, p ≤ k ∧ k ≤ l.length ∧ vi = .int .i64 k ∧ Hid (runN (l.drop p) + p = runN (l.drop k) + k)) (fun vi => l.length - (intOf vi).toNat)
  case atStart => exact ⟨p, by omega, hp, rfl, rfl⟩
  case round =>
    obtain ⟨k, hk1, hk, rfl, HK⟩ := hrel
    by_cases h1 : k < l.length
    · have z1 : (k : Int) < ((bs l).size : Int) := by omega
      have z2 : k < (bs l).size := by omega
      obtain ⟨c, hc⟩ : ∃ c, l[k]'h1 = c := ⟨_, rfl⟩
      have hg : (bs l)[k] = c := (bs_get l k z2).trans hc
      have HS := runN_step h1
      rw [hc] at HS
      have HS := hideR HS
      clear hc
      by_cases hd : isDig c = true
      · have hx : 48 ≤ c.toNat ∧ c.toNat ≤ 57 := of_decide_eq_true hd
        have HE : Hid (runN (l.drop k) = runN (l.drop (k + 1)) + 1) := by rw [Hid, HS.out, if_pos hd]
        clear hd
        go_wp2
        go_round
        case rel => exact ⟨k + 1, by omega, by omega, by go_num, by have h1 := HK.out; have h2 := HE.out; rw [Hid]; omega⟩
        case measure => simp [intOf]; omega
      · have hx : ¬ (48 ≤ c.toNat ∧ c.toNat ≤ 57) := fun h => hd (decide_eq_true h)
        have HE : Hid (runN (l.drop k) = 0) := by rw [Hid, HS.out, if_neg hd]
        clear hd
        by_cases hy : c.toNat < 48
        · go_wp2
          go_ret
          exact ⟨ret_int (by have h1 := HK.out; have h2 := HE.out; omega), rfl⟩
        · have hy2 : 57 < c.toNat := by omega
          go_wp2
          go_ret
          exact ⟨ret_int (by have h1 := HK.out; have h2 := HE.out; omega), rfl⟩
    · obtain rfl : k = l.length := by omega
      have HE := hideR (runN_end l)
      go_wp2
      go_ret
      exact ⟨ret_int (by have h1 := HK.out; have h2 := HE.out; omega), rfl⟩

set_option maxRecDepth 100000 in
theorem rzero_any (l : List UInt8) (hl : l.length ≤ 9223372036854775806) (w : World) :
    Calls Tryd.prog 84 #[.string (bs l)] w fun e w' => e = .returned (.bool (l.all (· == 48))) ∧ w' = w := by
  have hsz := bs_size l
  obtain ⟨R, eR⟩ : ∃ R, l.all (· == 48) = R := ⟨_, rfl⟩
  rw [eR]
  go_enter Tryd.func84, Tryd.ntmps84
  go_wp2
  go_loop [3] (fun vi => ∃ k : Nat, k ≤ l.length ∧ vi = .int .i64 k ∧ Hid ((l.drop k).all (· == 48) = R)) (fun vi => l.length - (intOf vi).toNat)
  case atStart => exact ⟨0, by omega, rfl, eR⟩
  case round =>
    clear eR
    obtain ⟨k, hk, rfl, HK⟩ := hrel
    by_cases h1 : k < l.length
    · have z1 : (k : Int) < ((bs l).size : Int) := by omega
      have z2 : k < (bs l).size := by omega
      obtain ⟨c, hc⟩ : ∃ c, l[k]'h1 = c := ⟨_, rfl⟩
      have hg : (bs l)[k] = c := (bs_get l k z2).trans hc
      have HS : Hid ((l.drop k).all (· == 48) = (c == 48 && (l.drop (k + 1)).all (· == 48))) := by rw [Hid, List.drop_eq_getElem_cons h1, hc]; rfl
      clear hc
      by_cases hd : c = 48
      · have hx : c.toNat = 48 := by rw [hd]; rfl
        have HE : Hid ((l.drop (k + 1)).all (· == 48) = R) := by rw [Hid, ← HK.out, HS.out, hd]; rfl
        clear hd
        go_wp2
        go_round
        case rel => exact ⟨k + 1, by omega, by go_num, HE⟩
        case measure => simp [intOf]; omega
      · have hx : ¬ c.toNat = 48 := fun h => hd (UInt8.toNat_inj.1 h)
        have HE : Hid (R = false) := by rw [Hid, ← HK.out, HS.out, show (c == 48) = false by simpa using hd]; rfl
        clear hd
        go_wp2
        go_ret
        exact ⟨congrArg (fun b => Ending.returned (Value.bool b)) HE.out.symm, rfl⟩
    · obtain rfl : k = l.length := by omega
      have HE : Hid (R = true) := by rw [Hid, ← HK.out, List.drop_length]; rfl
      go_wp2
      go_ret
      exact ⟨congrArg (fun b => Ending.returned (Value.bool b)) HE.out.symm, rfl⟩
end Go.Proofs.YtmofjkfghidlnaaDoor
