/- Contracts of the small functions of package utf at the landed commit: what each call returns, and that nothing old in memory has turned. -/
import Derived.WalkKit
import Derived.WalkSpells
import Derived.WalkLawsBesides
import Derived.Lib.OthersKept
import Derived.Lib.RuneCount
import Derived.Test.YtbiodfeanngkdaaDoorProg
namespace Go.Proofs.YtbiodfeanngkdaaDoor
open Go.RowKit

def pairsI (r : Int) : Int := if 65536 ≤ r then 2 else 1

set_option maxHeartbeats 400000 in
theorem pairsOf_any (r : Int) (w : World) : Calls Tryd.prog 49 #[.int .i32 r] w fun e w' => e = .returned (.int .i64 (pairsI r)) ∧ w' = w := by
  by_cases h : 65536 ≤ r
  · go_enter Tryd.func49, Tryd.ntmps49
    go_wp2
    go_ret
    exact ⟨by simp [pairsI, h], rfl⟩
  · go_enter Tryd.func49, Tryd.ntmps49
    go_wp2
    go_ret
    exact ⟨by simp [pairsI, h], rfl⟩

set_option maxHeartbeats 400000 in
theorem isUnit_yes (u : Int) (w : World) (h : u = 1 ∨ u = 2 ∨ u = 3) : Calls Tryd.prog 25 #[.int .i64 u] w fun e w' => e = .returned (.bool true) ∧ w' = w := by
  rcases h with rfl | rfl | rfl
  all_goals
    go_enter Tryd.func25, Tryd.ntmps25
    go_wp2
    go_ret
    exact ⟨rfl, rfl⟩

set_option maxHeartbeats 400000 in
theorem isUnit_no (u : Int) (w : World) (h : ¬ (u = 1 ∨ u = 2 ∨ u = 3)) : Calls Tryd.prog 25 #[.int .i64 u] w fun e w' => e = .returned (.bool false) ∧ w' = w := by
  have h1 : (u == 1) = false := beq_eq_false_iff_ne.2 (by omega)
  have h2 : (u == 2) = false := beq_eq_false_iff_ne.2 (by omega)
  have h3 : (u == 3) = false := beq_eq_false_iff_ne.2 (by omega)
  go_enter Tryd.func25, Tryd.ntmps25
  go_wp2
  go_ret
  exact ⟨rfl, rfl⟩

set_option maxHeartbeats 400000 in
theorem signs_mk (s : ByteArray) (w : World) : Calls Tryd.prog 34 #[.string s] w fun e w' => e = .returned (.func (.func 46) #[] #[.pointer (some ⟨w.heap.size, 0, none⟩)]) ∧ w' = w.alloc (.cells #[.string s] 9) := by
  go_enter Tryd.func34, Tryd.ntmps34
  go_wp2
  go_ret
  exact ⟨rfl, rfl⟩

set_option maxHeartbeats 400000 in
theorem spots_mk (s : ByteArray) (w : World) : Calls Tryd.prog 39 #[.string s] w fun e w' => e = .returned (.func (.func 48) #[] #[.pointer (some ⟨w.heap.size, 0, none⟩)]) ∧ w' = w.alloc (.cells #[.string s] 9) := by
  go_enter Tryd.func39, Tryd.ntmps39
  go_wp2
  go_ret
  exact ⟨rfl, rfl⟩

/-- Is p a front of s? -/
def isPre (p s : ByteArray) : Bool := decide (p.size ≤ s.size) && (s.extract 0 p.size).toList == p.toList

set_option maxHeartbeats 400000 in
theorem hasPre_lo (s p : ByteArray) (w : World) : Calls Tryd.prog 62 #[.string s, .string p] w fun e w' => e = .returned (.bool (isPre p s)) ∧ w' = w := by
  by_cases h : p.size ≤ s.size
  · go_enter Tryd.func62, Tryd.ntmps62
    go_wp2
    go_ret
    exact ⟨by simp [isPre, h], rfl⟩
  · go_enter Tryd.func62, Tryd.ntmps62
    go_wp2
    go_ret
    exact ⟨by simp [isPre, h], rfl⟩

set_option maxHeartbeats 400000 in
theorem hasPre (s p : ByteArray) (w : World) : Calls Tryd.prog 56 #[.string s, .string p] w fun e w' => e = .returned (.bool (isPre p s)) ∧ w' = w := by
  go_enter Tryd.func56, Tryd.ntmps56
  go_wp2_with (go_at_call 62; refine (hasPre_lo _ _ _).mono ?_; rintro e w' ⟨rfl, rfl⟩)
  go_ret
  exact ⟨rfl, rfl⟩

theorem encode_small (r : Int) : (Utf8.encode r).size ≤ 4 := by
  unfold Utf8.encode
  dsimp only
  repeat' split
  all_goals (simp [ByteArray.size])

/-- A sign: where it begins, how many bytes it has, its rune, whether it is bad. -/
structure Sg where
  loc : Nat
  len : Nat
  rune : Int
  bad : Bool
  small : len ≤ 4
def Sg.val (x : Sg) : Value := .agg #[.int .i64 x.loc, .int .i64 x.len, .int .i32 x.rune, .bool x.bad]

/-- The sign that utf tells at a place of a text, where ranging tells the rune r. -/
def sgnR (s : ByteArray) (p : Nat) (r : Int) : Sg :=
  if isPre (Utf8.encode r) (s.extract p s.size) = true then ⟨p, (Utf8.encode r).size, r, false, encode_small r⟩ else ⟨p, 1, 65533, true, by omega⟩
def sgn (s : ByteArray) (p : Nat) : Sg := sgnR s p (Utf8.decode s p).1

set_option maxHeartbeats 400000 in
theorem signAt_any (s : ByteArray) (p : Nat) (r : Int) (w : World) (_hs : s.size ≤ 140737488355328) (hp : p ≤ s.size) : Calls Tryd.prog 47 #[.string s, .int .i64 p, .int .i32 r] w fun e w' => e = .returned (sgnR s p r).val ∧ ∃ v, w' = w.alloc (.cells v 55) := by
  have he := encode_small r
  cases hq : isPre (Utf8.encode r) (s.extract p s.size)
  · go_enter Tryd.func47, Tryd.ntmps47
    go_wp2_with (go_at_call 56; refine (hasPre _ _ _).mono ?_; rintro e w' ⟨rfl, rfl⟩)
    exact bodyPost_ret (v := .agg #[.int .i64 p, .int .i64 1, .int .i32 65533, .bool true]) (by simp [results, Tryd.results47, go_sem]) rfl ⟨by simp [sgnR, hq, Sg.val], _, rfl⟩
  · go_enter Tryd.func47, Tryd.ntmps47
    go_wp2_with (go_at_call 56; refine (hasPre _ _ _).mono ?_; rintro e w' ⟨rfl, rfl⟩)
    exact bodyPost_ret (v := .agg #[.int .i64 p, .int .i64 (Utf8.encode r).size, .int .i32 r, .bool false]) (by simp [results, Tryd.results47, go_sem]) rfl ⟨by simp [sgnR, hq, Sg.val], _, rfl⟩

/-- The signs of a text from a place on. -/
def sgns (s : ByteArray) : Nat → Nat → List Sg
  | 0, _ => []
  | fuel + 1, p => if p < s.size then sgn s p :: sgns s fuel (p + (Utf8.decode s p).2) else []
theorem sgns_end (s : ByteArray) (f p : Nat) (h : ¬ p < s.size) : sgns s f p = [] := by cases f <;> simp [sgns, h]
theorem sgns_length (s : ByteArray) : ∀ f p, (sgns s f p).length ≤ f
  | 0, _ => by simp [sgns]
  | f + 1, p => by
    have := sgns_length s f (p + (Utf8.decode s p).2)
    unfold sgns
    split
    · simp; omega
    · simp
def signs (s : ByteArray) : List Sg := sgns s s.size 0
/-- Units of UTF-16 of runes. -/
def pairsFrom (s : ByteArray) : Nat → Nat → Int
  | 0, _ => 0
  | fuel + 1, p => if p < s.size then pairsI (Utf8.decode s p).1 + pairsFrom s fuel (p + (Utf8.decode s p).2) else 0
theorem pairsFrom_end (s : ByteArray) (f p : Nat) (h : ¬ p < s.size) : pairsFrom s f p = 0 := by cases f <;> simp [pairsFrom, h]
theorem pairsI_bd (r : Int) : 1 ≤ pairsI r ∧ pairsI r ≤ 2 := by unfold pairsI; split <;> omega
theorem pairsFrom_bd (s : ByteArray) : ∀ f p, 0 ≤ pairsFrom s f p ∧ pairsFrom s f p ≤ 2 * f
  | 0, _ => by simp [pairsFrom]
  | f + 1, p => by
    have := pairsFrom_bd s f (p + (Utf8.decode s p).2)
    have := pairsI_bd (Utf8.decode s p).1
    unfold pairsFrom
    split <;> omega

end Go.Proofs.YtbiodfeanngkdaaDoor
