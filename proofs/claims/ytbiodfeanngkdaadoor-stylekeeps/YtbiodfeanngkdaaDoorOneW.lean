/- The contract of the document's own one (surtitleref1): the sign at a place of laid bytes. -/
import Derived.Test.YtbiodfeanngkdaaDoorRefS
import Derived.Laws.NewBlocks
import Derived.Deep.RegionHeld
namespace Go.Proofs.YtbiodfeanngkdaaDoor
open Go.RowKit

/-- What is gathered of the bytes behind the first, up to the k-th. -/
def rr (s : ByteArray) (p : Nat) : Nat → Int
  | 0 => 0
  | 1 => 0
  | 2 => ((s.get! (p + 1)).toNat : Int) - 128
  | k + 3 => 64 * rr s p (k + 2) + (((s.get! (p + (k + 2))).toNat : Int) - 128)

structure OneR where
  len : Nat
  rune : Int
  bad : Bool
def OneR.val (x : OneR) (p : Nat) : Value := .agg #[.int .i64 p, .int .i64 x.len, .int .i64 x.rune, .bool x.bad]
def badR : OneR := ⟨1, 65533, true⟩
def leadN (n : Nat) (c : Int) : Int := if n = 2 then 64 * (c - 192) else if n = 3 then 4096 * (c - 224) else 262144 * (c - 240)
/-- Are the bytes behind the second, up to the n-th, such as go on? -/
def goOn (s : ByteArray) (p n : Nat) : Bool := decide (n ≤ 2 ∨ moreB s (p + 2) = true) && decide (n ≤ 3 ∨ moreB s (p + 3) = true)
def oneR (s : ByteArray) (p : Nat) : OneR :=
  let c : Int := (s.get! p).toNat
  if longN c = 0 then badR else if longN c = 1 then ⟨1, c, false⟩
  else if ¬ (p + 1 < s.size ∧ secondB c (s.get! (p + 1)).toNat = true) then badR
  else if goOn s p (longN c).toNat = true then ⟨(longN c).toNat, rr s p (longN c).toNat + leadN (longN c).toNat c, false⟩ else badR

theorem hideO {p : Prop} (h : p) : Hid p := h
theorem longN_cases (c : Int) : longN c = 0 ∨ longN c = 1 ∨ longN c = 2 ∨ longN c = 3 ∨ longN c = 4 := by
  unfold longN
  by_cases h1 : c < 128
  · rw [if_pos h1]; simp
  rw [if_neg h1]
  by_cases h2 : 194 ≤ c ∧ c ≤ 223
  · rw [if_pos h2]; simp
  rw [if_neg h2]
  by_cases h3 : 224 ≤ c ∧ c ≤ 239
  · rw [if_pos h3]; simp
  rw [if_neg h3]
  by_cases h4 : 240 ≤ c ∧ c ≤ 244
  · rw [if_pos h4]; simp
  rw [if_neg h4]; simp
theorem rr_le (s : ByteArray) (p k : Nat) (hk : k ≤ 4) : -128 * 5000 ≤ rr s p k ∧ rr s p k ≤ 128 * 5000 := by
  have h1 := (s.get! (p + 1)).toNat_lt
  have h2 := (s.get! (p + 2)).toNat_lt
  have h3 := (s.get! (p + 3)).toNat_lt
  rcases (show k = 0 ∨ k = 1 ∨ k = 2 ∨ k = 3 ∨ k = 4 by omega) with rfl | rfl | rfl | rfl | rfl <;> simp only [rr, Nat.zero_add, Nat.reduceAdd] <;> omega

theorem BytesAt.alloc {w : World} {B : Nat} {s : ByteArray} (h : BytesAt w B s) (hB : B < w.heap.size) (o : Obj) : BytesAt (w.alloc o) B s := fun k hk => by rw [World.cell?_alloc_past o B k hB]; exact h k hk
theorem BytesAt.drew {w : World} {B : Nat} {s : ByteArray} (h : BytesAt w B s) : BytesAt w.drew B s := fun k hk => h k hk
theorem more_lt {s : ByteArray} {k : Nat} (h : moreB s k = true) : k < s.size := by unfold moreB at h; rw [Bool.and_eq_true] at h; exact of_decide_eq_true h.1

end Go.Proofs.YtbiodfeanngkdaaDoor
