/- Package code: a dial's text read, at every text. -/
import Derived.Test.YtaipdckakgohjaaGreatDoorCdR
namespace Go.Proofs.YtaipdckakgohjaaGreatDoor
open Go.RowKit Go.Shelf
attribute [local go_sem] Oper.semAt_some bs_toList

set_option maxRecDepth 100000 in
set_option maxHeartbeats 2000000 in
theorem read_m2 (hours per dg k k2 k5 : Nat) (mark : UInt8) (ds : Bool) (l : List UInt8) (hl : (l.length : Int) - 6 - (dg : Int) = (k : Int)) (hlb : l.length ≤ 9223372036854775807) (e2 : (k : Int) + 2 = (k2 : Int)) (e5 : (k : Int) + 5 = (k5 : Int)) (hdg : dg ≤ 3)
    (g2 : k2 < (bs l).size) (_g5 : k5 < (bs l).size) (m2 : ¬ (bs l)[k2] = 58) (w : World) :
    Calls Tryz.prog 25 #[.agg #[.int .i64 hours, .int .u8 mark.toNat, .int .i64 per, .int .i64 dg, .bool ds], .string (bs l)] w fun e w' => e = .returned (.tuple #[.int .i64 0, .bool false]) ∧ Below w.heap.size w w' := by
  have hsz := bs_size l
  have z1 : ((bs l).size : Int) - 6 - (dg : Int) = (k : Int) := by omega
  have z2 : (k2 : Int) < ((bs l).size : Int) := by omega
  have z5 : (k5 : Int) < ((bs l).size : Int) := by omega
  have gk : decide ((k : Int) < 0) = false := decide_eq_false (by omega)
  have w2 : IntKind.i64.wrap ((k : Int) + 2) = (k2 : Int) := by rw [IntKind.wrap_i64]; omega
  have w5 : IntKind.i64.wrap ((k : Int) + 5) = (k5 : Int) := by rw [IntKind.wrap_i64]; omega
  have m3 : ¬ (bs l)[k2].toNat = 58 := fun h => m2 (UInt8.toNat_inj.1 h)
  have n2 : (((bs l)[k2].toNat : Int) != 58) = true := by
    rw [bne_iff_ne]
    omega
  have zl : ((bs l).size : Int) ≤ 9223372036854775807 := by omega
  clear hsz hl hlb
  go_enter Tryz.func25, Tryz.ntmps25
  go_wp2_with fail
  go_quiet (fail)
  go_wp2_with fail
  go_ret2
  exact ⟨rfl, below_drewN (bel1 w _) _⟩
set_option maxRecDepth 100000 in
set_option maxHeartbeats 2000000 in
theorem read_m5 (hours per dg k k2 k5 : Nat) (mark : UInt8) (ds : Bool) (l : List UInt8) (hl : (l.length : Int) - 6 - (dg : Int) = (k : Int)) (hlb : l.length ≤ 9223372036854775807) (e2 : (k : Int) + 2 = (k2 : Int)) (e5 : (k : Int) + 5 = (k5 : Int)) (hdg : dg ≤ 3)
    (g2 : k2 < (bs l).size) (g5 : k5 < (bs l).size) (m2 : (bs l)[k2] = 58) (m5 : ¬ (bs l)[k5] = mark) (w : World) :
    Calls Tryz.prog 25 #[.agg #[.int .i64 hours, .int .u8 mark.toNat, .int .i64 per, .int .i64 dg, .bool ds], .string (bs l)] w fun e w' => e = .returned (.tuple #[.int .i64 0, .bool false]) ∧ Below w.heap.size w w' := by
  have hsz := bs_size l
  have z1 : ((bs l).size : Int) - 6 - (dg : Int) = (k : Int) := by omega
  have z2 : (k2 : Int) < ((bs l).size : Int) := by omega
  have z5 : (k5 : Int) < ((bs l).size : Int) := by omega
  have gk : decide ((k : Int) < 0) = false := decide_eq_false (by omega)
  have w2 : IntKind.i64.wrap ((k : Int) + 2) = (k2 : Int) := by rw [IntKind.wrap_i64]; omega
  have w5 : IntKind.i64.wrap ((k : Int) + 5) = (k5 : Int) := by rw [IntKind.wrap_i64]; omega
  have n2 : (((bs l)[k2].toNat : Int) != 58) = false := by rw [m2]; rfl
  have m6 : ¬ (bs l)[k5].toNat = mark.toNat := fun h => m5 (UInt8.toNat_inj.1 h)
  have n5 : (((bs l)[k5].toNat : Int) != (mark.toNat : Int)) = true := by
    rw [bne_iff_ne]
    omega
  have zl : ((bs l).size : Int) ≤ 9223372036854775807 := by omega
  clear hsz hl hlb
  go_enter Tryz.func25, Tryz.ntmps25
  go_wp2_with fail
  go_quiet (fail)
  go_wp2_with fail
  go_ret2
  exact ⟨rfl, below_drewN (bel1 w _) _⟩
theorem bs_cut (l : List UInt8) (a b : Nat) : (bs l).extract a b = bs ((l.drop a).take (b - a)) := by
  apply ByteArray.ext
  simp [bs]
theorem head_drop (l : List UInt8) (k : Nat) (hk : k < l.length) : (l.drop k).head? = some (l[k]'hk) := by
  rw [List.head?_drop, List.getElem?_eq_getElem hk]
theorem dig_bound (l : List UInt8) (k : Nat) (h : l.length ≤ k) (hk : k ≤ 3) : 0 ≤ (digA l).1 ∧ (digA l).1 ≤ 1000 := by
  unfold digA
  by_cases c : l.all isDig = true
  · rw [if_pos c]
    refine ⟨by simp, ?_⟩
    show ((valN l : Nat) : Int) ≤ 1000
    have hv := valN_lt l c l.length (Nat.le_refl _)
    rw [List.take_length] at hv
    have : (10 : Nat) ^ l.length ≤ 10 ^ 3 := Nat.pow_le_pow_right (by omega) (by omega)
    omega
  · rw [if_neg c]
    exact ⟨by simp, by simp⟩
theorem hours_bound (hours : Nat) (short : Bool) (l : List UInt8) : 0 ≤ (hoursA hours short l).1 ∧ (hoursA hours short l).1 ≤ 1000 := by
  unfold hoursA
  by_cases c : l = []
  · rw [if_pos c]
    exact ⟨by simp, by simp⟩
  · rw [if_neg c]
    by_cases c2 : Lib.hasSuffix l [58] = false ∨ (Lib.trimSuffix l [58]).length < hours ∨ 3 < (Lib.trimSuffix l [58]).length ∨ (hours < (Lib.trimSuffix l [58]).length ∧ (Lib.trimSuffix l [58]).head? = some 48)
    · rw [if_pos c2]
      exact ⟨by simp, by simp⟩
    · rw [if_neg c2]
      exact dig_bound _ 3 (by
        refine Nat.le_of_not_lt fun h => c2 (.inr (.inr (.inl h)))) (by omega)
theorem below_any (bd : Int) (l : List UInt8) (hl : l.length ≤ 18) (w : World) :
    Calls Tryz.prog 61 #[.int .i64 bd, .string (bs l)] w fun e w' => e = .returned (.tuple #[.int .i64 (digA l).1, .bool ((digA l).2 && decide ((digA l).1 < bd))]) ∧ w' = w :=
  below_walk bd (digA l).1 (digA l).2 l w (digits_tup l hl _ _ rfl)
theorem read_any (hours per dg : Nat) (mark : UInt8) (ds : Bool) (l : List UInt8) (hdg : dg ≤ 3) (hper : per ≤ 1000) (hlb : l.length ≤ 9223372036854775807) (w : World) :
    Calls Tryz.prog 25 #[.agg #[.int .i64 hours, .int .u8 mark.toNat, .int .i64 per, .int .i64 dg, .bool ds], .string (bs l)] w fun e w' => e = .returned (.tuple #[.int .i64 (readA hours mark per dg ds l).1, .bool (readA hours mark per dg ds l).2]) ∧ Below w.heap.size w w' := by
  unfold readA
  by_cases h : l.length < 6 + dg
  · rw [if_pos h]
    exact read_short hours per dg mark ds l h hdg w
  · rw [if_neg h]
    have hsz := bs_size l
    generalize hk : l.length - 6 - dg = k
    have r2 := head_drop l (k + 2) (by omega)
    have r5 := head_drop l (k + 5) (by omega)
    have q2 := bs_get l (k + 2) (by omega)
    have q5 := bs_get l (k + 5) (by omega)
    by_cases m2 : l[k + 2]'(by omega) = 58
    · by_cases m5 : l[k + 5]'(by omega) = mark
      · rw [if_neg (by rw [r2, r5, m2, m5]; simp)]
        have := read_walk hours per dg k (k + 2) (k + 3) (k + 5) (k + 6) mark ds l (l.take k) ((l.drop k).take 2) ((l.drop (k + 3)).take 2) (l.drop (k + 6)) _ _ _ _ _ _ _ _ (by omega) hlb (by omega) (by omega) (by omega) (by omega) hdg (by omega) (by omega) (by rw [q2, m2]) (by rw [q5, m5])
          (by rw [bs_cut]; simp) (by rw [bs_cut]; congr 2; omega) (by rw [bs_cut]; congr 2; omega) (by rw [bs_cut, List.take_of_length_le (by simp [hsz])]) hper (fun _ => by
            exact ⟨hours_bound hours ds _, dig_bound _ 2 (by simp; omega) (by omega), dig_bound _ 2 (by simp; omega) (by omega), dig_bound _ 3 (by simp; omega) (by omega)⟩) w
          (hours_any hours mark.toNat per dg ds (l.take k) (by simp; omega))
          (below_any 60 _ (by simp; omega)) (below_any 60 _ (by simp; omega)) (below_any per _ (by simp; omega))
        refine this.mono ?_
        rintro e w' ⟨rfl, b⟩
        refine ⟨?_, b⟩
        split <;> rename_i c <;> simp [c]
      · rw [if_pos (.inr (by rw [r5]; simpa using m5))]
        exact read_m5 hours per dg k (k + 2) (k + 5) mark ds l (by omega) hlb (by omega) (by omega) hdg (by omega) (by omega) (by rw [q2, m2]) (by rw [q5]; exact m5) w
    · rw [if_pos (.inl (by rw [r2]; simpa using m2))]
      exact read_m2 hours per dg k (k + 2) (k + 5) mark ds l (by omega) hlb (by omega) (by omega) hdg (by omega) (by omega) (by rw [q2]; exact m2) w
end Go.Proofs.YtaipdckakgohjaaGreatDoor
