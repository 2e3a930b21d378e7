/- Package ratio's Parse, where a number below 0 is read. -/
import Derived.Test.YtmofjkfghidlnaaDoorRatP2
namespace Go.Proofs.YtmofjkfghidlnaaDoor
open Go.RowKit Go.Shelf
attribute [local go_sem] Oper.semAt_some bs_toList

set_option maxRecDepth 100000 in
set_option maxHeartbeats 1000000 in
theorem parse_neg (l wh un be : List UInt8) (tp bt : Int) (r : Rt × Int) (lw : wh.length ≤ 19) (lu : un.length ≤ 19) (hu : ¬ un = [48])
    (HR : ∀ w, Calls Tryd.prog 79 #[.string (bs l)] w fun e w' => e = .returned (.tuple #[.agg #[.bool true, .string (bs wh), .string (bs un), .string (bs be)], .bool true]) ∧ Below w.heap.size w w')
    (HT : ∀ (b : Nat) (w : World), b < w.heap.size → w.cell? ⟨b, 0, none⟩ = some (.bool true) → w.cell? ⟨b, 1, none⟩ = some (.string (bs wh)) → w.cell? ⟨b, 3, none⟩ = some (.string (bs be)) →
      Calls Tryd.prog 81 #[.pointer (some ⟨b, 0, none⟩)] w fun e w' => e = .returned (wv tp) ∧ Below w.heap.size w w')
    (HB : ∀ (b : Nat) (w : World), w.cell? ⟨b, 2, none⟩ = some (.string (bs un)) → w.cell? ⟨b, 3, none⟩ = some (.string (bs be)) →
      Calls Tryd.prog 82 #[.pointer (some ⟨b, 0, none⟩)] w fun e w' => e = .returned (.int .u64 bt) ∧ w' = w)
    (HN : ∀ (b : Nat) (w : World), w.cell? ⟨b, 1, none⟩ = some (.string (bs wh)) → w.cell? ⟨b, 3, none⟩ = some (.string (bs be)) → Calls Tryd.prog 80 #[.pointer (some ⟨b, 0, none⟩)] w fun e w' => e = .returned (.bool false) ∧ Below w.heap.size w w')
    (HL : ∀ w, Calls Tryd.prog 59 #[wv tp, .int .u64 bt] w fun e w' => e = .returned (.tuple #[rtv r.1, .int .i64 r.2]) ∧ Below w.heap.size w w') (w : World) :
    Calls Tryd.prog 47 #[.string (bs l)] w fun e w' => e = .returned (.tuple #[rtv r.1, .int .i64 r.2]) ∧ Below w.heap.size w w' := by
  have HR := hideR HR
  have HT := hideR HT
  have HB := hideR HB
  have HL := hideR HL
  have HN := hideR HN
  have hwl := bs_size wh
  have hul := bs_size un
  have q1 : ¬ (19 : Int) < (wh.length : Int) := by omega
  have q2 : ¬ (19 : Int) < (un.length : Int) := by omega
  simp only [rtv] at *
  go_enter Tryd.func47, Tryd.ntmps47
  go_wp2_with fail
  go_at_call 79
  refine (HR.out _).mono ?_
  rintro e w1 ⟨rfl, b1⟩
  have z1 : w.heap.size < w1.heap.size := by have := b1.size; simp at this; omega
  have hu2 : (un == [48]) = false := by simpa using hu
  go_wp2_with fail
  have SV : (w1.alloc (.cells #[.bool true, .string (bs wh), .string (bs un), .string (bs be)] 93)).cell? ⟨w1.heap.size, 0, none⟩ = some (.bool true) ∧ (w1.alloc (.cells #[.bool true, .string (bs wh), .string (bs un), .string (bs be)] 93)).cell? ⟨w1.heap.size, 1, none⟩ = some (.string (bs wh)) ∧ (w1.alloc (.cells #[.bool true, .string (bs wh), .string (bs un), .string (bs be)] 93)).cell? ⟨w1.heap.size, 2, none⟩ = some (.string (bs un)) ∧ (w1.alloc (.cells #[.bool true, .string (bs wh), .string (bs un), .string (bs be)] 93)).cell? ⟨w1.heap.size, 3, none⟩ = some (.string (bs be)) := ⟨by go_simp, by go_simp, by go_simp, by go_simp⟩
  have zV : w1.heap.size < (w1.alloc (.cells #[.bool true, .string (bs wh), .string (bs un), .string (bs be)] 93)).heap.size := by simp
  have BV : Below w.heap.size w (w1.alloc (.cells #[.bool true, .string (bs wh), .string (bs un), .string (bs be)] 93)) := bup (bup (bel1 _ _) b1) (bel1 _ _)
  obtain ⟨hc1, hf1⟩ := bcell b1
  have R0 : w1.cell? ⟨w.heap.size, 0, none⟩ = some (.int .i64 0) := (hc1 _ _ (by simp)).trans (by go_simp)
  have R1 : w1.cell? ⟨w.heap.size, 1, none⟩ = some (.int .i64 0) := (hc1 _ _ (by simp)).trans (by go_simp)
  have F0 : w1.frozen? ⟨w.heap.size, 0, none⟩ = false := (hf1 _ _ (by simp)).trans (by go_simp)
  have F1 : w1.frozen? ⟨w.heap.size, 1, none⟩ = false := (hf1 _ _ (by simp)).trans (by go_simp)
  clear hc1 hf1
  have RV := two_keep (bel1 w1 (.cells #[.bool true, .string (bs wh), .string (bs un), .string (bs be)] 93)) z1 R0 R1 F0 F1
  clear R0 R1 F0 F1
  have zW : w.heap.size < (w1.alloc (.cells #[.bool true, .string (bs wh), .string (bs un), .string (bs be)] 93)).heap.size := by simp; omega
  generalize (w1.alloc (.cells #[.bool true, .string (bs wh), .string (bs un), .string (bs be)] 93)) = V at *
  obtain ⟨v0, v1, v2, v3⟩ := id SV
  go_at_call 80
  refine Calls.mono (HN.out _ _ v1 v3) ?_
  rintro e U ⟨rfl, bU⟩
  have SU := keepC bU zV SV
  have RU := two_keep bU zW RV.1 RV.2.1 RV.2.2.1 RV.2.2.2
  have zVU := Nat.lt_of_lt_of_le zV bU.size
  have zWU := Nat.lt_of_lt_of_le zW bU.size
  have BU := bup BV bU
  clear bU SV RV zV zW BV v0 v1 v2 v3
  obtain ⟨v0, v1, v2, v3⟩ := id SU
  go_wp2_with fail
  go_at_call 81
  refine Calls.mono (HT.out _ _ zVU v0 v1 v3) ?_
  rintro e w2 ⟨rfl, b2⟩
  obtain ⟨x0, x1, x2, x3⟩ := keepC b2 zVU SU
  go_wp2_with fail
  go_at_call 82
  refine Calls.mono (HB.out _ _ x2 x3) ?_
  rintro e w3 ⟨rfl, hw⟩
  obtain rfl := hw.symm
  go_wp2_with fail
  go_at_call 59
  refine Calls.mono (HL.out _) ?_
  rintro e w4 ⟨rfl, b4⟩
  have B4 := bup b2 b4
  obtain ⟨k0, k1, k2, k3⟩ := two_keep B4 zWU RU.1 RU.2.1 RU.2.2.1 RU.2.2.2
  go_wp2_with fail
  exact bodyPost_ret (v := .tuple #[.agg #[.int .i64 r.1.N, .int .i64 r.1.D], .int .i64 r.2]) (by simp [results, Tryd.results47, go_sem, k0, k1]) rfl ⟨rfl, ((bup BU B4).setCell (Nat.le_refl _) _).setCell (Nat.le_refl _) _⟩
end Go.Proofs.YtmofjkfghidlnaaDoor
