/- Package ratio's Parse, where it refuses. -/
import Derived.Test.YtmofjkfghidlnaaDoorRatP2
import Derived.Test.YtmofjkfghidlnaaDoorMgB
namespace Go.Proofs.YtmofjkfghidlnaaDoor
open Go.RowKit Go.Shelf
attribute [local go_sem] Oper.semAt_some bs_toList

set_option maxRecDepth 100000 in
set_option maxHeartbeats 1000000 in
theorem parse_bad (l wh un be : List UInt8) (below : Bool)
    (HR : ∀ w, Calls Tryd.prog 79 #[.string (bs l)] w fun e w' => e = .returned (.tuple #[.agg #[.bool below, .string (bs wh), .string (bs un), .string (bs be)], .bool false]) ∧ Below w.heap.size w w') (w : World) :
    Calls Tryd.prog 47 #[.string (bs l)] w fun e w' => e = .returned (.tuple #[.agg #[.int .i64 0, .int .i64 0], .int .i64 13]) ∧ Below w.heap.size w w' := by
  have HR := hideR HR
  go_enter Tryd.func47, Tryd.ntmps47
  go_wp2_with fail
  go_at_call 79
  refine (HR.out _).mono ?_
  rintro e w1 ⟨rfl, b1⟩
  have T1 := ((Two.new w (.int .i64 0) (.int .i64 0) 26).keep b1).alloc (.cells #[.bool below, .string (bs wh), .string (bs un), .string (bs be)] 93)
  have B1 := bup (bup (bel1 w _) b1) (bel1 w1 (.cells #[.bool below, .string (bs wh), .string (bs un), .string (bs be)] 93))
  clear b1
  obtain ⟨_, r0, r1, r2, r3⟩ := id T1
  go_wp2_with fail
  exact bodyPost_ret (v := .tuple #[.agg #[.int .i64 0, .int .i64 0], .int .i64 13]) (by simp [results, Tryd.results47, go_sem, r0, r1]) rfl ⟨rfl, (B1.setCell (Nat.le_refl _) _).setCell (Nat.le_refl _) _⟩

set_option maxRecDepth 100000 in
set_option maxHeartbeats 1000000 in
theorem parse_nought (l wh un be : List UInt8) 
    (HR : ∀ w, Calls Tryd.prog 79 #[.string (bs l)] w fun e w' => e = .returned (.tuple #[.agg #[.bool true, .string (bs wh), .string (bs un), .string (bs be)], .bool true]) ∧ Below w.heap.size w w')
    (HN : ∀ (b : Nat) (w : World), w.cell? ⟨b, 1, none⟩ = some (.string (bs wh)) → w.cell? ⟨b, 3, none⟩ = some (.string (bs be)) → Calls Tryd.prog 80 #[.pointer (some ⟨b, 0, none⟩)] w fun e w' => e = .returned (.bool true) ∧ Below w.heap.size w w') (w : World) :
    Calls Tryd.prog 47 #[.string (bs l)] w fun e w' => e = .returned (.tuple #[.agg #[.int .i64 0, .int .i64 0], .int .i64 13]) ∧ Below w.heap.size w w' := by
  have HR := hideR HR
  have HN := hideR HN
  go_enter Tryd.func47, Tryd.ntmps47
  go_wp2_with fail
  go_at_call 79
  refine (HR.out _).mono ?_
  rintro e w1 ⟨rfl, b1⟩
  have T1 := ((Two.new w (.int .i64 0) (.int .i64 0) 26).keep b1).alloc (.cells #[.bool true, .string (bs wh), .string (bs un), .string (bs be)] 93)
  have B1 := bup (bup (bel1 w _) b1) (bel1 w1 (.cells #[.bool true, .string (bs wh), .string (bs un), .string (bs be)] 93))
  clear b1
  obtain ⟨_, r0, r1, r2, r3⟩ := id T1
  have SV : (w1.alloc (.cells #[.bool true, .string (bs wh), .string (bs un), .string (bs be)] 93)).cell? ⟨w1.heap.size, 1, none⟩ = some (.string (bs wh)) ∧ (w1.alloc (.cells #[.bool true, .string (bs wh), .string (bs un), .string (bs be)] 93)).cell? ⟨w1.heap.size, 2, none⟩ = some (.string (bs un)) ∧ (w1.alloc (.cells #[.bool true, .string (bs wh), .string (bs un), .string (bs be)] 93)).cell? ⟨w1.heap.size, 3, none⟩ = some (.string (bs be)) := ⟨by go_simp, by go_simp, by go_simp⟩
  have zV : w1.heap.size < (w1.alloc (.cells #[.bool true, .string (bs wh), .string (bs un), .string (bs be)] 93)).heap.size := by simp
  go_wp2_with fail
  generalize (w1.alloc (.cells #[.bool true, .string (bs wh), .string (bs un), .string (bs be)] 93)) = V at *
  go_at_call 80
  refine Calls.mono (HN.out _ _ SV.1 SV.2.2) ?_
  rintro e U ⟨rfl, bU⟩
  have T2 := T1.keep bU
  have B2 := bup B1 bU
  have v1 := (bU.cell (p := ⟨w1.heap.size, 1, none⟩) zV).trans SV.1
  have v2 := (bU.cell (p := ⟨w1.heap.size, 2, none⟩) zV).trans SV.2.1
  clear r0 r1 r2 r3 T1 B1 bU SV
  obtain ⟨_, r0, r1, r2, r3⟩ := id T2
  go_wp2_with fail
  exact bodyPost_ret (v := .tuple #[.agg #[.int .i64 0, .int .i64 0], .int .i64 13]) (by simp [results, Tryd.results47, go_sem, r0, r1]) rfl ⟨rfl, (B2.setCell (Nat.le_refl _) _).setCell (Nat.le_refl _) _⟩

set_option maxRecDepth 100000 in
set_option maxHeartbeats 1000000 in
theorem parse_long1F (l wh un be : List UInt8) (hw : 19 < wh.length)
    (HR : ∀ w, Calls Tryd.prog 79 #[.string (bs l)] w fun e w' => e = .returned (.tuple #[.agg #[.bool false, .string (bs wh), .string (bs un), .string (bs be)], .bool true]) ∧ Below w.heap.size w w') (w : World) :
    Calls Tryd.prog 47 #[.string (bs l)] w fun e w' => e = .returned (.tuple #[.agg #[.int .i64 0, .int .i64 0], .int .i64 12]) ∧ Below w.heap.size w w' := by
  have HR := hideR HR
  have hwl := bs_size wh
  have q1 : (19 : Int) < (wh.length : Int) := by omega
  go_enter Tryd.func47, Tryd.ntmps47
  go_wp2_with fail
  go_at_call 79
  refine (HR.out _).mono ?_
  rintro e w1 ⟨rfl, b1⟩
  have T1 := ((Two.new w (.int .i64 0) (.int .i64 0) 26).keep b1).alloc (.cells #[.bool false, .string (bs wh), .string (bs un), .string (bs be)] 93)
  have B1 := bup (bup (bel1 w _) b1) (bel1 w1 (.cells #[.bool false, .string (bs wh), .string (bs un), .string (bs be)] 93))
  clear b1
  obtain ⟨_, r0, r1, r2, r3⟩ := id T1
  go_wp2_with fail
  exact bodyPost_ret (v := .tuple #[.agg #[.int .i64 0, .int .i64 0], .int .i64 12]) (by simp [results, Tryd.results47, go_sem, r0, r1]) rfl ⟨rfl, (B1.setCell (Nat.le_refl _) _).setCell (Nat.le_refl _) _⟩

set_option maxRecDepth 100000 in
set_option maxHeartbeats 1000000 in
theorem parse_long2F (l wh un be : List UInt8) (hw : wh.length ≤ 19) (hu : 19 < un.length)
    (HR : ∀ w, Calls Tryd.prog 79 #[.string (bs l)] w fun e w' => e = .returned (.tuple #[.agg #[.bool false, .string (bs wh), .string (bs un), .string (bs be)], .bool true]) ∧ Below w.heap.size w w') (w : World) :
    Calls Tryd.prog 47 #[.string (bs l)] w fun e w' => e = .returned (.tuple #[.agg #[.int .i64 0, .int .i64 0], .int .i64 12]) ∧ Below w.heap.size w w' := by
  have HR := hideR HR
  have hwl := bs_size wh
  have hul := bs_size un
  have q1 : ¬ (19 : Int) < (wh.length : Int) := by omega
  have q2 : (19 : Int) < (un.length : Int) := by omega
  go_enter Tryd.func47, Tryd.ntmps47
  go_wp2_with fail
  go_at_call 79
  refine (HR.out _).mono ?_
  rintro e w1 ⟨rfl, b1⟩
  have T1 := ((Two.new w (.int .i64 0) (.int .i64 0) 26).keep b1).alloc (.cells #[.bool false, .string (bs wh), .string (bs un), .string (bs be)] 93)
  have B1 := bup (bup (bel1 w _) b1) (bel1 w1 (.cells #[.bool false, .string (bs wh), .string (bs un), .string (bs be)] 93))
  clear b1
  obtain ⟨_, r0, r1, r2, r3⟩ := id T1
  go_wp2_with fail
  exact bodyPost_ret (v := .tuple #[.agg #[.int .i64 0, .int .i64 0], .int .i64 12]) (by simp [results, Tryd.results47, go_sem, r0, r1]) rfl ⟨rfl, (B1.setCell (Nat.le_refl _) _).setCell (Nat.le_refl _) _⟩

set_option maxRecDepth 100000 in
set_option maxHeartbeats 1000000 in
theorem parse_zeroF (l wh un be : List UInt8) (hw : wh.length ≤ 19) (hz : un = [48])
    (HR : ∀ w, Calls Tryd.prog 79 #[.string (bs l)] w fun e w' => e = .returned (.tuple #[.agg #[.bool false, .string (bs wh), .string (bs un), .string (bs be)], .bool true]) ∧ Below w.heap.size w w') (w : World) :
    Calls Tryd.prog 47 #[.string (bs l)] w fun e w' => e = .returned (.tuple #[.agg #[.int .i64 0, .int .i64 0], .int .i64 11]) ∧ Below w.heap.size w w' := by
  have HR := hideR HR
  have hwl := bs_size wh
  have hul := bs_size un
  have q1 : ¬ (19 : Int) < (wh.length : Int) := by omega
  have q2 : ¬ (19 : Int) < (un.length : Int) := by rw [hz]; simp
  have hu2 : (un == [48]) = true := by rw [hz]; rfl
  clear hz
  go_enter Tryd.func47, Tryd.ntmps47
  go_wp2_with fail
  go_at_call 79
  refine (HR.out _).mono ?_
  rintro e w1 ⟨rfl, b1⟩
  have T1 := ((Two.new w (.int .i64 0) (.int .i64 0) 26).keep b1).alloc (.cells #[.bool false, .string (bs wh), .string (bs un), .string (bs be)] 93)
  have B1 := bup (bup (bel1 w _) b1) (bel1 w1 (.cells #[.bool false, .string (bs wh), .string (bs un), .string (bs be)] 93))
  clear b1
  obtain ⟨_, r0, r1, r2, r3⟩ := id T1
  go_wp2_with fail
  exact bodyPost_ret (v := .tuple #[.agg #[.int .i64 0, .int .i64 0], .int .i64 11]) (by simp [results, Tryd.results47, go_sem, r0, r1]) rfl ⟨rfl, (B1.setCell (Nat.le_refl _) _).setCell (Nat.le_refl _) _⟩

set_option maxRecDepth 100000 in
set_option maxHeartbeats 1000000 in
theorem parse_long1T (l wh un be : List UInt8) (hw : 19 < wh.length)
    (HR : ∀ w, Calls Tryd.prog 79 #[.string (bs l)] w fun e w' => e = .returned (.tuple #[.agg #[.bool true, .string (bs wh), .string (bs un), .string (bs be)], .bool true]) ∧ Below w.heap.size w w')
    (HN : ∀ (b : Nat) (w : World), w.cell? ⟨b, 1, none⟩ = some (.string (bs wh)) → w.cell? ⟨b, 3, none⟩ = some (.string (bs be)) → Calls Tryd.prog 80 #[.pointer (some ⟨b, 0, none⟩)] w fun e w' => e = .returned (.bool false) ∧ Below w.heap.size w w') (w : World) :
    Calls Tryd.prog 47 #[.string (bs l)] w fun e w' => e = .returned (.tuple #[.agg #[.int .i64 0, .int .i64 0], .int .i64 12]) ∧ Below w.heap.size w w' := by
  have HR := hideR HR
  have HN := hideR HN
  have hwl := bs_size wh
  have q1 : (19 : Int) < (wh.length : Int) := by omega
  go_enter Tryd.func47, Tryd.ntmps47
  go_wp2_with fail
  go_at_call 79
  refine (HR.out _).mono ?_
  rintro e w1 ⟨rfl, b1⟩
  have T1 := ((Two.new w (.int .i64 0) (.int .i64 0) 26).keep b1).alloc (.cells #[.bool true, .string (bs wh), .string (bs un), .string (bs be)] 93)
  have B1 := bup (bup (bel1 w _) b1) (bel1 w1 (.cells #[.bool true, .string (bs wh), .string (bs un), .string (bs be)] 93))
  clear b1
  obtain ⟨_, r0, r1, r2, r3⟩ := id T1
  have SV : (w1.alloc (.cells #[.bool true, .string (bs wh), .string (bs un), .string (bs be)] 93)).cell? ⟨w1.heap.size, 1, none⟩ = some (.string (bs wh)) ∧ (w1.alloc (.cells #[.bool true, .string (bs wh), .string (bs un), .string (bs be)] 93)).cell? ⟨w1.heap.size, 2, none⟩ = some (.string (bs un)) ∧ (w1.alloc (.cells #[.bool true, .string (bs wh), .string (bs un), .string (bs be)] 93)).cell? ⟨w1.heap.size, 3, none⟩ = some (.string (bs be)) := ⟨by go_simp, by go_simp, by go_simp⟩
  have zV : w1.heap.size < (w1.alloc (.cells #[.bool true, .string (bs wh), .string (bs un), .string (bs be)] 93)).heap.size := by simp
  go_wp2_with fail
  generalize (w1.alloc (.cells #[.bool true, .string (bs wh), .string (bs un), .string (bs be)] 93)) = V at *
  go_at_call 80
  refine Calls.mono (HN.out _ _ SV.1 SV.2.2) ?_
  rintro e U ⟨rfl, bU⟩
  have T2 := T1.keep bU
  have B2 := bup B1 bU
  have v1 := (bU.cell (p := ⟨w1.heap.size, 1, none⟩) zV).trans SV.1
  have v2 := (bU.cell (p := ⟨w1.heap.size, 2, none⟩) zV).trans SV.2.1
  clear r0 r1 r2 r3 T1 B1 bU SV
  obtain ⟨_, r0, r1, r2, r3⟩ := id T2
  go_wp2_with fail
  exact bodyPost_ret (v := .tuple #[.agg #[.int .i64 0, .int .i64 0], .int .i64 12]) (by simp [results, Tryd.results47, go_sem, r0, r1]) rfl ⟨rfl, (B2.setCell (Nat.le_refl _) _).setCell (Nat.le_refl _) _⟩

set_option maxRecDepth 100000 in
set_option maxHeartbeats 1000000 in
theorem parse_long2T (l wh un be : List UInt8) (hw : wh.length ≤ 19) (hu : 19 < un.length)
    (HR : ∀ w, Calls Tryd.prog 79 #[.string (bs l)] w fun e w' => e = .returned (.tuple #[.agg #[.bool true, .string (bs wh), .string (bs un), .string (bs be)], .bool true]) ∧ Below w.heap.size w w')
    (HN : ∀ (b : Nat) (w : World), w.cell? ⟨b, 1, none⟩ = some (.string (bs wh)) → w.cell? ⟨b, 3, none⟩ = some (.string (bs be)) → Calls Tryd.prog 80 #[.pointer (some ⟨b, 0, none⟩)] w fun e w' => e = .returned (.bool false) ∧ Below w.heap.size w w') (w : World) :
    Calls Tryd.prog 47 #[.string (bs l)] w fun e w' => e = .returned (.tuple #[.agg #[.int .i64 0, .int .i64 0], .int .i64 12]) ∧ Below w.heap.size w w' := by
  have HR := hideR HR
  have HN := hideR HN
  have hwl := bs_size wh
  have hul := bs_size un
  have q1 : ¬ (19 : Int) < (wh.length : Int) := by omega
  have q2 : (19 : Int) < (un.length : Int) := by omega
  go_enter Tryd.func47, Tryd.ntmps47
  go_wp2_with fail
  go_at_call 79
  refine (HR.out _).mono ?_
  rintro e w1 ⟨rfl, b1⟩
  have T1 := ((Two.new w (.int .i64 0) (.int .i64 0) 26).keep b1).alloc (.cells #[.bool true, .string (bs wh), .string (bs un), .string (bs be)] 93)
  have B1 := bup (bup (bel1 w _) b1) (bel1 w1 (.cells #[.bool true, .string (bs wh), .string (bs un), .string (bs be)] 93))
  clear b1
  obtain ⟨_, r0, r1, r2, r3⟩ := id T1
  have SV : (w1.alloc (.cells #[.bool true, .string (bs wh), .string (bs un), .string (bs be)] 93)).cell? ⟨w1.heap.size, 1, none⟩ = some (.string (bs wh)) ∧ (w1.alloc (.cells #[.bool true, .string (bs wh), .string (bs un), .string (bs be)] 93)).cell? ⟨w1.heap.size, 2, none⟩ = some (.string (bs un)) ∧ (w1.alloc (.cells #[.bool true, .string (bs wh), .string (bs un), .string (bs be)] 93)).cell? ⟨w1.heap.size, 3, none⟩ = some (.string (bs be)) := ⟨by go_simp, by go_simp, by go_simp⟩
  have zV : w1.heap.size < (w1.alloc (.cells #[.bool true, .string (bs wh), .string (bs un), .string (bs be)] 93)).heap.size := by simp
  go_wp2_with fail
  generalize (w1.alloc (.cells #[.bool true, .string (bs wh), .string (bs un), .string (bs be)] 93)) = V at *
  go_at_call 80
  refine Calls.mono (HN.out _ _ SV.1 SV.2.2) ?_
  rintro e U ⟨rfl, bU⟩
  have T2 := T1.keep bU
  have B2 := bup B1 bU
  have v1 := (bU.cell (p := ⟨w1.heap.size, 1, none⟩) zV).trans SV.1
  have v2 := (bU.cell (p := ⟨w1.heap.size, 2, none⟩) zV).trans SV.2.1
  clear r0 r1 r2 r3 T1 B1 bU SV
  obtain ⟨_, r0, r1, r2, r3⟩ := id T2
  go_wp2_with fail
  exact bodyPost_ret (v := .tuple #[.agg #[.int .i64 0, .int .i64 0], .int .i64 12]) (by simp [results, Tryd.results47, go_sem, r0, r1]) rfl ⟨rfl, (B2.setCell (Nat.le_refl _) _).setCell (Nat.le_refl _) _⟩

set_option maxRecDepth 100000 in
set_option maxHeartbeats 1000000 in
theorem parse_zeroT (l wh un be : List UInt8) (hw : wh.length ≤ 19) (hz : un = [48])
    (HR : ∀ w, Calls Tryd.prog 79 #[.string (bs l)] w fun e w' => e = .returned (.tuple #[.agg #[.bool true, .string (bs wh), .string (bs un), .string (bs be)], .bool true]) ∧ Below w.heap.size w w')
    (HN : ∀ (b : Nat) (w : World), w.cell? ⟨b, 1, none⟩ = some (.string (bs wh)) → w.cell? ⟨b, 3, none⟩ = some (.string (bs be)) → Calls Tryd.prog 80 #[.pointer (some ⟨b, 0, none⟩)] w fun e w' => e = .returned (.bool false) ∧ Below w.heap.size w w') (w : World) :
    Calls Tryd.prog 47 #[.string (bs l)] w fun e w' => e = .returned (.tuple #[.agg #[.int .i64 0, .int .i64 0], .int .i64 11]) ∧ Below w.heap.size w w' := by
  have HR := hideR HR
  have HN := hideR HN
  have hwl := bs_size wh
  have hul := bs_size un
  have q1 : ¬ (19 : Int) < (wh.length : Int) := by omega
  have q2 : ¬ (19 : Int) < (un.length : Int) := by rw [hz]; simp
  have hu2 : (un == [48]) = true := by rw [hz]; rfl
  clear hz
  go_enter Tryd.func47, Tryd.ntmps47
  go_wp2_with fail
  go_at_call 79
  refine (HR.out _).mono ?_
  rintro e w1 ⟨rfl, b1⟩
  have T1 := ((Two.new w (.int .i64 0) (.int .i64 0) 26).keep b1).alloc (.cells #[.bool true, .string (bs wh), .string (bs un), .string (bs be)] 93)
  have B1 := bup (bup (bel1 w _) b1) (bel1 w1 (.cells #[.bool true, .string (bs wh), .string (bs un), .string (bs be)] 93))
  clear b1
  obtain ⟨_, r0, r1, r2, r3⟩ := id T1
  have SV : (w1.alloc (.cells #[.bool true, .string (bs wh), .string (bs un), .string (bs be)] 93)).cell? ⟨w1.heap.size, 1, none⟩ = some (.string (bs wh)) ∧ (w1.alloc (.cells #[.bool true, .string (bs wh), .string (bs un), .string (bs be)] 93)).cell? ⟨w1.heap.size, 2, none⟩ = some (.string (bs un)) ∧ (w1.alloc (.cells #[.bool true, .string (bs wh), .string (bs un), .string (bs be)] 93)).cell? ⟨w1.heap.size, 3, none⟩ = some (.string (bs be)) := ⟨by go_simp, by go_simp, by go_simp⟩
  have zV : w1.heap.size < (w1.alloc (.cells #[.bool true, .string (bs wh), .string (bs un), .string (bs be)] 93)).heap.size := by simp
  go_wp2_with fail
  generalize (w1.alloc (.cells #[.bool true, .string (bs wh), .string (bs un), .string (bs be)] 93)) = V at *
  go_at_call 80
  refine Calls.mono (HN.out _ _ SV.1 SV.2.2) ?_
  rintro e U ⟨rfl, bU⟩
  have T2 := T1.keep bU
  have B2 := bup B1 bU
  have v1 := (bU.cell (p := ⟨w1.heap.size, 1, none⟩) zV).trans SV.1
  have v2 := (bU.cell (p := ⟨w1.heap.size, 2, none⟩) zV).trans SV.2.1
  clear r0 r1 r2 r3 T1 B1 bU SV
  obtain ⟨_, r0, r1, r2, r3⟩ := id T2
  go_wp2_with fail
  exact bodyPost_ret (v := .tuple #[.agg #[.int .i64 0, .int .i64 0], .int .i64 11]) (by simp [results, Tryd.results47, go_sem, r0, r1]) rfl ⟨rfl, (B2.setCell (Nat.le_refl _) _).setCell (Nat.le_refl _) _⟩
end Go.Proofs.YtmofjkfghidlnaaDoor
