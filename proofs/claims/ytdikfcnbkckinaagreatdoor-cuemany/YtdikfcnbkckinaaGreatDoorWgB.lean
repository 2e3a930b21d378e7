/- The texts of errors of package cue at the first cue. -/
import Derived.Test.YtdikfcnbkckinaaGreatDoorWgA
import Derived.Laws.BytesString
namespace Go.Proofs.YtdikfcnbkckinaaGreatDoor
open Go.RowKit Go.Shelf

set_option maxRecDepth 100000 in
theorem word2 (w : World) : Calls Tryz.prog 45 #[.int .i64 2] w fun e w' => e = .returned (.string ⟨#[109, 97, 110, 121]⟩) ∧ w' = w := by
  go_enter Tryz.func45, Tryz.ntmps45
  go_wp2
  go_ret
  exact ⟨rfl, rfl⟩
set_option maxRecDepth 100000 in
theorem errW2 (w : World) : Calls Tryz.prog 29 #[.int .i64 2] w fun e w' => e = .returned (.string ⟨#[109, 97, 110, 121]⟩) ∧ w' = w := by
  go_enter Tryz.func29, Tryz.ntmps29
  go_wp2_with (go_at_call 45; refine (word2 _).mono ?_; rintro e w1 ⟨rfl, rfl⟩)
  go_ret
  exact ⟨rfl, rfl⟩
set_option maxRecDepth 100000 in
theorem word3 (w : World) : Calls Tryz.prog 45 #[.int .i64 3] w fun e w' => e = .returned (.string ⟨#[108, 111, 110, 103]⟩) ∧ w' = w := by
  go_enter Tryz.func45, Tryz.ntmps45
  go_wp2
  go_ret
  exact ⟨rfl, rfl⟩
set_option maxRecDepth 100000 in
theorem errW3 (w : World) : Calls Tryz.prog 29 #[.int .i64 3] w fun e w' => e = .returned (.string ⟨#[108, 111, 110, 103]⟩) ∧ w' = w := by
  go_enter Tryz.func29, Tryz.ntmps29
  go_wp2_with (go_at_call 45; refine (word3 _).mono ?_; rintro e w1 ⟨rfl, rfl⟩)
  go_ret
  exact ⟨rfl, rfl⟩
set_option maxRecDepth 100000 in
theorem word12 (w : World) : Calls Tryz.prog 46 #[.int .i64 12] w fun e w' => e = .returned (.string ⟨#[119, 105, 100, 101]⟩) ∧ w' = w := by
  go_enter Tryz.func46, Tryz.ntmps46
  go_wp2
  go_ret
  exact ⟨rfl, rfl⟩
set_option maxRecDepth 100000 in
theorem errW12 (w : World) : Calls Tryz.prog 29 #[.int .i64 12] w fun e w' => e = .returned (.string ⟨#[119, 105, 100, 101]⟩) ∧ w' = w := by
  go_enter Tryz.func29, Tryz.ntmps29
  go_wp2_with (go_at_call 46; refine (word12 _).mono ?_; rintro e w1 ⟨rfl, rfl⟩)
  go_ret
  exact ⟨rfl, rfl⟩
set_option maxRecDepth 100000 in
theorem word23 (w : World) : Calls Tryz.prog 47 #[.int .i64 23] w fun e w' => e = .returned (.string ⟨#[115, 112, 97, 110]⟩) ∧ w' = w := by
  go_enter Tryz.func47, Tryz.ntmps47
  go_wp2
  go_ret
  exact ⟨rfl, rfl⟩
set_option maxRecDepth 100000 in
theorem errW23 (w : World) : Calls Tryz.prog 29 #[.int .i64 23] w fun e w' => e = .returned (.string ⟨#[115, 112, 97, 110]⟩) ∧ w' = w := by
  go_enter Tryz.func29, Tryz.ntmps29
  go_wp2_with (go_at_call 47; refine (word23 _).mono ?_; rintro e w1 ⟨rfl, rfl⟩)
  go_ret
  exact ⟨rfl, rfl⟩
set_option maxRecDepth 100000 in
theorem word25 (w : World) : Calls Tryz.prog 47 #[.int .i64 25] w fun e w' => e = .returned (.string ⟨#[110, 97, 109, 101]⟩) ∧ w' = w := by
  go_enter Tryz.func47, Tryz.ntmps47
  go_wp2
  go_ret
  exact ⟨rfl, rfl⟩
set_option maxRecDepth 100000 in
theorem errW25 (w : World) : Calls Tryz.prog 29 #[.int .i64 25] w fun e w' => e = .returned (.string ⟨#[110, 97, 109, 101]⟩) ∧ w' = w := by
  go_enter Tryz.func29, Tryz.ntmps29
  go_wp2_with (go_at_call 47; refine (word25 _).mono ?_; rintro e w1 ⟨rfl, rfl⟩)
  go_ret
  exact ⟨rfl, rfl⟩
set_option maxRecDepth 100000 in
theorem word31 (w : World) : Calls Tryz.prog 48 #[.int .i64 31] w fun e w' => e = .returned (.string ⟨#[116, 105, 109, 101]⟩) ∧ w' = w := by
  go_enter Tryz.func48, Tryz.ntmps48
  go_wp2
  go_ret
  exact ⟨rfl, rfl⟩
set_option maxRecDepth 100000 in
theorem errW31 (w : World) : Calls Tryz.prog 29 #[.int .i64 31] w fun e w' => e = .returned (.string ⟨#[116, 105, 109, 101]⟩) ∧ w' = w := by
  go_enter Tryz.func29, Tryz.ntmps29
  go_wp2_with (go_at_call 48; refine (word31 _).mono ?_; rintro e w1 ⟨rfl, rfl⟩)
  go_ret
  exact ⟨rfl, rfl⟩
set_option maxRecDepth 100000 in
theorem word32 (w : World) : Calls Tryz.prog 48 #[.int .i64 32] w fun e w' => e = .returned (.string ⟨#[98, 97, 99, 107]⟩) ∧ w' = w := by
  go_enter Tryz.func48, Tryz.ntmps48
  go_wp2
  go_ret
  exact ⟨rfl, rfl⟩
set_option maxRecDepth 100000 in
theorem errW32 (w : World) : Calls Tryz.prog 29 #[.int .i64 32] w fun e w' => e = .returned (.string ⟨#[98, 97, 99, 107]⟩) ∧ w' = w := by
  go_enter Tryz.func29, Tryz.ntmps29
  go_wp2_with (go_at_call 48; refine (word32 _).mono ?_; rintro e w1 ⟨rfl, rfl⟩)
  go_ret
  exact ⟨rfl, rfl⟩
set_option maxRecDepth 100000 in
theorem word33 (w : World) : Calls Tryz.prog 48 #[.int .i64 33] w fun e w' => e = .returned (.string ⟨#[111, 114, 100, 101, 114]⟩) ∧ w' = w := by
  go_enter Tryz.func48, Tryz.ntmps48
  go_wp2
  go_ret
  exact ⟨rfl, rfl⟩
set_option maxRecDepth 100000 in
theorem errW33 (w : World) : Calls Tryz.prog 29 #[.int .i64 33] w fun e w' => e = .returned (.string ⟨#[111, 114, 100, 101, 114]⟩) ∧ w' = w := by
  go_enter Tryz.func29, Tryz.ntmps29
  go_wp2_with (go_at_call 48; refine (word33 _).mono ?_; rintro e w1 ⟨rfl, rfl⟩)
  go_ret
  exact ⟨rfl, rfl⟩
set_option maxRecDepth 100000 in
theorem word34 (w : World) : Calls Tryz.prog 48 #[.int .i64 34] w fun e w' => e = .returned (.string ⟨#[108, 97, 110, 101]⟩) ∧ w' = w := by
  go_enter Tryz.func48, Tryz.ntmps48
  go_wp2
  go_ret
  exact ⟨rfl, rfl⟩
set_option maxRecDepth 100000 in
theorem errW34 (w : World) : Calls Tryz.prog 29 #[.int .i64 34] w fun e w' => e = .returned (.string ⟨#[108, 97, 110, 101]⟩) ∧ w' = w := by
  go_enter Tryz.func29, Tryz.ntmps29
  go_wp2_with (go_at_call 48; refine (word34 _).mono ?_; rintro e w1 ⟨rfl, rfl⟩)
  go_ret
  exact ⟨rfl, rfl⟩
set_option maxRecDepth 100000 in
theorem small_0 (w : World) : Calls Tryz.prog 125 #[.int .i64 0] w fun e w' => e = .returned (.string ⟨#[48]⟩) ∧ w' = w := by
  go_enter Tryz.func125, Tryz.ntmps125
  go_wp2
  go_ret
  exact ⟨rfl, rfl⟩
set_option maxRecDepth 100000 in
theorem format_0 (w : World) : Calls Tryz.prog 124 #[.int .i64 0, .int .i64 10] w fun e w' => e = .returned (.string ⟨#[48]⟩) ∧ w' = w := by
  go_enter Tryz.func124, Tryz.ntmps124
  go_wp2_with (go_at_call 125; refine (small_0 _).mono ?_; rintro e w1 ⟨rfl, rfl⟩)
  go_ret
  exact ⟨rfl, rfl⟩
set_option maxRecDepth 100000 in
theorem itoaI_0 (w : World) : Calls Tryz.prog 123 #[.int .i64 0] w fun e w' => e = .returned (.string ⟨#[48]⟩) ∧ w' = w := by
  go_enter Tryz.func123, Tryz.ntmps123
  go_wp2_with (go_at_call 124; refine (format_0 _).mono ?_; rintro e w1 ⟨rfl, rfl⟩)
  go_ret
  exact ⟨rfl, rfl⟩
set_option maxRecDepth 100000 in
theorem itoa_0 (w : World) : Calls Tryz.prog 122 #[.int .i64 0] w fun e w' => e = .returned (.string ⟨#[48]⟩) ∧ w' = w := by
  go_enter Tryz.func122, Tryz.ntmps122
  go_wp2_with (go_at_call 123; refine (itoaI_0 _).mono ?_; rintro e w1 ⟨rfl, rfl⟩)
  go_ret
  exact ⟨rfl, rfl⟩
set_option maxRecDepth 100000 in
theorem conv48 (V : World) (b : Nat) (hc : V.cell? ⟨b, 0, none⟩ = some (.int .u8 48)) : (convert 127 9 (.slice (some ⟨b, 0, none⟩) 1 1)).run Tryz.prog V = .ok (.string ⟨#[48]⟩) V := by
  rw [run_convert_bytes_string V _ _ 5 _ _ _ (by kernel_rfl) (by kernel_rfl) (by kernel_rfl), run_bytesToString V ⟨b, 0, none⟩ 1 1 [48] (by go_simp)]
  rfl
set_option maxRecDepth 100000 in
theorem rdigits_0 (w : World) : Calls Tryz.prog 43 #[.int .u64 0] w fun e w' => e = .returned (.string ⟨#[48]⟩) ∧ Below w.heap.size w w' := by
  have kc := conv48 (w.alloc (.cells #[.int .u8 48] 5)) w.heap.size (by go_simp)
  go_enter Tryz.func43, Tryz.ntmps43
  go_wp2_with fail
  go_ret
  exact ⟨rfl, bel1 _ _⟩
set_option maxRecDepth 100000 in
theorem rdecimal_0 (w : World) : Calls Tryz.prog 28 #[.int .i64 0] w fun e w' => e = .returned (.string ⟨#[48]⟩) ∧ Below w.heap.size w w' := by
  go_enter Tryz.func28, Tryz.ntmps28
  go_wp2_with (go_at_call 43; refine (rdigits_0 _).mono ?_; rintro e w1 ⟨rfl, b1⟩)
  go_ret
  exact ⟨rfl, b1⟩
set_option maxRecDepth 100000 in
set_option maxHeartbeats 400000 in
theorem werr0_2 (g : Nat) (w : World) (h : w.heap[g]? = some (.cells #[.int .i64 0, .int .i64 2] 51)) :
    Calls Tryz.prog 120 #[.pointer (some ⟨g, 0, none⟩)] w fun e w' => e = .returned (.string ⟨#[99, 117, 101, 32, 48, 58, 32, 109, 97, 110, 121]⟩) ∧ Below w.heap.size w w' := by
  have c0 : w.cell? ⟨g, 0, none⟩ = some (.int .i64 0) := by simp [World.cell?, h]
  have c1 : w.cell? ⟨g, 1, none⟩ = some (.int .i64 2) := by simp [World.cell?, h]
  clear h
  have HI := hideC itoa_0
  have HE := hideC errW2
  go_enter Tryz.func120, Tryz.ntmps120
  go_wp2_with fail
  go_region_held3 (fun w' => w'.cell? ⟨g, 0, none⟩ = some (.int .i64 0) ∧ w'.cell? ⟨g, 1, none⟩ = some (.int .i64 2)) (first | go_keep | assumption) (first
    | (go_at_call 122; (with_reducible refine (HI.out _).mono ?_); rintro e w1 ⟨rfl, rfl⟩)
    | (go_at_call 29; (with_reducible refine (HE.out _).mono ?_); rintro e w2 ⟨rfl, rfl⟩))
  go_wp2_with fail
  go_ret
  exact ⟨by kernel_rfl, ((Below.refl _ w).drew)⟩
set_option maxRecDepth 100000 in
set_option maxHeartbeats 400000 in
theorem rtext0_2 (w : World) :
    Calls Tryz.prog 13 #[.agg #[.int .i64 0, .int .i64 2]] w fun e w' => e = .returned (.string ⟨#[99, 117, 101, 32, 48, 58, 32, 109, 97, 110, 121]⟩) ∧ Below w.heap.size w w' := by
  have HI := hideC rdecimal_0
  have HE := hideC errW2
  go_enter Tryz.func13, Tryz.ntmps13
  go_wp2_with fail
  have c0 : (w.alloc (.cells #[.int .i64 0, .int .i64 2] 38)).cell? ⟨w.heap.size, 0, none⟩ = some (.int .i64 0) := cell_two_newA _ _ _ _
  have c1 : (w.alloc (.cells #[.int .i64 0, .int .i64 2] 38)).cell? ⟨w.heap.size, 1, none⟩ = some (.int .i64 2) := cell_two_newB _ _ _ _
  have b0 := bel1 w (.cells #[.int .i64 0, .int .i64 2] 38)
  have hz : w.heap.size < (w.alloc (.cells #[.int .i64 0, .int .i64 2] 38)).heap.size := by simp
  generalize w.alloc (.cells #[.int .i64 0, .int .i64 2] 38) = V at *
  have B0 := hideC b0
  clear b0
  go_region_held3 (fun w' => w'.cell? ⟨w.heap.size, 0, none⟩ = some (.int .i64 0) ∧ w'.cell? ⟨w.heap.size, 1, none⟩ = some (.int .i64 2)) (first | go_keep | assumption | exact k9) (first
    | (go_at_call 28; (with_reducible refine (HI.out _).mono ?_); rintro e w1 ⟨rfl, b1⟩; have b1 : Below V.heap.size V w1 := (by first | exact ⟨b1.os, b1.tape, b1.output, b1.size, b1.block⟩ | exact b1); have k9 : w1.cell? ⟨w.heap.size, 0, none⟩ = some (.int .i64 0) ∧ w1.cell? ⟨w.heap.size, 1, none⟩ = some (.int .i64 2) := ⟨(b1.cell (p := ⟨w.heap.size, 0, none⟩) hz).trans c0, (b1.cell (p := ⟨w.heap.size, 1, none⟩) hz).trans c1⟩)
    | (go_at_call 29; (with_reducible refine (HE.out _).mono ?_); rintro e w2 ⟨rfl, hw2⟩; obtain rfl := hw2.symm))
  go_wp2_with fail
  go_ret
  exact ⟨by kernel_rfl, bup B0.out b1⟩
set_option maxRecDepth 100000 in
set_option maxHeartbeats 400000 in
theorem werr0_3 (g : Nat) (w : World) (h : w.heap[g]? = some (.cells #[.int .i64 0, .int .i64 3] 51)) :
    Calls Tryz.prog 120 #[.pointer (some ⟨g, 0, none⟩)] w fun e w' => e = .returned (.string ⟨#[99, 117, 101, 32, 48, 58, 32, 108, 111, 110, 103]⟩) ∧ Below w.heap.size w w' := by
  have c0 : w.cell? ⟨g, 0, none⟩ = some (.int .i64 0) := by simp [World.cell?, h]
  have c1 : w.cell? ⟨g, 1, none⟩ = some (.int .i64 3) := by simp [World.cell?, h]
  clear h
  have HI := hideC itoa_0
  have HE := hideC errW3
  go_enter Tryz.func120, Tryz.ntmps120
  go_wp2_with fail
  go_region_held3 (fun w' => w'.cell? ⟨g, 0, none⟩ = some (.int .i64 0) ∧ w'.cell? ⟨g, 1, none⟩ = some (.int .i64 3)) (first | go_keep | assumption) (first
    | (go_at_call 122; (with_reducible refine (HI.out _).mono ?_); rintro e w1 ⟨rfl, rfl⟩)
    | (go_at_call 29; (with_reducible refine (HE.out _).mono ?_); rintro e w2 ⟨rfl, rfl⟩))
  go_wp2_with fail
  go_ret
  exact ⟨by kernel_rfl, ((Below.refl _ w).drew)⟩
set_option maxRecDepth 100000 in
set_option maxHeartbeats 400000 in
theorem rtext0_3 (w : World) :
    Calls Tryz.prog 13 #[.agg #[.int .i64 0, .int .i64 3]] w fun e w' => e = .returned (.string ⟨#[99, 117, 101, 32, 48, 58, 32, 108, 111, 110, 103]⟩) ∧ Below w.heap.size w w' := by
  have HI := hideC rdecimal_0
  have HE := hideC errW3
  go_enter Tryz.func13, Tryz.ntmps13
  go_wp2_with fail
  have c0 : (w.alloc (.cells #[.int .i64 0, .int .i64 3] 38)).cell? ⟨w.heap.size, 0, none⟩ = some (.int .i64 0) := cell_two_newA _ _ _ _
  have c1 : (w.alloc (.cells #[.int .i64 0, .int .i64 3] 38)).cell? ⟨w.heap.size, 1, none⟩ = some (.int .i64 3) := cell_two_newB _ _ _ _
  have b0 := bel1 w (.cells #[.int .i64 0, .int .i64 3] 38)
  have hz : w.heap.size < (w.alloc (.cells #[.int .i64 0, .int .i64 3] 38)).heap.size := by simp
  generalize w.alloc (.cells #[.int .i64 0, .int .i64 3] 38) = V at *
  have B0 := hideC b0
  clear b0
  go_region_held3 (fun w' => w'.cell? ⟨w.heap.size, 0, none⟩ = some (.int .i64 0) ∧ w'.cell? ⟨w.heap.size, 1, none⟩ = some (.int .i64 3)) (first | go_keep | assumption | exact k9) (first
    | (go_at_call 28; (with_reducible refine (HI.out _).mono ?_); rintro e w1 ⟨rfl, b1⟩; have b1 : Below V.heap.size V w1 := (by first | exact ⟨b1.os, b1.tape, b1.output, b1.size, b1.block⟩ | exact b1); have k9 : w1.cell? ⟨w.heap.size, 0, none⟩ = some (.int .i64 0) ∧ w1.cell? ⟨w.heap.size, 1, none⟩ = some (.int .i64 3) := ⟨(b1.cell (p := ⟨w.heap.size, 0, none⟩) hz).trans c0, (b1.cell (p := ⟨w.heap.size, 1, none⟩) hz).trans c1⟩)
    | (go_at_call 29; (with_reducible refine (HE.out _).mono ?_); rintro e w2 ⟨rfl, hw2⟩; obtain rfl := hw2.symm))
  go_wp2_with fail
  go_ret
  exact ⟨by kernel_rfl, bup B0.out b1⟩
set_option maxRecDepth 100000 in
set_option maxHeartbeats 400000 in
theorem werr0_12 (g : Nat) (w : World) (h : w.heap[g]? = some (.cells #[.int .i64 0, .int .i64 12] 51)) :
    Calls Tryz.prog 120 #[.pointer (some ⟨g, 0, none⟩)] w fun e w' => e = .returned (.string ⟨#[99, 117, 101, 32, 48, 58, 32, 119, 105, 100, 101]⟩) ∧ Below w.heap.size w w' := by
  have c0 : w.cell? ⟨g, 0, none⟩ = some (.int .i64 0) := by simp [World.cell?, h]
  have c1 : w.cell? ⟨g, 1, none⟩ = some (.int .i64 12) := by simp [World.cell?, h]
  clear h
  have HI := hideC itoa_0
  have HE := hideC errW12
  go_enter Tryz.func120, Tryz.ntmps120
  go_wp2_with fail
  go_region_held3 (fun w' => w'.cell? ⟨g, 0, none⟩ = some (.int .i64 0) ∧ w'.cell? ⟨g, 1, none⟩ = some (.int .i64 12)) (first | go_keep | assumption) (first
    | (go_at_call 122; (with_reducible refine (HI.out _).mono ?_); rintro e w1 ⟨rfl, rfl⟩)
    | (go_at_call 29; (with_reducible refine (HE.out _).mono ?_); rintro e w2 ⟨rfl, rfl⟩))
  go_wp2_with fail
  go_ret
  exact ⟨by kernel_rfl, ((Below.refl _ w).drew)⟩
set_option maxRecDepth 100000 in
set_option maxHeartbeats 400000 in
theorem rtext0_12 (w : World) :
    Calls Tryz.prog 13 #[.agg #[.int .i64 0, .int .i64 12]] w fun e w' => e = .returned (.string ⟨#[99, 117, 101, 32, 48, 58, 32, 119, 105, 100, 101]⟩) ∧ Below w.heap.size w w' := by
  have HI := hideC rdecimal_0
  have HE := hideC errW12
  go_enter Tryz.func13, Tryz.ntmps13
  go_wp2_with fail
  have c0 : (w.alloc (.cells #[.int .i64 0, .int .i64 12] 38)).cell? ⟨w.heap.size, 0, none⟩ = some (.int .i64 0) := cell_two_newA _ _ _ _
  have c1 : (w.alloc (.cells #[.int .i64 0, .int .i64 12] 38)).cell? ⟨w.heap.size, 1, none⟩ = some (.int .i64 12) := cell_two_newB _ _ _ _
  have b0 := bel1 w (.cells #[.int .i64 0, .int .i64 12] 38)
  have hz : w.heap.size < (w.alloc (.cells #[.int .i64 0, .int .i64 12] 38)).heap.size := by simp
  generalize w.alloc (.cells #[.int .i64 0, .int .i64 12] 38) = V at *
  have B0 := hideC b0
  clear b0
  go_region_held3 (fun w' => w'.cell? ⟨w.heap.size, 0, none⟩ = some (.int .i64 0) ∧ w'.cell? ⟨w.heap.size, 1, none⟩ = some (.int .i64 12)) (first | go_keep | assumption | exact k9) (first
    | (go_at_call 28; (with_reducible refine (HI.out _).mono ?_); rintro e w1 ⟨rfl, b1⟩; have b1 : Below V.heap.size V w1 := (by first | exact ⟨b1.os, b1.tape, b1.output, b1.size, b1.block⟩ | exact b1); have k9 : w1.cell? ⟨w.heap.size, 0, none⟩ = some (.int .i64 0) ∧ w1.cell? ⟨w.heap.size, 1, none⟩ = some (.int .i64 12) := ⟨(b1.cell (p := ⟨w.heap.size, 0, none⟩) hz).trans c0, (b1.cell (p := ⟨w.heap.size, 1, none⟩) hz).trans c1⟩)
    | (go_at_call 29; (with_reducible refine (HE.out _).mono ?_); rintro e w2 ⟨rfl, hw2⟩; obtain rfl := hw2.symm))
  go_wp2_with fail
  go_ret
  exact ⟨by kernel_rfl, bup B0.out b1⟩
set_option maxRecDepth 100000 in
set_option maxHeartbeats 400000 in
theorem werr0_23 (g : Nat) (w : World) (h : w.heap[g]? = some (.cells #[.int .i64 0, .int .i64 23] 51)) :
    Calls Tryz.prog 120 #[.pointer (some ⟨g, 0, none⟩)] w fun e w' => e = .returned (.string ⟨#[99, 117, 101, 32, 48, 58, 32, 115, 112, 97, 110]⟩) ∧ Below w.heap.size w w' := by
  have c0 : w.cell? ⟨g, 0, none⟩ = some (.int .i64 0) := by simp [World.cell?, h]
  have c1 : w.cell? ⟨g, 1, none⟩ = some (.int .i64 23) := by simp [World.cell?, h]
  clear h
  have HI := hideC itoa_0
  have HE := hideC errW23
  go_enter Tryz.func120, Tryz.ntmps120
  go_wp2_with fail
  go_region_held3 (fun w' => w'.cell? ⟨g, 0, none⟩ = some (.int .i64 0) ∧ w'.cell? ⟨g, 1, none⟩ = some (.int .i64 23)) (first | go_keep | assumption) (first
    | (go_at_call 122; (with_reducible refine (HI.out _).mono ?_); rintro e w1 ⟨rfl, rfl⟩)
    | (go_at_call 29; (with_reducible refine (HE.out _).mono ?_); rintro e w2 ⟨rfl, rfl⟩))
  go_wp2_with fail
  go_ret
  exact ⟨by kernel_rfl, ((Below.refl _ w).drew)⟩
set_option maxRecDepth 100000 in
set_option maxHeartbeats 400000 in
theorem rtext0_23 (w : World) :
    Calls Tryz.prog 13 #[.agg #[.int .i64 0, .int .i64 23]] w fun e w' => e = .returned (.string ⟨#[99, 117, 101, 32, 48, 58, 32, 115, 112, 97, 110]⟩) ∧ Below w.heap.size w w' := by
  have HI := hideC rdecimal_0
  have HE := hideC errW23
  go_enter Tryz.func13, Tryz.ntmps13
  go_wp2_with fail
  have c0 : (w.alloc (.cells #[.int .i64 0, .int .i64 23] 38)).cell? ⟨w.heap.size, 0, none⟩ = some (.int .i64 0) := cell_two_newA _ _ _ _
  have c1 : (w.alloc (.cells #[.int .i64 0, .int .i64 23] 38)).cell? ⟨w.heap.size, 1, none⟩ = some (.int .i64 23) := cell_two_newB _ _ _ _
  have b0 := bel1 w (.cells #[.int .i64 0, .int .i64 23] 38)
  have hz : w.heap.size < (w.alloc (.cells #[.int .i64 0, .int .i64 23] 38)).heap.size := by simp
  generalize w.alloc (.cells #[.int .i64 0, .int .i64 23] 38) = V at *
  have B0 := hideC b0
  clear b0
  go_region_held3 (fun w' => w'.cell? ⟨w.heap.size, 0, none⟩ = some (.int .i64 0) ∧ w'.cell? ⟨w.heap.size, 1, none⟩ = some (.int .i64 23)) (first | go_keep | assumption | exact k9) (first
    | (go_at_call 28; (with_reducible refine (HI.out _).mono ?_); rintro e w1 ⟨rfl, b1⟩; have b1 : Below V.heap.size V w1 := (by first | exact ⟨b1.os, b1.tape, b1.output, b1.size, b1.block⟩ | exact b1); have k9 : w1.cell? ⟨w.heap.size, 0, none⟩ = some (.int .i64 0) ∧ w1.cell? ⟨w.heap.size, 1, none⟩ = some (.int .i64 23) := ⟨(b1.cell (p := ⟨w.heap.size, 0, none⟩) hz).trans c0, (b1.cell (p := ⟨w.heap.size, 1, none⟩) hz).trans c1⟩)
    | (go_at_call 29; (with_reducible refine (HE.out _).mono ?_); rintro e w2 ⟨rfl, hw2⟩; obtain rfl := hw2.symm))
  go_wp2_with fail
  go_ret
  exact ⟨by kernel_rfl, bup B0.out b1⟩
set_option maxRecDepth 100000 in
set_option maxHeartbeats 400000 in
theorem werr0_25 (g : Nat) (w : World) (h : w.heap[g]? = some (.cells #[.int .i64 0, .int .i64 25] 51)) :
    Calls Tryz.prog 120 #[.pointer (some ⟨g, 0, none⟩)] w fun e w' => e = .returned (.string ⟨#[99, 117, 101, 32, 48, 58, 32, 110, 97, 109, 101]⟩) ∧ Below w.heap.size w w' := by
  have c0 : w.cell? ⟨g, 0, none⟩ = some (.int .i64 0) := by simp [World.cell?, h]
  have c1 : w.cell? ⟨g, 1, none⟩ = some (.int .i64 25) := by simp [World.cell?, h]
  clear h
  have HI := hideC itoa_0
  have HE := hideC errW25
  go_enter Tryz.func120, Tryz.ntmps120
  go_wp2_with fail
  go_region_held3 (fun w' => w'.cell? ⟨g, 0, none⟩ = some (.int .i64 0) ∧ w'.cell? ⟨g, 1, none⟩ = some (.int .i64 25)) (first | go_keep | assumption) (first
    | (go_at_call 122; (with_reducible refine (HI.out _).mono ?_); rintro e w1 ⟨rfl, rfl⟩)
    | (go_at_call 29; (with_reducible refine (HE.out _).mono ?_); rintro e w2 ⟨rfl, rfl⟩))
  go_wp2_with fail
  go_ret
  exact ⟨by kernel_rfl, ((Below.refl _ w).drew)⟩
set_option maxRecDepth 100000 in
set_option maxHeartbeats 400000 in
theorem rtext0_25 (w : World) :
    Calls Tryz.prog 13 #[.agg #[.int .i64 0, .int .i64 25]] w fun e w' => e = .returned (.string ⟨#[99, 117, 101, 32, 48, 58, 32, 110, 97, 109, 101]⟩) ∧ Below w.heap.size w w' := by
  have HI := hideC rdecimal_0
  have HE := hideC errW25
  go_enter Tryz.func13, Tryz.ntmps13
  go_wp2_with fail
  have c0 : (w.alloc (.cells #[.int .i64 0, .int .i64 25] 38)).cell? ⟨w.heap.size, 0, none⟩ = some (.int .i64 0) := cell_two_newA _ _ _ _
  have c1 : (w.alloc (.cells #[.int .i64 0, .int .i64 25] 38)).cell? ⟨w.heap.size, 1, none⟩ = some (.int .i64 25) := cell_two_newB _ _ _ _
  have b0 := bel1 w (.cells #[.int .i64 0, .int .i64 25] 38)
  have hz : w.heap.size < (w.alloc (.cells #[.int .i64 0, .int .i64 25] 38)).heap.size := by simp
  generalize w.alloc (.cells #[.int .i64 0, .int .i64 25] 38) = V at *
  have B0 := hideC b0
  clear b0
  go_region_held3 (fun w' => w'.cell? ⟨w.heap.size, 0, none⟩ = some (.int .i64 0) ∧ w'.cell? ⟨w.heap.size, 1, none⟩ = some (.int .i64 25)) (first | go_keep | assumption | exact k9) (first
    | (go_at_call 28; (with_reducible refine (HI.out _).mono ?_); rintro e w1 ⟨rfl, b1⟩; have b1 : Below V.heap.size V w1 := (by first | exact ⟨b1.os, b1.tape, b1.output, b1.size, b1.block⟩ | exact b1); have k9 : w1.cell? ⟨w.heap.size, 0, none⟩ = some (.int .i64 0) ∧ w1.cell? ⟨w.heap.size, 1, none⟩ = some (.int .i64 25) := ⟨(b1.cell (p := ⟨w.heap.size, 0, none⟩) hz).trans c0, (b1.cell (p := ⟨w.heap.size, 1, none⟩) hz).trans c1⟩)
    | (go_at_call 29; (with_reducible refine (HE.out _).mono ?_); rintro e w2 ⟨rfl, hw2⟩; obtain rfl := hw2.symm))
  go_wp2_with fail
  go_ret
  exact ⟨by kernel_rfl, bup B0.out b1⟩
set_option maxRecDepth 100000 in
set_option maxHeartbeats 400000 in
theorem werr0_31 (g : Nat) (w : World) (h : w.heap[g]? = some (.cells #[.int .i64 0, .int .i64 31] 51)) :
    Calls Tryz.prog 120 #[.pointer (some ⟨g, 0, none⟩)] w fun e w' => e = .returned (.string ⟨#[99, 117, 101, 32, 48, 58, 32, 116, 105, 109, 101]⟩) ∧ Below w.heap.size w w' := by
  have c0 : w.cell? ⟨g, 0, none⟩ = some (.int .i64 0) := by simp [World.cell?, h]
  have c1 : w.cell? ⟨g, 1, none⟩ = some (.int .i64 31) := by simp [World.cell?, h]
  clear h
  have HI := hideC itoa_0
  have HE := hideC errW31
  go_enter Tryz.func120, Tryz.ntmps120
  go_wp2_with fail
  go_region_held3 (fun w' => w'.cell? ⟨g, 0, none⟩ = some (.int .i64 0) ∧ w'.cell? ⟨g, 1, none⟩ = some (.int .i64 31)) (first | go_keep | assumption) (first
    | (go_at_call 122; (with_reducible refine (HI.out _).mono ?_); rintro e w1 ⟨rfl, rfl⟩)
    | (go_at_call 29; (with_reducible refine (HE.out _).mono ?_); rintro e w2 ⟨rfl, rfl⟩))
  go_wp2_with fail
  go_ret
  exact ⟨by kernel_rfl, ((Below.refl _ w).drew)⟩
set_option maxRecDepth 100000 in
set_option maxHeartbeats 400000 in
theorem rtext0_31 (w : World) :
    Calls Tryz.prog 13 #[.agg #[.int .i64 0, .int .i64 31]] w fun e w' => e = .returned (.string ⟨#[99, 117, 101, 32, 48, 58, 32, 116, 105, 109, 101]⟩) ∧ Below w.heap.size w w' := by
  have HI := hideC rdecimal_0
  have HE := hideC errW31
  go_enter Tryz.func13, Tryz.ntmps13
  go_wp2_with fail
  have c0 : (w.alloc (.cells #[.int .i64 0, .int .i64 31] 38)).cell? ⟨w.heap.size, 0, none⟩ = some (.int .i64 0) := cell_two_newA _ _ _ _
  have c1 : (w.alloc (.cells #[.int .i64 0, .int .i64 31] 38)).cell? ⟨w.heap.size, 1, none⟩ = some (.int .i64 31) := cell_two_newB _ _ _ _
  have b0 := bel1 w (.cells #[.int .i64 0, .int .i64 31] 38)
  have hz : w.heap.size < (w.alloc (.cells #[.int .i64 0, .int .i64 31] 38)).heap.size := by simp
  generalize w.alloc (.cells #[.int .i64 0, .int .i64 31] 38) = V at *
  have B0 := hideC b0
  clear b0
  go_region_held3 (fun w' => w'.cell? ⟨w.heap.size, 0, none⟩ = some (.int .i64 0) ∧ w'.cell? ⟨w.heap.size, 1, none⟩ = some (.int .i64 31)) (first | go_keep | assumption | exact k9) (first
    | (go_at_call 28; (with_reducible refine (HI.out _).mono ?_); rintro e w1 ⟨rfl, b1⟩; have b1 : Below V.heap.size V w1 := (by first | exact ⟨b1.os, b1.tape, b1.output, b1.size, b1.block⟩ | exact b1); have k9 : w1.cell? ⟨w.heap.size, 0, none⟩ = some (.int .i64 0) ∧ w1.cell? ⟨w.heap.size, 1, none⟩ = some (.int .i64 31) := ⟨(b1.cell (p := ⟨w.heap.size, 0, none⟩) hz).trans c0, (b1.cell (p := ⟨w.heap.size, 1, none⟩) hz).trans c1⟩)
    | (go_at_call 29; (with_reducible refine (HE.out _).mono ?_); rintro e w2 ⟨rfl, hw2⟩; obtain rfl := hw2.symm))
  go_wp2_with fail
  go_ret
  exact ⟨by kernel_rfl, bup B0.out b1⟩
set_option maxRecDepth 100000 in
set_option maxHeartbeats 400000 in
theorem werr0_32 (g : Nat) (w : World) (h : w.heap[g]? = some (.cells #[.int .i64 0, .int .i64 32] 51)) :
    Calls Tryz.prog 120 #[.pointer (some ⟨g, 0, none⟩)] w fun e w' => e = .returned (.string ⟨#[99, 117, 101, 32, 48, 58, 32, 98, 97, 99, 107]⟩) ∧ Below w.heap.size w w' := by
  have c0 : w.cell? ⟨g, 0, none⟩ = some (.int .i64 0) := by simp [World.cell?, h]
  have c1 : w.cell? ⟨g, 1, none⟩ = some (.int .i64 32) := by simp [World.cell?, h]
  clear h
  have HI := hideC itoa_0
  have HE := hideC errW32
  go_enter Tryz.func120, Tryz.ntmps120
  go_wp2_with fail
  go_region_held3 (fun w' => w'.cell? ⟨g, 0, none⟩ = some (.int .i64 0) ∧ w'.cell? ⟨g, 1, none⟩ = some (.int .i64 32)) (first | go_keep | assumption) (first
    | (go_at_call 122; (with_reducible refine (HI.out _).mono ?_); rintro e w1 ⟨rfl, rfl⟩)
    | (go_at_call 29; (with_reducible refine (HE.out _).mono ?_); rintro e w2 ⟨rfl, rfl⟩))
  go_wp2_with fail
  go_ret
  exact ⟨by kernel_rfl, ((Below.refl _ w).drew)⟩
set_option maxRecDepth 100000 in
set_option maxHeartbeats 400000 in
theorem rtext0_32 (w : World) :
    Calls Tryz.prog 13 #[.agg #[.int .i64 0, .int .i64 32]] w fun e w' => e = .returned (.string ⟨#[99, 117, 101, 32, 48, 58, 32, 98, 97, 99, 107]⟩) ∧ Below w.heap.size w w' := by
  have HI := hideC rdecimal_0
  have HE := hideC errW32
  go_enter Tryz.func13, Tryz.ntmps13
  go_wp2_with fail
  have c0 : (w.alloc (.cells #[.int .i64 0, .int .i64 32] 38)).cell? ⟨w.heap.size, 0, none⟩ = some (.int .i64 0) := cell_two_newA _ _ _ _
  have c1 : (w.alloc (.cells #[.int .i64 0, .int .i64 32] 38)).cell? ⟨w.heap.size, 1, none⟩ = some (.int .i64 32) := cell_two_newB _ _ _ _
  have b0 := bel1 w (.cells #[.int .i64 0, .int .i64 32] 38)
  have hz : w.heap.size < (w.alloc (.cells #[.int .i64 0, .int .i64 32] 38)).heap.size := by simp
  generalize w.alloc (.cells #[.int .i64 0, .int .i64 32] 38) = V at *
  have B0 := hideC b0
  clear b0
  go_region_held3 (fun w' => w'.cell? ⟨w.heap.size, 0, none⟩ = some (.int .i64 0) ∧ w'.cell? ⟨w.heap.size, 1, none⟩ = some (.int .i64 32)) (first | go_keep | assumption | exact k9) (first
    | (go_at_call 28; (with_reducible refine (HI.out _).mono ?_); rintro e w1 ⟨rfl, b1⟩; have b1 : Below V.heap.size V w1 := (by first | exact ⟨b1.os, b1.tape, b1.output, b1.size, b1.block⟩ | exact b1); have k9 : w1.cell? ⟨w.heap.size, 0, none⟩ = some (.int .i64 0) ∧ w1.cell? ⟨w.heap.size, 1, none⟩ = some (.int .i64 32) := ⟨(b1.cell (p := ⟨w.heap.size, 0, none⟩) hz).trans c0, (b1.cell (p := ⟨w.heap.size, 1, none⟩) hz).trans c1⟩)
    | (go_at_call 29; (with_reducible refine (HE.out _).mono ?_); rintro e w2 ⟨rfl, hw2⟩; obtain rfl := hw2.symm))
  go_wp2_with fail
  go_ret
  exact ⟨by kernel_rfl, bup B0.out b1⟩
set_option maxRecDepth 100000 in
set_option maxHeartbeats 400000 in
theorem werr0_33 (g : Nat) (w : World) (h : w.heap[g]? = some (.cells #[.int .i64 0, .int .i64 33] 51)) :
    Calls Tryz.prog 120 #[.pointer (some ⟨g, 0, none⟩)] w fun e w' => e = .returned (.string ⟨#[99, 117, 101, 32, 48, 58, 32, 111, 114, 100, 101, 114]⟩) ∧ Below w.heap.size w w' := by
  have c0 : w.cell? ⟨g, 0, none⟩ = some (.int .i64 0) := by simp [World.cell?, h]
  have c1 : w.cell? ⟨g, 1, none⟩ = some (.int .i64 33) := by simp [World.cell?, h]
  clear h
  have HI := hideC itoa_0
  have HE := hideC errW33
  go_enter Tryz.func120, Tryz.ntmps120
  go_wp2_with fail
  go_region_held3 (fun w' => w'.cell? ⟨g, 0, none⟩ = some (.int .i64 0) ∧ w'.cell? ⟨g, 1, none⟩ = some (.int .i64 33)) (first | go_keep | assumption) (first
    | (go_at_call 122; (with_reducible refine (HI.out _).mono ?_); rintro e w1 ⟨rfl, rfl⟩)
    | (go_at_call 29; (with_reducible refine (HE.out _).mono ?_); rintro e w2 ⟨rfl, rfl⟩))
  go_wp2_with fail
  go_ret
  exact ⟨by kernel_rfl, ((Below.refl _ w).drew)⟩
set_option maxRecDepth 100000 in
set_option maxHeartbeats 400000 in
theorem rtext0_33 (w : World) :
    Calls Tryz.prog 13 #[.agg #[.int .i64 0, .int .i64 33]] w fun e w' => e = .returned (.string ⟨#[99, 117, 101, 32, 48, 58, 32, 111, 114, 100, 101, 114]⟩) ∧ Below w.heap.size w w' := by
  have HI := hideC rdecimal_0
  have HE := hideC errW33
  go_enter Tryz.func13, Tryz.ntmps13
  go_wp2_with fail
  have c0 : (w.alloc (.cells #[.int .i64 0, .int .i64 33] 38)).cell? ⟨w.heap.size, 0, none⟩ = some (.int .i64 0) := cell_two_newA _ _ _ _
  have c1 : (w.alloc (.cells #[.int .i64 0, .int .i64 33] 38)).cell? ⟨w.heap.size, 1, none⟩ = some (.int .i64 33) := cell_two_newB _ _ _ _
  have b0 := bel1 w (.cells #[.int .i64 0, .int .i64 33] 38)
  have hz : w.heap.size < (w.alloc (.cells #[.int .i64 0, .int .i64 33] 38)).heap.size := by simp
  generalize w.alloc (.cells #[.int .i64 0, .int .i64 33] 38) = V at *
  have B0 := hideC b0
  clear b0
  go_region_held3 (fun w' => w'.cell? ⟨w.heap.size, 0, none⟩ = some (.int .i64 0) ∧ w'.cell? ⟨w.heap.size, 1, none⟩ = some (.int .i64 33)) (first | go_keep | assumption | exact k9) (first
    | (go_at_call 28; (with_reducible refine (HI.out _).mono ?_); rintro e w1 ⟨rfl, b1⟩; have b1 : Below V.heap.size V w1 := (by first | exact ⟨b1.os, b1.tape, b1.output, b1.size, b1.block⟩ | exact b1); have k9 : w1.cell? ⟨w.heap.size, 0, none⟩ = some (.int .i64 0) ∧ w1.cell? ⟨w.heap.size, 1, none⟩ = some (.int .i64 33) := ⟨(b1.cell (p := ⟨w.heap.size, 0, none⟩) hz).trans c0, (b1.cell (p := ⟨w.heap.size, 1, none⟩) hz).trans c1⟩)
    | (go_at_call 29; (with_reducible refine (HE.out _).mono ?_); rintro e w2 ⟨rfl, hw2⟩; obtain rfl := hw2.symm))
  go_wp2_with fail
  go_ret
  exact ⟨by kernel_rfl, bup B0.out b1⟩
set_option maxRecDepth 100000 in
set_option maxHeartbeats 400000 in
theorem werr0_34 (g : Nat) (w : World) (h : w.heap[g]? = some (.cells #[.int .i64 0, .int .i64 34] 51)) :
    Calls Tryz.prog 120 #[.pointer (some ⟨g, 0, none⟩)] w fun e w' => e = .returned (.string ⟨#[99, 117, 101, 32, 48, 58, 32, 108, 97, 110, 101]⟩) ∧ Below w.heap.size w w' := by
  have c0 : w.cell? ⟨g, 0, none⟩ = some (.int .i64 0) := by simp [World.cell?, h]
  have c1 : w.cell? ⟨g, 1, none⟩ = some (.int .i64 34) := by simp [World.cell?, h]
  clear h
  have HI := hideC itoa_0
  have HE := hideC errW34
  go_enter Tryz.func120, Tryz.ntmps120
  go_wp2_with fail
  go_region_held3 (fun w' => w'.cell? ⟨g, 0, none⟩ = some (.int .i64 0) ∧ w'.cell? ⟨g, 1, none⟩ = some (.int .i64 34)) (first | go_keep | assumption) (first
    | (go_at_call 122; (with_reducible refine (HI.out _).mono ?_); rintro e w1 ⟨rfl, rfl⟩)
    | (go_at_call 29; (with_reducible refine (HE.out _).mono ?_); rintro e w2 ⟨rfl, rfl⟩))
  go_wp2_with fail
  go_ret
  exact ⟨by kernel_rfl, ((Below.refl _ w).drew)⟩
set_option maxRecDepth 100000 in
set_option maxHeartbeats 400000 in
theorem rtext0_34 (w : World) :
    Calls Tryz.prog 13 #[.agg #[.int .i64 0, .int .i64 34]] w fun e w' => e = .returned (.string ⟨#[99, 117, 101, 32, 48, 58, 32, 108, 97, 110, 101]⟩) ∧ Below w.heap.size w w' := by
  have HI := hideC rdecimal_0
  have HE := hideC errW34
  go_enter Tryz.func13, Tryz.ntmps13
  go_wp2_with fail
  have c0 : (w.alloc (.cells #[.int .i64 0, .int .i64 34] 38)).cell? ⟨w.heap.size, 0, none⟩ = some (.int .i64 0) := cell_two_newA _ _ _ _
  have c1 : (w.alloc (.cells #[.int .i64 0, .int .i64 34] 38)).cell? ⟨w.heap.size, 1, none⟩ = some (.int .i64 34) := cell_two_newB _ _ _ _
  have b0 := bel1 w (.cells #[.int .i64 0, .int .i64 34] 38)
  have hz : w.heap.size < (w.alloc (.cells #[.int .i64 0, .int .i64 34] 38)).heap.size := by simp
  generalize w.alloc (.cells #[.int .i64 0, .int .i64 34] 38) = V at *
  have B0 := hideC b0
  clear b0
  go_region_held3 (fun w' => w'.cell? ⟨w.heap.size, 0, none⟩ = some (.int .i64 0) ∧ w'.cell? ⟨w.heap.size, 1, none⟩ = some (.int .i64 34)) (first | go_keep | assumption | exact k9) (first
    | (go_at_call 28; (with_reducible refine (HI.out _).mono ?_); rintro e w1 ⟨rfl, b1⟩; have b1 : Below V.heap.size V w1 := (by first | exact ⟨b1.os, b1.tape, b1.output, b1.size, b1.block⟩ | exact b1); have k9 : w1.cell? ⟨w.heap.size, 0, none⟩ = some (.int .i64 0) ∧ w1.cell? ⟨w.heap.size, 1, none⟩ = some (.int .i64 34) := ⟨(b1.cell (p := ⟨w.heap.size, 0, none⟩) hz).trans c0, (b1.cell (p := ⟨w.heap.size, 1, none⟩) hz).trans c1⟩)
    | (go_at_call 29; (with_reducible refine (HE.out _).mono ?_); rintro e w2 ⟨rfl, hw2⟩; obtain rfl := hw2.symm))
  go_wp2_with fail
  go_ret
  exact ⟨by kernel_rfl, bup B0.out b1⟩
/-- The errors that a cue, a document can have. -/
def ErrK (k : Int) : Prop := k = 2 ∨ k = 3 ∨ k = 12 ∨ k = 23 ∨ k = 25 ∨ k = 31 ∨ k = 32 ∨ k = 33 ∨ k = 34
theorem err_pair (k : Int) (h : ErrK k) : ∃ T : ByteArray, (∀ (g : Nat) (W : World), W.heap[g]? = some (.cells #[.int .i64 0, .int .i64 k] 51) → Calls Tryz.prog 120 #[.pointer (some ⟨g, 0, none⟩)] W fun e w' => e = .returned (.string T) ∧ Below W.heap.size W w') ∧
    ∀ W : World, Calls Tryz.prog 13 #[.agg #[.int .i64 0, .int .i64 k]] W fun e w' => e = .returned (.string T) ∧ Below W.heap.size W w' := by
  rcases h with rfl | rfl | rfl | rfl | rfl | rfl | rfl | rfl | rfl
  · exact ⟨_, werr0_2, rtext0_2⟩
  · exact ⟨_, werr0_3, rtext0_3⟩
  · exact ⟨_, werr0_12, rtext0_12⟩
  · exact ⟨_, werr0_23, rtext0_23⟩
  · exact ⟨_, werr0_25, rtext0_25⟩
  · exact ⟨_, werr0_31, rtext0_31⟩
  · exact ⟨_, werr0_32, rtext0_32⟩
  · exact ⟨_, werr0_33, rtext0_33⟩
  · exact ⟨_, werr0_34, rtext0_34⟩

end Go.Proofs.YtdikfcnbkckinaaGreatDoor
