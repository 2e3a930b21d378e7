/- Contracts of surtitleref3's texts: digits, Decimal, Text. -/
import Derived.Test.YtmofjkfghidlnaaDoorBackM
import Derived.Test.YtmofjkfghidlnaaDoorMgD
import Derived.Laws.BytesString
import Derived.Deep.RegionHeld3
namespace Go.Proofs.YtmofjkfghidlnaaDoor
open Go.RowKit Go.Shelf
open Go.Lib (decDigits)
attribute [local go_sem] Oper.semAt_some

set_option maxRecDepth 100000 in
theorem conv1 (V : World) (b : Nat) (z : Int) (hc : V.cell? ⟨b, 0, none⟩ = some (.int .u8 z)) :
    (convert 135 9 (.slice (some ⟨b, 0, none⟩) 1 1)).run Tryd.prog V = .ok (.string (bs [UInt8.ofNat z.toNat])) V := by
  rw [run_convert_bytes_string V _ _ 5 _ _ _ (by kernel_rfl) (by kernel_rfl) (by kernel_rfl), run_bytesToString V ⟨b, 0, none⟩ 1 1 [z] (by go_simp)]
  rfl

set_option maxRecDepth 100000 in
theorem rdig_one (u : Nat) (h : u < 10) (w : World) :
    Calls Tryd.prog 107 #[.int .u64 u] w fun e w' => e = .returned (.string (bs (decDigits u))) ∧ Below w.heap.size w w' := by
  have h1 : (u : Int) < 10 := by omega
  have kc := conv1 (w.alloc (.cells #[.int .u8 (48 + (u : Int))] 5)) w.heap.size (48 + (u : Int)) (by go_simp)
  have e : bs [UInt8.ofNat (48 + (u : Int)).toNat] = bs (decDigits u) := by
    rw [decDigits, dif_pos h, show (48 + (u : Int)).toNat = 48 + u by omega]
  rw [e] at kc
  clear e
  go_enter Tryd.func107, Tryd.ntmps107
  go_wp2_with fail
  go_ret
  exact ⟨rfl, bel1 w _⟩

set_option maxRecDepth 100000 in
set_option maxHeartbeats 1000000 in
theorem rdig_more (u q r : Nat) (h : ¬ u < 10) (hq : (u : Int).tdiv 10 = (q : Int)) (hr : (u : Int).tmod 10 = (r : Int)) (hr10 : r < 10) (hq64 : q < 18446744073709551616) (l : List UInt8) (hl : l.length ≤ 100)
    (HD : ∀ w, Calls Tryd.prog 107 #[.int .u64 q] w fun e w' => e = .returned (.string (bs l)) ∧ Below w.heap.size w w') (w : World) :
    Calls Tryd.prog 107 #[.int .u64 u] w fun e w' => e = .returned (.string (bs (l ++ [UInt8.ofNat (48 + r)]))) ∧ Below w.heap.size w w' := by
  have h1 : ¬ (u : Int) < 10 := by omega
  have hq2 : (u : Int) / 10 = (q : Int) := by rw [← hq, Int.tdiv_eq_ediv_of_nonneg (by omega)]
  have hr2 : (u : Int) % 10 = (r : Int) := by rw [← hr, Int.tmod_eq_emod_of_nonneg (by omega)]
  have hw64 : IntKind.u64.wrap (48 + (r : Int)) = 48 + (r : Int) := by rw [IntKind.wrap_u64]; omega
  have hw8 : IntKind.u8.wrap (48 + (r : Int)) = 48 + (r : Int) := by rw [IntKind.wrap_u8]; omega
  have hwq : IntKind.u64.wrap (q : Int) = (q : Int) := by rw [IntKind.wrap_u64]; omega
  have HD := hideR HD
  have et : (48 + (r : Int)).toNat = 48 + r := by omega
  have ha : ∀ w, (Op.stringOp .add (bs l) (bs [UInt8.ofNat (48 + r)])).run Tryd.prog w = .ok (.string (bs (l ++ [UInt8.ofNat (48 + r)]))) w := fun w => by
    have := run_string_add_sum (P := Tryd.prog) w (bs l) (bs [UInt8.ofNat (48 + r)]) (by rw [bs_size, bs_size]; simp; omega)
    rw [bs_append] at this
    exact this
  have kc : ∀ (V : World) (b : Nat), V.cell? ⟨b, 0, none⟩ = some (.int .u8 (48 + (r : Int))) → (convert 135 9 (.slice (some ⟨b, 0, none⟩) 1 1)).run Tryd.prog V = .ok (.string (bs [UInt8.ofNat (48 + r)])) V := fun V b h => by
    have := conv1 V b _ h
    rw [et] at this
    exact this
  generalize bs [UInt8.ofNat (48 + r)] = x at *
  generalize bs (l ++ [UInt8.ofNat (48 + r)]) = y at *
  generalize bs l = z at *
  clear et hl
  go_enter Tryd.func107, Tryd.ntmps107
  go_wp2_with fail
  go_region_with (go_at_call 107; refine (HD.out _).mono ?_; rintro e w1 ⟨rfl, b1⟩
                  first
                  | (have B1 : Below w.heap.size w w1 := bup (Below.refl _ _).drew b1)
                  | (have B1 : Below w.heap.size w w1 := bup ((Below.refl _ _).drew.alloc (Nat.le_refl _) _) b1
                     have X1 : w1.cell? ⟨w.heap.size, 0, none⟩ = some (.int .u8 (48 + (r : Int))) := (b1.cell (p := ⟨w.heap.size, 0, none⟩) (by simp)).trans (by go_simp)))
  all_goals (try go_wp2_with fail)
  all_goals go_ret
  all_goals first | exact ⟨rfl, B1⟩ | exact ⟨rfl, bup B1 (bel1 w1 _)⟩
theorem rdig_any (u : Nat) (hu : u < 18446744073709551616) (w : World) :
    Calls Tryd.prog 107 #[.int .u64 u] w fun e w' => e = .returned (.string (bs (decDigits u))) ∧ Below w.heap.size w w' := by
  induction u using Nat.strongRecOn generalizing w with
  | _ u ih =>
    by_cases h : u < 10
    · exact rdig_one u h w
    · have := rdig_more u (u / 10) (u % 10) h (by rw [Int.tdiv_eq_ediv_of_nonneg (by omega)]; omega) (by rw [Int.tmod_eq_emod_of_nonneg (by omega)]; omega) (by omega) (by omega) (decDigits (u / 10)) (by have := dd_len 19 (u / 10) (by omega); omega) (fun w => ih (u / 10) (by omega) (by omega) w) w
      rw [decDigits, dif_neg h]
      exact this

set_option maxRecDepth 100000 in
theorem rdec_any (n : Int) (hn : I64 n) (w : World) :
    Calls Tryd.prog 87 #[.int .i64 n] w fun e w' => e = .returned (.string (bs (Lib.itoa n))) ∧ Below w.heap.size w w' := by
  have hs := sz_range n hn
  obtain ⟨u, eu⟩ := Int.eq_ofNat_of_zero_le hs.1
  have HD := hideR (rdig_any u (by omega))
  have HS := rsize_any n hn
  rw [eu] at HS
  have HS := hideR HS
  have hlen := dd_len 19 u (by omega)
  have hn2 := hn
  unfold I64 at hn2
  unfold Lib.itoa
  by_cases h : n < 0
  · rw [if_pos h, show n.natAbs = u by unfold sz at eu; omega]
    have ha : ∀ w, (Op.stringOp .add ⟨#[45]⟩ (bs (decDigits u))).run Tryd.prog w = .ok (.string (bs (45 :: decDigits u))) w := fun w => by
      have := run_string_add_sum (P := Tryd.prog) w (bs [45]) (bs (decDigits u)) (by rw [bs_size, bs_size]; simp; omega)
      rw [bs_append] at this
      exact this
    generalize bs (45 :: decDigits u) = y at *
    generalize bs (decDigits u) = x at *
    clear hlen eu
    go_enter Tryd.func87, Tryd.ntmps87
    go_wp2_with fail
    go_at_call 64
    refine (HS.out _).mono ?_
    rintro e w1 ⟨rfl, hw⟩
    obtain rfl := hw.symm
    go_wp2_with fail
    go_at_call 107
    refine (HD.out _).mono ?_
    rintro e w2 ⟨rfl, b2⟩
    go_wp2_with fail
    go_ret
    exact ⟨rfl, b2⟩
  · rw [if_neg h, show n.toNat = u by unfold sz at eu; omega]
    obtain rfl : n = (u : Int) := by unfold sz at eu; omega
    have hw : IntKind.u64.wrap (u : Int) = (u : Int) := by rw [IntKind.wrap_u64]; omega
    generalize bs (decDigits u) = x at *
    clear hlen eu
    go_enter Tryd.func87, Tryd.ntmps87
    go_wp2_with fail
    go_at_call 107
    refine (HD.out _).mono ?_
    rintro e w2 ⟨rfl, b2⟩
    go_wp2_with fail
    go_ret
    exact ⟨rfl, b2⟩
end Go.Proofs.YtmofjkfghidlnaaDoor
