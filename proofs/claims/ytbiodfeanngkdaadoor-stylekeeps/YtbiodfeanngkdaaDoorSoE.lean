/- slices.rotateCmpFunc over spans. -/
import Derived.Test.YtbiodfeanngkdaaDoorSoD
namespace Go.Proofs.YtbiodfeanngkdaaDoor
open Go.RowKit Go.Shelf
attribute [local go_sem] Oper.semAt_some
variable {κ : Nat}

set_option maxRecDepth 100000 in
set_option maxHeartbeats 2000000 in
theorem rot_walk (P U V Q : List Sp) (G cap a m b ln : Nat) (f : Value) (ha : P.length = a) (hm : a + U.length = m) (hb : m + V.length = b) (hln : b + Q.length = ln) (hl : ln ≤ 5000) (hU : 0 < U.length) (hV : 0 < V.length) (w : World) (hS : SC κ w G (P ++ (U ++ (V ++ Q)))) :
    Calls Tryd.prog 63 #[.slice (some ⟨G, 0, none⟩) ln cap, .int .i64 a, .int .i64 m, .int .i64 b, f] w fun e w' => e = .returned (.tuple #[]) ∧ SC κ w' G (P ++ (V ++ (U ++ Q))) ∧ But (fun k => k = G) w w' := by
  obtain ⟨T, hT⟩ : ∃ T, P ++ (V ++ (U ++ Q)) = T := ⟨_, rfl⟩
  rw [hT]
  have HS := hideS (And.intro hS hT)
  clear hS hT
  have n1 : (m : Int) - (a : Int) = (U.length : Int) := by omega
  have n2 : IntKind.i64.wrap (U.length : Int) = (U.length : Int) := IntWalk.i64_in _ ⟨by omega, by omega⟩
  have n3 : (b : Int) - (m : Int) = (V.length : Int) := by omega
  have n4 : IntKind.i64.wrap (V.length : Int) = (V.length : Int) := IntWalk.i64_in _ ⟨by omega, by omega⟩
  go_enter Tryd.func63, Tryd.ntmps63
  go_wp2_with fail
  go_loopw [10, 11] (fun iv jv wq => ∃ (X U V Y : List Sp) (i j : Nat), iv = .int .i64 (i : Nat) ∧ jv = .int .i64 (j : Nat) ∧ U.length = i ∧ V.length = j ∧ 0 < i ∧ 0 < j ∧ X.length + i = m ∧ m + j + Y.length = ln ∧ X ++ (V ++ (U ++ Y)) = T ∧ SC κ wq G (X ++ (U ++ (V ++ Y))) ∧ But (fun k => k = G) w wq) (fun iv jv _ => (intOf iv).toNat + (intOf jv).toNat)
  case atStart => exact ⟨P, U, V, Q, _, _, rfl, rfl, rfl, rfl, hU, hV, by omega, by omega, HS.out.2, HS.out.1, But.refl _ _⟩
  case round =>
    clear HS hU hV n1 n2 n3 n4 hm hb hln ha
    obtain ⟨X, U, V, Y, i, j, rfl, rfl, hU, hV, hi, hj, hm, hy, hT, hSC, hBt⟩ := hrel
    obtain ⟨wq, rfl⟩ : ∃ wq, wq = wr := ⟨_, rfl⟩
    obtain ⟨xl, hxl⟩ : ∃ xl, X.length = xl := ⟨_, rfl⟩
    have m1 : (m : Int) - (i : Int) = (xl : Int) := by omega
    have m2 : IntKind.i64.wrap (xl : Int) = (xl : Int) := IntWalk.i64_in _ ⟨by omega, by omega⟩
    have HT := hideS hT
    clear hT
    by_cases hij : i = j
    · obtain rfl := hij
      have HSw := hideS (fun (w0 : World) (h0 : SC κ w0 G (X ++ (U ++ (V ++ Y)))) => swaps_walk X U [] V Y G cap xl m i ln f hxl hU (by omega) (by rw [List.length_nil]; omega) (by omega) hl w0 h0)
      have H0 := hideS hSC
      have HB := hideS hBt
      clear hSC hBt
      go_wp2_with (first | (go_at_call 75; (with_reducible refine (HSw.out _ H0.out).mono ?_); rintro e w5 ⟨rfl, s5, b5⟩; have H5 := hideS (And.intro s5 b5); clear s5 b5))
      exact bodyPost_end (v := .tuple #[]) (by simp [results, Tryd.f63]) rfl ⟨rfl, by rw [← HT.out]; exact H5.out.1, HB.out.trans H5.out.2⟩
    · have d1 : ¬ (i : Int) = (j : Int) := by omega
      by_cases hgt : j < i
      · have d2 : (j : Int) < (i : Int) := by omega
        have HSw := hideS (fun (w0 : World) (h0 : SC κ w0 G (X ++ (U ++ (V ++ Y)))) => swaps_walk X (U.take j) (U.drop j) V Y G cap xl m j ln f hxl (by rw [List.length_take]; omega) hV (by rw [List.length_drop]; omega) (by omega) hl w0 (by rw [← List.append_assoc (U.take j), List.take_append_drop]; exact h0))
        have H0 := hideS hSC
        have HB := hideS hBt
        clear hSC hBt
        have i1 : (i : Int) - (j : Int) = ((i - j : Nat) : Int) := by omega
        have i2 : IntKind.i64.wrap ((i - j : Nat) : Int) = ((i - j : Nat) : Int) := IntWalk.i64_in _ ⟨by omega, by omega⟩
        go_wp2_with (first | (go_at_call 75; (with_reducible refine (HSw.out _ H0.out).mono ?_); rintro e w5 ⟨rfl, s5, b5⟩; have H5 := hideS (And.intro s5 b5); clear s5 b5))
        go_roundw
        case rel => exact ⟨X ++ V, U.drop j, U.take j, Y, i - j, j, rfl, rfl, by rw [List.length_drop, hU], by rw [List.length_take]; omega, by omega, hj, by rw [List.length_append]; omega, hy, by rw [← HT.out, List.append_assoc, ← List.append_assoc (U.take j), List.take_append_drop], by rw [List.append_assoc]; exact H5.out.1, HB.out.trans H5.out.2⟩
        case measure => simp [intOf]; omega
      · have d2 : ¬ (j : Int) < (i : Int) := by omega
        have HSw := hideS (fun (w0 : World) (h0 : SC κ w0 G (X ++ (U ++ (V ++ Y)))) => swaps_walk X U (V.take (j - i)) (V.drop (j - i)) Y G cap xl (m + j - i) i ln f hxl hU (by rw [List.length_drop]; omega) (by rw [List.length_take]; omega) (by omega) hl w0 (by rw [← List.append_assoc (V.take (j - i)), List.take_append_drop]; exact h0))
        obtain ⟨B, hB⟩ : ∃ B, m + j - i = B := ⟨_, rfl⟩
        obtain ⟨C, hC⟩ : ∃ C, m + j = C := ⟨_, rfl⟩
        rw [hB] at HSw
        have H0 := hideS hSC
        have HB := hideS hBt
        clear hSC hBt
        have i1 : (j : Int) - (i : Int) = ((j - i : Nat) : Int) := by omega
        have i2 : IntKind.i64.wrap ((j - i : Nat) : Int) = ((j - i : Nat) : Int) := IntWalk.i64_in _ ⟨by omega, by omega⟩
        have i3 : (m : Int) + (j : Int) = (C : Int) := by omega
        have i4 : IntKind.i64.wrap (C : Int) = (C : Int) := IntWalk.i64_in _ ⟨by omega, by omega⟩
        have i5 : (C : Int) - (i : Int) = (B : Int) := by omega
        have i6 : IntKind.i64.wrap (B : Int) = (B : Int) := IntWalk.i64_in _ ⟨by omega, by omega⟩
        go_wp2_with (first | (go_at_call 75; (with_reducible refine (HSw.out _ H0.out).mono ?_); rintro e w5 ⟨rfl, s5, b5⟩; have H5 := hideS (And.intro s5 b5); clear s5 b5))
        go_roundw
        case rel => exact ⟨X, V.drop (j - i), V.take (j - i), U ++ Y, i, j - i, rfl, rfl, by rw [List.length_drop]; omega, by rw [List.length_take]; omega, hi, by omega, hm, by rw [List.length_append]; omega, by rw [← HT.out, ← List.append_assoc (V.take (j - i)), List.take_append_drop], H5.out.1, HB.out.trans H5.out.2⟩
        case measure => simp [intOf]; omega
end Go.Proofs.YtbiodfeanngkdaaDoor
