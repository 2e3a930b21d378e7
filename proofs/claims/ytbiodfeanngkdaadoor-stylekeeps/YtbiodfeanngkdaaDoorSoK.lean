/- slices.stableCmpFunc over spans. -/
import Derived.Test.YtbiodfeanngkdaaDoorSoJ
namespace Go.Proofs.YtbiodfeanngkdaaDoor
open Go.RowKit Go.Shelf
attribute [local go_sem] Oper.semAt_some
variable {κ : Nat}

theorem rowS7_row (X : List Sp) (a b : Nat) (hab : a ≤ b) : rowS7 X a b = X.take a ++ (isort ltS ((X.drop a).take (b - a)) ++ X.drop (a + (b - a))) := by
  unfold rowS7
  rw [List.drop_take, List.append_assoc, show a + (b - a) = b by omega]
theorem rowS7_self_len (X : List Sp) (a b : Nat) (hab : a ≤ b) (hb : b ≤ X.length) : (rowS7 X a b).length = X.length := by
  rw [rowS7_row X a b hab, List.length_append, List.length_append, isort_length, List.length_take, List.length_take, List.length_drop, List.length_drop]
  omega
set_option maxRecDepth 100000 in
set_option maxHeartbeats 4000000 in
theorem stable_walk (D : List Sp) (G cap n : Nat) (hn : D.length = n) (hl : n ≤ 5000) (w : World) (hS : SC κ w G D) :
    Calls Tryd.prog 50 #[.slice (some ⟨G, 0, none⟩) n cap, .int .i64 n, .func (.func 43) #[] #[]] w fun e w' => e = .returned (.tuple #[]) ∧ SC κ w' G (isort ltS D) ∧ But (fun k => k = G) w w' := by
  have HS := hideS hS
  clear hS
  go_enter Tryd.func50, Tryd.ntmps50
  go_wp2_with fail
  go_loopw [7, 8] (fun av bv wq => ∃ (k a : Nat) (X : List Sp), av = .int .i64 (a : Nat) ∧ bv = .int .i64 ((a + 20 : Nat) : Int) ∧ k * 20 = a ∧ a ≤ n ∧ Blk 20 D X k ∧ X.drop a = D.drop a ∧ SC κ wq G X ∧ But (fun k => k = G) w wq) (fun av _ _ => n + 1 - (intOf av).toNat)
  case atStart => exact ⟨0, 0, D, rfl, rfl, rfl, Nat.zero_le _, ⟨rfl, fun k hk => by omega⟩, rfl, HS.out, But.refl _ _⟩
  case round =>
    obtain ⟨k, a, X, rfl, rfl, hka, han, hBk, hXD, hSC, hBt⟩ := hrel
    clear HS
    obtain ⟨wq, rfl⟩ : ∃ wq, wq = wr := ⟨_, rfl⟩
    have hXl := hBk.len
    by_cases hle : a + 20 ≤ n
    · obtain ⟨b, hb⟩ : ∃ b, a + 20 = b := ⟨_, rfl⟩
      have HI := hideS (ins_walk X G cap a b (by omega) (by omega) (by omega) wq hSC)
      rw [hXl, hn] at HI
      have hst := blk_step (M := isort ltS ((X.drop a).take 20)) (c := 20) hBk hka (by omega) (by omega) (by rw [hXD])
      have er : rowS7 X a b = X.take a ++ (isort ltS ((X.drop a).take 20) ++ X.drop (a + 20)) := by rw [rowS7_row X a b (by omega), show b - a = 20 by omega]
      have HN : Hid (Blk 20 D (rowS7 X a b) (k + 1) ∧ (rowS7 X a b).drop b = D.drop b) := hideS (by
        rw [er, ← hb]
        refine ⟨hst.1, ?_⟩
        rw [hst.2, ← List.drop_drop, hXD, List.drop_drop])
      have HB := hideS hBt
      clear hst er hSC hBt hBk hXD
      rw [hb]
      have d1 : (b : Int) ≤ (n : Int) := by omega
      have w1 : IntKind.i64.wrap ((b : Int) + 20) = (b : Int) + 20 := IntWalk.i64_in _ ⟨by omega, by omega⟩
      go_wp2_with (first | (go_at_call 57; (with_reducible refine HI.out.mono ?_); rintro e w5 ⟨rfl, s5, b5⟩; have H5 := hideS (And.intro s5 b5); clear s5 b5))
      go_roundw
      case rel => exact ⟨k + 1, b, rowS7 X a b, rfl, by simp, by omega, by omega, HN.out.1, HN.out.2, H5.out.1, HB.out.trans H5.out.2⟩
      case measure => simp [intOf]; omega
    · have d1 : ¬ ((a + 20 : Nat) : Int) ≤ (n : Int) := by omega
      have HI := hideS (ins_walk X G cap a n (by omega) (by omega) (by omega) wq hSC)
      rw [hXl, hn] at HI
      have hst := blk_step (M := isort ltS ((X.drop a).take 20)) (c := n - a) hBk hka (by omega) (by omega) (by rw [hXD])
      have er : rowS7 X a n = X.take a ++ (isort ltS ((X.drop a).take 20) ++ X.drop (a + (n - a))) := by rw [rowS7_row X a n (by omega), List.take_of_length_le (by rw [List.length_drop]; omega : (X.drop a).length ≤ n - a), List.take_of_length_le (by rw [List.length_drop]; omega : (X.drop a).length ≤ 20)]
      have HN : Hid ((rowS7 X a n).length = D.length ∧ ∀ j, ((rowS7 X a n).drop (j * 20)).take 20 = isort ltS ((D.drop (j * 20)).take 20)) := hideS (by
        rw [er]
        exact ⟨hst.1.len, blk_full hst.1 (by omega)⟩)
      have HB := hideS hBt
      clear hst er hSC hBt hBk hXD
      go_wp2_with (first | (go_at_call 57; (with_reducible refine HI.out.mono ?_); rintro e w5 ⟨rfl, s5, b5⟩; have H5 := hideS (And.intro s5 b5); clear s5 b5))
      go_loopw [6] (fun Bv wz => ∃ (B : Nat) (Y : List Sp), Bv = .int .i64 (B : Nat) ∧ 20 ≤ B ∧ B ≤ 20000 ∧ Y.length = n ∧ (∀ j, (Y.drop (j * B)).take B = isort ltS ((D.drop (j * B)).take B)) ∧ SC κ wz G Y ∧ But (fun k => k = G) w wz) (fun Bv _ => n - (intOf Bv).toNat)
      case atStart => exact ⟨20, rowS7 X a n, rfl, by omega, by omega, by rw [HN.out.1, hn], HN.out.2, H5.out.1, HB.out.trans H5.out.2⟩
      case round =>
        clear HI HN HB H5
        obtain ⟨B, Y, rfl, hB20, hBm, hYl, hF, hSC, hBt⟩ := hrel
        obtain ⟨wz, rfl⟩ : ∃ wz, wz = wr := ⟨_, rfl⟩
        by_cases hBn : B < n
        · have d2 : (B : Int) < (n : Int) := by omega
          obtain ⟨C, hC⟩ : ∃ C, 2 * B = C := ⟨_, rfl⟩
          have w2 : (2 : Int) * (B : Int) = (C : Int) := by omega
          have w3 : IntKind.i64.wrap (C : Int) = (C : Int) := IntWalk.i64_in _ ⟨by omega, by omega⟩
          have w4 : (B : Int) * (2 : Int) = (C : Int) := by omega
          have HF := hideS hF
          have HW := hideS (And.intro hSC hBt)
          clear hF hSC hBt
          go_wp2_with fail
          go_loopw [7, 8] (fun av bv wx => ∃ (k a : Nat) (Z : List Sp), av = .int .i64 (a : Nat) ∧ bv = .int .i64 ((a + C : Nat) : Int) ∧ k * C = a ∧ a ≤ n ∧ Blk C D Z k ∧ Z.drop a = Y.drop a ∧ SC κ wx G Z ∧ But (fun k => k = G) w wx) (fun av _ _ => n + 1 - (intOf av).toNat)
          case atStart => exact ⟨0, 0, Y, rfl, by simp, Nat.zero_mul _, Nat.zero_le _, ⟨by rw [hYl, hn], fun k hk => by omega⟩, rfl, HW.out.1, HW.out.2⟩
          case round =>
            clear HW
            obtain ⟨k, a, Z, rfl, rfl, hka, han, hBk, hZY, hSC, hBt⟩ := hrel
            obtain ⟨wy, rfl⟩ : ∃ wy, wy = wr := ⟨_, rfl⟩
            have hZl := hBk.len
            rw [← hC] at hka hBk
            have e1 := blk_two HF.out k a hka
            have e2 := blk_srt HF.out k a hka
            have hZB : Z.drop (a + B) = Y.drop (a + B) := by rw [← List.drop_drop, hZY, List.drop_drop]
            rw [← hZY, ← hZB] at e1 e2
            obtain ⟨m, hm⟩ : ∃ m, a + B = m := ⟨_, rfl⟩
            have w5 : (a : Int) + (B : Int) = (m : Int) := by omega
            have w6 : IntKind.i64.wrap (m : Int) = (m : Int) := IntWalk.i64_in _ ⟨by omega, by omega⟩
            by_cases hle : a + C ≤ n
            · obtain ⟨b, hb⟩ : ∃ b, a + C = b := ⟨_, rfl⟩
              have HI := hideS (sym_all G cap n hl (B + B) (Z.take a) ((Z.drop a).take B) ((Z.drop (a + B)).take B) (Z.drop (a + B + B)) a m b (by rw [List.length_take]; omega) (by rw [List.length_take, List.length_drop]; omega) (by rw [List.length_take, List.length_drop]; omega) (by rw [List.length_drop]; omega) (by rw [List.length_take, List.length_drop]; omega) (by rw [List.length_take, List.length_drop]; omega) (by rw [List.length_take, List.length_take]; omega) e2.1 e2.2 wy (by rw [← cut3]; exact hSC))
              rw [e1, show a + B + B = a + 2 * B by omega] at HI
              have hst := blk_step (M := isort ltS ((D.drop a).take (2 * B))) (c := 2 * B) hBk hka (by omega) (by omega) rfl
              obtain ⟨Z2, hZ2⟩ : ∃ Z2, Z.take a ++ (isort ltS ((D.drop a).take (2 * B)) ++ Z.drop (a + 2 * B)) = Z2 := ⟨_, rfl⟩
              rw [hZ2] at HI hst
              have HN : Hid (Blk C D Z2 (k + 1) ∧ Z2.drop b = Y.drop b) := hideS (by
                rw [← hb, ← hC]
                refine ⟨hst.1, ?_⟩
                rw [hst.2, ← List.drop_drop, hZY, List.drop_drop])
              have HB := hideS hBt
              have hk1 : (k + 1) * C = b := by rw [Nat.add_mul, Nat.one_mul, ← hC, hka, hC, hb]
              clear hst hSC hBt hBk hZY e1 e2 hZ2 hZB
              rw [hb]
              have d1 : (b : Int) ≤ (n : Int) := by omega
              have w1 : IntKind.i64.wrap ((b : Int) + (C : Int)) = (b : Int) + (C : Int) := IntWalk.i64_in _ ⟨by omega, by omega⟩
              go_wp2_with (first | (go_at_call 58; (with_reducible refine HI.out.mono ?_); rintro e w7 ⟨rfl, s5, b5⟩; have H5 := hideS (And.intro s5 b5); clear s5 b5))
              go_roundw
              case rel => exact ⟨k + 1, b, Z2, rfl, by simp, hk1, by omega, HN.out.1, HN.out.2, H5.out.1, HB.out.trans H5.out.2⟩
              case measure => simp [intOf]; omega
            · have d1 : ¬ ((a + C : Nat) : Int) ≤ (n : Int) := by omega
              have hst := blk_step (M := isort ltS ((D.drop a).take (2 * B))) (c := n - a) hBk hka (by omega) (by omega) rfl
              have eZ : Z.drop (a + (n - a)) = [] := List.drop_eq_nil_of_le (by omega)
              rw [eZ, List.append_nil] at hst
              have hfu := blk_full hst.1 (by rw [Nat.add_mul, Nat.one_mul, hka]; omega)
              have hle2 := hst.1.len
              obtain ⟨Z2, hZ2⟩ : ∃ Z2, Z.take a ++ isort ltS ((D.drop a).take (2 * B)) = Z2 := ⟨_, rfl⟩
              rw [hZ2] at hfu hle2
              rw [hC] at hfu
              have HN := hideS (And.intro hle2 hfu)
              clear hfu hst hle2
              by_cases hmn : m < n
              · have d3 : (m : Int) < (n : Int) := by omega
                have HI := hideS (sym_all G cap n hl (B + B) (Z.take a) ((Z.drop a).take B) ((Z.drop (a + B)).take B) (Z.drop (a + B + B)) a m n (by rw [List.length_take]; omega) (by rw [List.length_take, List.length_drop]; omega) (by rw [List.length_take, List.length_drop]; omega) (by rw [List.length_drop]; omega) (by rw [List.length_take, List.length_drop]; omega) (by rw [List.length_take, List.length_drop]; omega) (by rw [List.length_take, List.length_take]; omega) e2.1 e2.2 wy (by rw [← cut3]; exact hSC))
                rw [e1, List.drop_eq_nil_of_le (by omega : Z.length ≤ a + B + B), List.append_nil, hZ2] at HI
                have HB := hideS hBt
                clear hSC hBt hBk hZY e1 e2 hZ2 hZB eZ
                go_wp2_with (first | (go_at_call 58; (with_reducible refine HI.out.mono ?_); rintro e w7 ⟨rfl, s5, b5⟩; have H5 := hideS (And.intro s5 b5); clear s5 b5))
                go_roundw
                case rel => exact ⟨C, Z2, rfl, by omega, by omega, by rw [HN.out.1, hn], HN.out.2, H5.out.1, HB.out.trans H5.out.2⟩
                case measure => simp [intOf]; omega
              · have d3 : ¬ (m : Int) < (n : Int) := by omega
                have eM : isort ltS ((D.drop a).take (2 * B)) = Z.drop a := by
                  rw [← e1, List.drop_eq_nil_of_le (by omega : Z.length ≤ a + B), List.take_nil, mg_nil, List.take_of_length_le (by rw [List.length_drop]; omega)]
                rw [eM, List.take_append_drop] at hZ2
                subst hZ2
                have HB := hideS (And.intro hSC hBt)
                clear hSC hBt hBk hZY e1 e2 hZB eZ eM
                go_wp2_with fail
                go_roundw
                case rel => exact ⟨C, Z, rfl, by omega, by omega, by rw [HN.out.1, hn], HN.out.2, HB.out.1, HB.out.2⟩
                case measure => simp [intOf]; omega
        · have d2 : ¬ (B : Int) < (n : Int) := by omega
          have e : Y = isort ltS D := blk_whole (B := B) (D := D) (X := Y) (k0 := 1) ⟨by rw [hYl, hn], fun k hk => hF k⟩ (by omega) (by omega)
          subst e
          have HF := hideS (And.intro hSC hBt)
          clear hF hSC hBt
          go_wp2_with fail
          exact bodyPost_end (v := .tuple #[]) (by simp [results, Tryd.f50]) rfl ⟨rfl, HF.out.1, HF.out.2⟩
end Go.Proofs.YtbiodfeanngkdaaDoor
