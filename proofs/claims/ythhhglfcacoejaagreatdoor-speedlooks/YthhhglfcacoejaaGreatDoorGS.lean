/- Several texts, one behind the other. -/
import Derived.Test.YthhhglfcacoejaaGreatDoorSoA
import Derived.Test.YthhhglfcacoejaaGreatDoorSoH
import Derived.Test.YthhhglfcacoejaaGreatDoorW1
/- slices.symMergeCmpFunc over spans, at every length. -/
namespace Go.Proofs.YthhhglfcacoejaaGreatDoor
open Go.RowKit Go.Shelf
variable {κ : Nat}

theorem sym_all (G cap ln : Nat) (hl : ln ≤ 5000) : ∀ k, SymOK κ G cap ln k
  | 0 => fun _ _ _ _ _ _ _ _ _ _ _ h1 h2 hk => by omega
  | k + 1 => fun P L R Q a m b ha hm hb hln h1 h2 hk hsl hsr w hS => by
    by_cases hL : L.length = 1
    · obtain ⟨x, rfl⟩ := List.length_eq_one_iff.1 hL
      exact sym_one P R Q x G cap a m b ln ha (by rw [← hm]; rfl) hb hln hl hsr w (by simpa [rowI] using hS)
    · by_cases hR : R.length = 1
      · obtain ⟨y, rfl⟩ := List.length_eq_one_iff.1 hR
        exact sym_last P L Q y G cap a m b ln ha hm (by rw [← hb]; rfl) hln hl (by omega) hsl w (by simpa [rowI] using hS)
      · exact sym_gen G cap ln k hl (sym_all G cap ln hl k) P L R Q a m b ha hm hb hln (by omega) (by omega) hk hsl hsr w hS

/-- X is D with every stretch of B put in order, in place. -/
structure Blk (B : Nat) (D X : List Sp) (k0 : Nat) : Prop where
  len : X.length = D.length
  done : ∀ k, k < k0 → (X.drop (k * B)).take B = isort ltS ((D.drop (k * B)).take B)
theorem blk_whole {B : Nat} {D X : List Sp} {k0 : Nat} (h : Blk B D X k0) (h0 : 0 < k0) (hB : D.length ≤ B) : X = isort ltS D := by
  have := h.done 0 h0
  rw [Nat.zero_mul, List.drop_zero, List.drop_zero, List.take_of_length_le (by rw [h.len]; exact hB), List.take_of_length_le hB] at this
  exact this
/-- What stands ahead of a is not touched where X is cut at a. -/
theorem take_same {α : Type} (X Y : List α) (a k B : Nat) (h : X.take a = Y.take a) (hk : k * B + B ≤ a) : (X.drop (k * B)).take B = (Y.drop (k * B)).take B := by
  have e : ∀ Z : List α, (Z.drop (k * B)).take B = ((Z.take a).drop (k * B)).take B := fun Z => by
    rw [List.drop_take, List.take_take, Nat.min_eq_left (by omega)]
  rw [e X, e Y, h]
/-- One stretch more is in order. -/
theorem blk_next {B : Nat} {D X Y : List Sp} {k0 a : Nat} (h : Blk B D X k0) (ha : k0 * B = a) (hY : Y.length = D.length) (ht : Y.take a = X.take a) (hn : (Y.drop a).take B = isort ltS ((D.drop a).take B)) : Blk B D Y (k0 + 1) := by
  refine ⟨hY, fun k hk => ?_⟩
  by_cases hk0 : k = k0
  · subst hk0
    rw [ha]
    exact hn
  · have hle : k * B + B ≤ a := by
      have := Nat.mul_le_mul_right B (show k + 1 ≤ k0 by omega)
      rw [Nat.add_mul, Nat.one_mul, ha] at this
      exact this
    rw [take_same Y X a k B ht hle]
    exact h.done k (by omega)
end Go.Proofs.YthhhglfcacoejaaGreatDoor

/- Stretches in order, merged two by two: the mathematics of slices.stableCmpFunc. -/
namespace Go.Proofs.YthhhglfcacoejaaGreatDoor
open Go.RowKit Go.Shelf

theorem blk_step {B : Nat} {D X M : List Sp} {k a c : Nat} (h : Blk B D X k) (ha : k * B = a) (han : a ≤ D.length) (hc : c = min B (D.length - a)) (hM : M = isort ltS ((D.drop a).take B)) :
    Blk B D (X.take a ++ (M ++ X.drop (a + c))) (k + 1) ∧ (X.take a ++ (M ++ X.drop (a + c))).drop (a + c) = X.drop (a + c) := by
  have hl := h.len
  have hMl : M.length = c := by rw [hM, isort_length, List.length_take, List.length_drop, hc]
  have hP : (X.take a).length = a := by rw [List.length_take]; omega
  have e1 : (X.take a ++ (M ++ X.drop (a + c))).drop a = M ++ X.drop (a + c) := by
    conv => lhs; rw [show a = (X.take a).length from hP.symm]
    rw [hP, List.drop_append_of_le_length (by omega), List.drop_eq_nil_of_le (by omega), List.nil_append]
  refine ⟨blk_next h ha ?_ ?_ ?_, ?_⟩
  · rw [List.length_append, List.length_append, hP, hMl, List.length_drop]; omega
  · rw [List.take_append_of_le_length (by omega), List.take_of_length_le (by omega)]
  · rw [e1, ← hM]
    by_cases hB : c = B
    · rw [List.take_append_of_le_length (by omega), List.take_of_length_le (by omega)]
    · rw [List.drop_eq_nil_of_le (by omega : X.length ≤ a + c), List.append_nil, List.take_of_length_le (by omega)]
  · rw [← List.drop_drop, e1, List.drop_append_of_le_length (by omega), List.drop_eq_nil_of_le (by omega), List.nil_append]
theorem blk_full {B : Nat} {D Y : List Sp} {k : Nat} (h : Blk B D Y k) (hk : D.length ≤ k * B) (j : Nat) : (Y.drop (j * B)).take B = isort ltS ((D.drop (j * B)).take B) := by
  by_cases hj : j < k
  · exact h.done j hj
  · have h1 := Nat.mul_le_mul_right B (show k ≤ j by omega)
    rw [List.drop_eq_nil_of_le (by rw [h.len]; omega), List.drop_eq_nil_of_le (by omega), List.take_nil]
    rfl
theorem blk_two {B : Nat} {D Y : List Sp} (F : ∀ j, (Y.drop (j * B)).take B = isort ltS ((D.drop (j * B)).take B)) (k a : Nat) (ha : k * (2 * B) = a) :
    mg ltS ((Y.drop a).take B) ((Y.drop (a + B)).take B) = isort ltS ((D.drop a).take (2 * B)) := by
  have e1 : (2 * k) * B = a := by rw [← ha, Nat.mul_comm 2 k, Nat.mul_assoc]
  have e2 : (2 * k + 1) * B = a + B := by rw [Nat.add_mul, e1, Nat.one_mul]
  have f1 := F (2 * k)
  have f2 := F (2 * k + 1)
  rw [e1] at f1
  rw [e2] at f2
  rw [f1, f2, ← isort_append swoS, Nat.two_mul, List.take_add, List.drop_drop]
theorem blk_srt {B : Nat} {D Y : List Sp} (F : ∀ j, (Y.drop (j * B)).take B = isort ltS ((D.drop (j * B)).take B)) (k a : Nat) (ha : k * (2 * B) = a) :
    Srt ltS ((Y.drop a).take B) ∧ Srt ltS ((Y.drop (a + B)).take B) := by
  have e1 : (2 * k) * B = a := by rw [← ha, Nat.mul_comm 2 k, Nat.mul_assoc]
  have e2 : (2 * k + 1) * B = a + B := by rw [Nat.add_mul, e1, Nat.one_mul]
  have f1 := F (2 * k)
  have f2 := F (2 * k + 1)
  rw [e1] at f1
  rw [e2] at f2
  exact ⟨by rw [f1]; exact isort_sorted swoS _, by rw [f2]; exact isort_sorted swoS _⟩
theorem cut3 {α : Type} (Z : List α) (a c d : Nat) : Z = Z.take a ++ ((Z.drop a).take c ++ ((Z.drop (a + c)).take d ++ Z.drop (a + c + d))) := by
  rw [← List.drop_drop (i := d), List.take_append_drop, ← List.drop_drop (i := c), List.take_append_drop, List.take_append_drop]
end Go.Proofs.YthhhglfcacoejaaGreatDoor

/- slices.stableCmpFunc over spans. -/
namespace Go.Proofs.YthhhglfcacoejaaGreatDoor
open Go.RowKit Go.Shelf
attribute [local go_sem] Oper.semAt_some
variable {κ : Nat}

theorem rowS7_row (X : List Sp) (a b : Nat) (hab : a ≤ b) : rowS7 X a b = X.take a ++ (isort ltS ((X.drop a).take (b - a)) ++ X.drop (a + (b - a))) := by
  unfold rowS7
  rw [List.drop_take, List.append_assoc, show a + (b - a) = b by omega]
theorem rowS7_self_len (X : List Sp) (a b : Nat) (hab : a ≤ b) (hb : b ≤ X.length) : (rowS7 X a b).length = X.length := by
  rw [rowS7_row X a b hab, List.length_append, List.length_append, isort_length, List.length_take, List.length_take, List.length_drop, List.length_drop]
  omega
set_option maxRecDepth 100000 in
set_option maxHeartbeats 4000000 in
theorem stable_walk (D : List Sp) (G cap n : Nat) (hn : D.length = n) (hl : n ≤ 5000) (w : World) (hS : SC κ w G D) :
    Calls Tryz.prog 136 #[.slice (some ⟨G, 0, none⟩) n cap, .int .i64 n, .func (.func 133) #[] #[]] w fun e w' => e = .returned (.tuple #[]) ∧ SC κ w' G (isort ltS D) ∧ But (fun k => k = G) w w' := by
  have HS := hideS hS
  clear hS
  go_enter Tryz.func136, Tryz.ntmps136
  go_wp2_with fail
  go_loopw [7, 8] (fun av bv wq => ∃ (k a : Nat) (X : List Sp), av = .int .i64 (a : Nat) ∧ bv = .int .i64 ((a + 20 : Nat) : Int) ∧ k * 20 = a ∧ a ≤ n ∧ Blk 20 D X k ∧ X.drop a = D.drop a ∧ SC κ wq G X ∧ But (fun k => k = G) w wq) (fun av _ _ => n + 1 - (intOf av).toNat)
  case atStart => exact ⟨0, 0, D, rfl, rfl, rfl, Nat.zero_le _, ⟨rfl, fun k hk => by omega⟩, rfl, HS.out, But.refl _ _⟩
  case round =>
    obtain ⟨k, a, X, rfl, rfl, hka, han, hBk, hXD, hSC, hBt⟩ := hrel
    clear HS
    obtain ⟨wq, rfl⟩ : ∃ wq, wq = wr := ⟨_, rfl⟩
    have hXl := hBk.len
    by_cases hle : a + 20 ≤ n
    · obtain ⟨b, hb⟩ : ∃ b, a + 20 = b := ⟨_, rfl⟩
      have HI := hideS (ins_walk X G cap a b (by omega) (by omega) (by omega) wq hSC)
      rw [hXl, hn] at HI
      have hst := blk_step (M := isort ltS ((X.drop a).take 20)) (c := 20) hBk hka (by omega) (by omega) (by rw [hXD])
      have er : rowS7 X a b = X.take a ++ (isort ltS ((X.drop a).take 20) ++ X.drop (a + 20)) := by rw [rowS7_row X a b (by omega), show b - a = 20 by omega]
      have HN : Hid (Blk 20 D (rowS7 X a b) (k + 1) ∧ (rowS7 X a b).drop b = D.drop b) := hideS (by
        rw [er, ← hb]
        refine ⟨hst.1, ?_⟩
        rw [hst.2, ← List.drop_drop, hXD, List.drop_drop])
      have HB := hideS hBt
      clear hst er hSC hBt hBk hXD
      rw [hb]
      have d1 : (b : Int) ≤ (n : Int) := by omega
      have w1 : IntKind.i64.wrap ((b : Int) + 20) = (b : Int) + 20 := IntWalk.i64_in _ ⟨by omega, by omega⟩
      go_wp2_with (first | (go_at_call 143; (with_reducible refine HI.out.mono ?_); rintro e w5 ⟨rfl, s5, b5⟩; have H5 := hideS (And.intro s5 b5); clear s5 b5))
      go_roundw
      case rel => exact ⟨k + 1, b, rowS7 X a b, rfl, by simp, by omega, by omega, HN.out.1, HN.out.2, H5.out.1, HB.out.trans H5.out.2⟩
      case measure => simp [intOf]; omega
    · have d1 : ¬ ((a + 20 : Nat) : Int) ≤ (n : Int) := by omega
      have HI := hideS (ins_walk X G cap a n (by omega) (by omega) (by omega) wq hSC)
      rw [hXl, hn] at HI
      have hst := blk_step (M := isort ltS ((X.drop a).take 20)) (c := n - a) hBk hka (by omega) (by omega) (by rw [hXD])
      have er : rowS7 X a n = X.take a ++ (isort ltS ((X.drop a).take 20) ++ X.drop (a + (n - a))) := by rw [rowS7_row X a n (by omega), List.take_of_length_le (by rw [List.length_drop]; omega : (X.drop a).length ≤ n - a), List.take_of_length_le (by rw [List.length_drop]; omega : (X.drop a).length ≤ 20)]
      have HN : Hid ((rowS7 X a n).length = D.length ∧ ∀ j, ((rowS7 X a n).drop (j * 20)).take 20 = isort ltS ((D.drop (j * 20)).take 20)) := hideS (by
        rw [er]
        exact ⟨hst.1.len, blk_full hst.1 (by omega)⟩)
      have HB := hideS hBt
      clear hst er hSC hBt hBk hXD
      go_wp2_with (first | (go_at_call 143; (with_reducible refine HI.out.mono ?_); rintro e w5 ⟨rfl, s5, b5⟩; have H5 := hideS (And.intro s5 b5); clear s5 b5))
      go_loopw [6] (fun Bv wz => ∃ (B : Nat) (Y : List Sp), Bv = .int .i64 (B : Nat) ∧ 20 ≤ B ∧ B ≤ 20000 ∧ Y.length = n ∧ (∀ j, (Y.drop (j * B)).take B = isort ltS ((D.drop (j * B)).take B)) ∧ SC κ wz G Y ∧ But (fun k => k = G) w wz) (fun Bv _ => n - (intOf Bv).toNat)
      case atStart => exact ⟨20, rowS7 X a n, rfl, by omega, by omega, by rw [HN.out.1, hn], HN.out.2, H5.out.1, HB.out.trans H5.out.2⟩
      case round =>
        clear HI HN HB H5
        obtain ⟨B, Y, rfl, hB20, hBm, hYl, hF, hSC, hBt⟩ := hrel
        obtain ⟨wz, rfl⟩ : ∃ wz, wz = wr := ⟨_, rfl⟩
        by_cases hBn : B < n
        · have d2 : (B : Int) < (n : Int) := by omega
          obtain ⟨C, hC⟩ : ∃ C, 2 * B = C := ⟨_, rfl⟩
          have w2 : (2 : Int) * (B : Int) = (C : Int) := by omega
          have w3 : IntKind.i64.wrap (C : Int) = (C : Int) := IntWalk.i64_in _ ⟨by omega, by omega⟩
          have w4 : (B : Int) * (2 : Int) = (C : Int) := by omega
          have HF := hideS hF
          have HW := hideS (And.intro hSC hBt)
          clear hF hSC hBt
          go_wp2_with fail
          go_loopw [7, 8] (fun av bv wx => ∃ (k a : Nat) (Z : List Sp), av = .int .i64 (a : Nat) ∧ bv = .int .i64 ((a + C : Nat) : Int) ∧ k * C = a ∧ a ≤ n ∧ Blk C D Z k ∧ Z.drop a = Y.drop a ∧ SC κ wx G Z ∧ But (fun k => k = G) w wx) (fun av _ _ => n + 1 - (intOf av).toNat)
          case atStart => exact ⟨0, 0, Y, rfl, by simp, Nat.zero_mul _, Nat.zero_le _, ⟨by rw [hYl, hn], fun k hk => by omega⟩, rfl, HW.out.1, HW.out.2⟩
          case round =>
            clear HW
            obtain ⟨k, a, Z, rfl, rfl, hka, han, hBk, hZY, hSC, hBt⟩ := hrel
            obtain ⟨wy, rfl⟩ : ∃ wy, wy = wr := ⟨_, rfl⟩
            have hZl := hBk.len
            rw [← hC] at hka hBk
            have e1 := blk_two HF.out k a hka
            have e2 := blk_srt HF.out k a hka
            have hZB : Z.drop (a + B) = Y.drop (a + B) := by rw [← List.drop_drop, hZY, List.drop_drop]
            rw [← hZY, ← hZB] at e1 e2
            obtain ⟨m, hm⟩ : ∃ m, a + B = m := ⟨_, rfl⟩
            have w5 : (a : Int) + (B : Int) = (m : Int) := by omega
            have w6 : IntKind.i64.wrap (m : Int) = (m : Int) := IntWalk.i64_in _ ⟨by omega, by omega⟩
            by_cases hle : a + C ≤ n
            · obtain ⟨b, hb⟩ : ∃ b, a + C = b := ⟨_, rfl⟩
              have HI := hideS (sym_all G cap n hl (B + B) (Z.take a) ((Z.drop a).take B) ((Z.drop (a + B)).take B) (Z.drop (a + B + B)) a m b (by rw [List.length_take]; omega) (by rw [List.length_take, List.length_drop]; omega) (by rw [List.length_take, List.length_drop]; omega) (by rw [List.length_drop]; omega) (by rw [List.length_take, List.length_drop]; omega) (by rw [List.length_take, List.length_drop]; omega) (by rw [List.length_take, List.length_take]; omega) e2.1 e2.2 wy (by rw [← cut3]; exact hSC))
              rw [e1, show a + B + B = a + 2 * B by omega] at HI
              have hst := blk_step (M := isort ltS ((D.drop a).take (2 * B))) (c := 2 * B) hBk hka (by omega) (by omega) rfl
              obtain ⟨Z2, hZ2⟩ : ∃ Z2, Z.take a ++ (isort ltS ((D.drop a).take (2 * B)) ++ Z.drop (a + 2 * B)) = Z2 := ⟨_, rfl⟩
              rw [hZ2] at HI hst
              have HN : Hid (Blk C D Z2 (k + 1) ∧ Z2.drop b = Y.drop b) := hideS (by
                rw [← hb, ← hC]
                refine ⟨hst.1, ?_⟩
                rw [hst.2, ← List.drop_drop, hZY, List.drop_drop])
              have HB := hideS hBt
              have hk1 : (k + 1) * C = b := by rw [Nat.add_mul, Nat.one_mul, ← hC, hka, hC, hb]
              clear hst hSC hBt hBk hZY e1 e2 hZ2 hZB
              rw [hb]
              have d1 : (b : Int) ≤ (n : Int) := by omega
              have w1 : IntKind.i64.wrap ((b : Int) + (C : Int)) = (b : Int) + (C : Int) := IntWalk.i64_in _ ⟨by omega, by omega⟩
              go_wp2_with (first | (go_at_call 144; (with_reducible refine HI.out.mono ?_); rintro e w7 ⟨rfl, s5, b5⟩; have H5 := hideS (And.intro s5 b5); clear s5 b5))
              go_roundw
              case rel => exact ⟨k + 1, b, Z2, rfl, by simp, hk1, by omega, HN.out.1, HN.out.2, H5.out.1, HB.out.trans H5.out.2⟩
              case measure => simp [intOf]; omega
            · have d1 : ¬ ((a + C : Nat) : Int) ≤ (n : Int) := by omega
              have hst := blk_step (M := isort ltS ((D.drop a).take (2 * B))) (c := n - a) hBk hka (by omega) (by omega) rfl
              have eZ : Z.drop (a + (n - a)) = [] := List.drop_eq_nil_of_le (by omega)
              rw [eZ, List.append_nil] at hst
              have hfu := blk_full hst.1 (by rw [Nat.add_mul, Nat.one_mul, hka]; omega)
              have hle2 := hst.1.len
              obtain ⟨Z2, hZ2⟩ : ∃ Z2, Z.take a ++ isort ltS ((D.drop a).take (2 * B)) = Z2 := ⟨_, rfl⟩
              rw [hZ2] at hfu hle2
              rw [hC] at hfu
              have HN := hideS (And.intro hle2 hfu)
              clear hfu hst hle2
              by_cases hmn : m < n
              · have d3 : (m : Int) < (n : Int) := by omega
                have HI := hideS (sym_all G cap n hl (B + B) (Z.take a) ((Z.drop a).take B) ((Z.drop (a + B)).take B) (Z.drop (a + B + B)) a m n (by rw [List.length_take]; omega) (by rw [List.length_take, List.length_drop]; omega) (by rw [List.length_take, List.length_drop]; omega) (by rw [List.length_drop]; omega) (by rw [List.length_take, List.length_drop]; omega) (by rw [List.length_take, List.length_drop]; omega) (by rw [List.length_take, List.length_take]; omega) e2.1 e2.2 wy (by rw [← cut3]; exact hSC))
                rw [e1, List.drop_eq_nil_of_le (by omega : Z.length ≤ a + B + B), List.append_nil, hZ2] at HI
                have HB := hideS hBt
                clear hSC hBt hBk hZY e1 e2 hZ2 hZB eZ
                go_wp2_with (first | (go_at_call 144; (with_reducible refine HI.out.mono ?_); rintro e w7 ⟨rfl, s5, b5⟩; have H5 := hideS (And.intro s5 b5); clear s5 b5))
                go_roundw
                case rel => exact ⟨C, Z2, rfl, by omega, by omega, by rw [HN.out.1, hn], HN.out.2, H5.out.1, HB.out.trans H5.out.2⟩
                case measure => simp [intOf]; omega
              · have d3 : ¬ (m : Int) < (n : Int) := by omega
                have eM : isort ltS ((D.drop a).take (2 * B)) = Z.drop a := by
                  rw [← e1, List.drop_eq_nil_of_le (by omega : Z.length ≤ a + B), List.take_nil, mg_nil, List.take_of_length_le (by rw [List.length_drop]; omega)]
                rw [eM, List.take_append_drop] at hZ2
                subst hZ2
                have HB := hideS (And.intro hSC hBt)
                clear hSC hBt hBk hZY e1 e2 hZB eZ eM
                go_wp2_with fail
                go_roundw
                case rel => exact ⟨C, Z, rfl, by omega, by omega, by rw [HN.out.1, hn], HN.out.2, HB.out.1, HB.out.2⟩
                case measure => simp [intOf]; omega
        · have d2 : ¬ (B : Int) < (n : Int) := by omega
          have e : Y = isort ltS D := blk_whole (B := B) (D := D) (X := Y) (k0 := 1) ⟨by rw [hYl, hn], fun k hk => hF k⟩ (by omega) (by omega)
          subst e
          have HF := hideS (And.intro hSC hBt)
          clear hF hSC hBt
          go_wp2_with fail
          exact bodyPost_end (v := .tuple #[]) (by simp [results, Tryz.f136]) rfl ⟨rfl, HF.out.1, HF.out.2⟩
end Go.Proofs.YthhhglfcacoejaaGreatDoor

/- slices.SortStableFunc over spans. -/
namespace Go.Proofs.YthhhglfcacoejaaGreatDoor
open Go.RowKit Go.Shelf
attribute [local go_sem] Oper.semAt_some
variable {κ : Nat}

set_option maxRecDepth 100000 in
set_option maxHeartbeats 2000000 in
theorem sort_walk (D : List Sp) (G cap n : Nat) (hn : D.length = n) (hl : n ≤ 5000) (w : World) (hS : SC κ w G D) :
    Calls Tryz.prog 132 #[.slice (some ⟨G, 0, none⟩) n cap, .func (.func 133) #[] #[]] w fun e w' => e = .returned (.tuple #[]) ∧ SC κ w' G (isort ltS D) ∧ But (fun k => k = G) w w' := by
  have HI := hideS (stable_walk D G cap n hn hl w hS)
  clear hS
  go_enter Tryz.func132, Tryz.ntmps132
  go_wp2_with (first | (go_at_call 136; (with_reducible refine HI.out.mono ?_); rintro e w5 ⟨rfl, s5, b5⟩; have H5 := hideS (And.intro s5 b5); clear s5 b5))
  exact bodyPost_end (v := .tuple #[]) (by simp [results, Tryz.f132]) rfl ⟨rfl, H5.out.1, H5.out.2⟩
end Go.Proofs.YthhhglfcacoejaaGreatDoor

/- Spans that are read, by any address; style.fits, style.allFit (chapter 7). -/
namespace Go.Proofs.YthhhglfcacoejaaGreatDoor
open Go.RowKit Go.Shelf
attribute [local go_sem] Oper.semAt_some
variable {κ : Nat}

/-- Spans that lie one behind the other at an address, if there are any. -/
def SpO (V : World) (oa : Option Addr) (Q : List Sp) : Prop := ∀ (i : Nat) (p : Sp), Q[i]? = some p → ∃ a : Addr, oa = some a ∧ a.block < V.heap.size ∧
  V.cell? (a.add (i * 4)) = some (.int .i64 p.fr) ∧ V.cell? ⟨(a.add (i * 4)).block, (a.add (i * 4)).off + 1, none⟩ = some (.int .i64 p.tt) ∧ V.cell? ⟨(a.add (i * 4)).block, (a.add (i * 4)).off + 2, none⟩ = some (.int .i64 p.kd) ∧ V.cell? ⟨(a.add (i * 4)).block, (a.add (i * 4)).off + 3, none⟩ = some (.int .i64 p.vl)
theorem addrS_block (a : Addr) (n : Nat) : (a.add n).block = a.block := by unfold Addr.add; split <;> rfl
theorem SpO.nil (V : World) (oa : Option Addr) : SpO V oa [] := fun i p h => by simp at h
theorem SpO.keep {V V2 : World} {oa : Option Addr} {Q : List Sp} (h : SpO V oa Q) (b : Below V.heap.size V V2) : SpO V2 oa Q := fun i p hp => by
  obtain ⟨a, ha, hb, h0, h1, h2, h3⟩ := h i p hp
  have k : (a.add (i * 4)).block < V.heap.size := by rw [addrS_block]; exact hb
  exact ⟨a, ha, Nat.lt_of_lt_of_le hb b.size, (b.cell k).trans h0, (b.cell (p := ⟨(a.add (i * 4)).block, _, none⟩) k).trans h1, (b.cell (p := ⟨(a.add (i * 4)).block, _, none⟩) k).trans h2, (b.cell (p := ⟨(a.add (i * 4)).block, _, none⟩) k).trans h3⟩
theorem SpO.but {V V2 : World} {oa : Option Addr} {Q : List Sp} {M : Nat → Prop} (h : SpO V oa Q) (b : But M V V2) (hM : ∀ a, oa = some a → ¬ M a.block) : SpO V2 oa Q := fun i p hp => by
  obtain ⟨a, ha, hb, h0, h1, h2, h3⟩ := h i p hp
  have hk := b.same a.block hb (hM a ha)
  have e : ∀ q : Addr, q.block = a.block → V2.cell? q = V.cell? q := fun q hq => by unfold World.cell?; rw [hq, hk]
  have k := addrS_block a (i * 4)
  exact ⟨a, ha, Nat.lt_of_lt_of_le hb b.size, (e _ k).trans h0, (e ⟨(a.add (i * 4)).block, _, none⟩ k).trans h1, (e ⟨(a.add (i * 4)).block, _, none⟩ k).trans h2, (e ⟨(a.add (i * 4)).block, _, none⟩ k).trans h3⟩
theorem SC.spo {W : World} {G : Nat} {Q : List Sp} (h : SC κ W G Q) : SpO W (some ⟨G, 0, none⟩) Q := fun i p hp => by
  obtain ⟨⟨c0, c1, c2, c3⟩, _⟩ := h.at hp
  have e : (⟨G, 0, none⟩ : Addr).add (i * 4) = ⟨G, i * 4, none⟩ := by
    unfold Addr.add
    split
    · rename_i h0
      rw [h0]
    · simp
  refine ⟨⟨G, 0, none⟩, rfl, h.lt, ?_⟩
  rw [e]
  exact ⟨c0, c1, c2, c3⟩
/-- May a span be one of a text with n signs? -/
def fitB (x : Sp) (n : Int) : Bool := decide (1 ≤ x.kd ∧ x.kd ≤ 5 ∧ 0 ≤ x.vl ∧ x.vl ≤ (if x.kd = 5 then 16777215 else 0) ∧ 0 ≤ x.fr ∧ x.fr < x.tt ∧ x.tt ≤ n)
set_option maxRecDepth 100000 in
set_option maxHeartbeats 1000000 in
theorem fits_any (x : Sp) (n : Int) (w : World) : Calls Tryz.prog 122 #[x.val, .int .i64 n] w fun e w' => e = .returned (.bool (fitB x n)) ∧ Below w.heap.size w w' := by
  obtain ⟨f, t, k, v⟩ := x
  unfold fitB Sp.val
  simp only
  by_cases hk : k = 5
  · subst hk
    rw [if_pos rfl]
    by_cases h2 : 0 ≤ v
    rotate_left
    · rw [decide_eq_false (by omega)]
      go_enter Tryz.func122, Tryz.ntmps122
      go_wp2_with fail
      go_ret
      exact ⟨rfl, bel1S w _⟩
    by_cases h3 : v ≤ 16777215
    rotate_left
    · rw [decide_eq_false (by omega)]
      go_enter Tryz.func122, Tryz.ntmps122
      go_wp2_with fail
      go_ret
      exact ⟨rfl, bel1S w _⟩
    by_cases h4 : 0 ≤ f
    rotate_left
    · rw [decide_eq_false (by omega)]
      go_enter Tryz.func122, Tryz.ntmps122
      go_wp2_with fail
      go_ret
      exact ⟨rfl, bel1S w _⟩
    by_cases h5 : f < t
    rotate_left
    · rw [decide_eq_false (by omega)]
      go_enter Tryz.func122, Tryz.ntmps122
      go_wp2_with fail
      go_ret
      exact ⟨rfl, bel1S w _⟩
    by_cases h6 : t ≤ n
    rotate_left
    · rw [decide_eq_false (by omega)]
      go_enter Tryz.func122, Tryz.ntmps122
      go_wp2_with fail
      go_ret
      exact ⟨rfl, bel1S w _⟩
    rw [decide_eq_true (by omega)]
    go_enter Tryz.func122, Tryz.ntmps122
    go_wp2_with fail
    go_ret
    exact ⟨rfl, bel1S w _⟩
  · have hke : (k == 5) = false := by simpa using hk
    rw [if_neg hk]
    by_cases h0 : 1 ≤ k
    rotate_left
    · rw [decide_eq_false (by omega)]
      go_enter Tryz.func122, Tryz.ntmps122
      go_wp2_with fail
      go_ret
      exact ⟨rfl, bel1S w _⟩
    by_cases h1 : k ≤ 5
    rotate_left
    · rw [decide_eq_false (by omega)]
      go_enter Tryz.func122, Tryz.ntmps122
      go_wp2_with fail
      go_ret
      exact ⟨rfl, bel1S w _⟩
    by_cases h2 : 0 ≤ v
    rotate_left
    · rw [decide_eq_false (by omega)]
      go_enter Tryz.func122, Tryz.ntmps122
      go_wp2_with fail
      go_ret
      exact ⟨rfl, bel1S w _⟩
    by_cases h3 : v ≤ 0
    rotate_left
    · rw [decide_eq_false (by omega)]
      go_enter Tryz.func122, Tryz.ntmps122
      go_wp2_with fail
      go_ret
      exact ⟨rfl, bel1S w _⟩
    by_cases h4 : 0 ≤ f
    rotate_left
    · rw [decide_eq_false (by omega)]
      go_enter Tryz.func122, Tryz.ntmps122
      go_wp2_with fail
      go_ret
      exact ⟨rfl, bel1S w _⟩
    by_cases h5 : f < t
    rotate_left
    · rw [decide_eq_false (by omega)]
      go_enter Tryz.func122, Tryz.ntmps122
      go_wp2_with fail
      go_ret
      exact ⟨rfl, bel1S w _⟩
    by_cases h6 : t ≤ n
    rotate_left
    · rw [decide_eq_false (by omega)]
      go_enter Tryz.func122, Tryz.ntmps122
      go_wp2_with fail
      go_ret
      exact ⟨rfl, bel1S w _⟩
    rw [decide_eq_true (by omega)]
    go_enter Tryz.func122, Tryz.ntmps122
    go_wp2_with fail
    go_ret
    exact ⟨rfl, bel1S w _⟩
/-- Does each span fit? -/
def allB (D : List Sp) (n : Int) : Bool := D.all fun x => fitB x n
set_option maxRecDepth 100000 in
set_option maxHeartbeats 1000000 in
theorem allFit_any (D : List Sp) (oa : Option Addr) (cap : Nat) (n : Int) (hc : D.length ≤ cap ∧ cap ≤ maxLen) (w : World) (hR : SpO w oa D) :
    Calls Tryz.prog 105 #[.slice oa D.length cap, .int .i64 n] w fun e w' => e = .returned (.bool (allB D n)) ∧ Below w.heap.size w w' := by
  obtain ⟨N, hN⟩ : ∃ N, D.length = N := ⟨_, rfl⟩
  obtain ⟨B, hB⟩ : ∃ B, allB D n = B := ⟨_, rfl⟩
  have HN := hideS (And.intro hN hB)
  rw [hN] at hc
  rw [hB, hN]
  have hcm : cap ≤ 9223372036854775807 := hc.2
  have HR := hideS hR
  clear hR hN hB
  go_enter Tryz.func105, Tryz.ntmps105
  go_wp2_with fail
  go_loopw [9] (fun iv wq => ∃ i : Nat, iv = .int .i64 (i : Nat) ∧ i ≤ N ∧ (D.take i).all (fun x => fitB x n) = true ∧ Below w.heap.size w wq) (fun iv _ => N - (intOf iv).toNat)
  case atStart => exact ⟨0, rfl, Nat.zero_le _, rfl, Below.refl _ _⟩
  case round =>
    obtain ⟨i, rfl, hi, hall, hb⟩ := hrel
    obtain ⟨wq, rfl⟩ : ∃ wq, wq = wr := ⟨_, rfl⟩
    by_cases hlt : i < N
    · obtain ⟨x, hx⟩ : ∃ x, D[i]? = some x := ⟨_, List.getElem?_eq_getElem (by rw [HN.out.1]; exact hlt)⟩
      obtain ⟨a, rfl, hab, c0, c1, c2, c3⟩ := HR.out.keep hb i x hx
      have d1 : (i : Int) < (N : Int) := by omega
      have wi : IntKind.i64.wrap ((i : Int) + 1) = ((i + 1 : Nat) : Int) := by rw [show ((i + 1 : Nat) : Int) = (i : Int) + 1 by omega]; exact IntWalk.i64_in _ ⟨by omega, by omega⟩
      have HF := hideS (fits_any x n)
      unfold Sp.val at HF
      obtain ⟨g, hg⟩ : ∃ g, fitB x n = g := ⟨_, rfl⟩
      rw [hg] at HF
      have HA := hideS (And.intro (And.intro hall hg) (And.intro hb hx))
      clear hall hg hb hx
      go_wp2_with fail
      obtain ⟨V, hV⟩ : ∃ V, wq.alloc (.cells #[.int .i64 x.fr, .int .i64 x.tt, .int .i64 x.kd, .int .i64 x.vl] 138) = V := ⟨_, rfl⟩
      have HV : Hid (Below wq.heap.size wq V) := hideS (by rw [← hV]; exact bel1S _ _)
      rw [hV]
      refine (HF.out V).mono ?_
      rintro e w5 ⟨rfl, b5⟩
      have H5 := hideS (HA.out.2.1.trans ((bupS HV.out b5).mono HA.out.2.1.size))
      clear b5 HV hV c0 c1 c2 c3
      cases g with
      | true =>
        go_wp2_with fail
        go_roundw
        case rel =>
          refine ⟨i + 1, by first | rfl | simp, by omega, ?_, H5.out⟩
          rw [List.take_add_one, HA.out.2.2, List.all_append, HA.out.1.1]
          simp [HA.out.1.2]
        case measure => simp [intOf]; omega
      | false =>
        go_wp2_with fail
        go_ret
        refine ⟨?_, H5.out⟩
        rw [← HN.out.2]
        unfold allB
        have hm : x ∈ D := List.mem_of_getElem? HA.out.2.2
        rw [show (D.all fun x => fitB x n) = false from List.all_eq_false.2 ⟨x, hm, by rw [HA.out.1.2]; simp⟩]
        rfl
    · have d1 : ¬ (i : Int) < (N : Int) := by omega
      have HA := hideS (And.intro hall hb)
      clear hall hb
      go_wp2_with fail
      go_ret
      refine ⟨?_, HA.out.2⟩
      have := HA.out.1
      rw [List.take_of_length_le (by rw [HN.out.1]; omega)] at this
      rw [← HN.out.2]
      unfold allB
      rw [this]
      rfl
end Go.Proofs.YthhhglfcacoejaaGreatDoor

/- slices.Clone over spans; rows of ints of one's own as a stack (chapter 7). -/
namespace Go.Proofs.YthhhglfcacoejaaGreatDoor
open Go.RowKit Go.Shelf
attribute [local go_sem] Oper.semAt_some

def flat4 (Q : List Sp) : List Value := Q.flatMap fun p => [.int .i64 p.fr, .int .i64 p.tt, .int .i64 p.kd, .int .i64 p.vl]
theorem flat4_len (Q : List Sp) : (flat4 Q).length = Q.length * 4 := by
  induction Q with
  | nil => rfl
  | cons x Q ih =>
    show ([_, _, _, _] ++ flat4 Q).length = _
    rw [List.length_append, ih]
    simp
    omega
theorem flat4_snoc (Q : List Sp) (x : Sp) : flat4 (Q ++ [x]) = flat4 Q ++ [.int .i64 x.fr, .int .i64 x.tt, .int .i64 x.kd, .int .i64 x.vl] := by simp [flat4]
theorem flat4_at : ∀ (Q : List Sp) (i : Nat) (p : Sp), Q[i]? = some p → (flat4 Q)[i * 4]? = some (.int .i64 p.fr) ∧ (flat4 Q)[i * 4 + 1]? = some (.int .i64 p.tt) ∧ (flat4 Q)[i * 4 + 2]? = some (.int .i64 p.kd) ∧ (flat4 Q)[i * 4 + 3]? = some (.int .i64 p.vl)
  | [], i, p, h => by simp at h
  | x :: Q, 0, p, h => by
    obtain rfl : x = p := by simpa using h
    exact ⟨rfl, rfl, rfl, rfl⟩
  | x :: Q, i + 1, p, h => by
    have ih := flat4_at Q i p (by simpa using h)
    have e : ∀ j, (flat4 (x :: Q))[(i + 1) * 4 + j]? = (flat4 Q)[i * 4 + j]? := fun j => by
      show ([_, _, _, _] ++ flat4 Q)[(i + 1) * 4 + j]? = _
      rw [List.getElem?_append_right (by simp; omega)]
      congr 1
      simp
      omega
    exact ⟨(e 0).trans ih.1, (e 1).trans ih.2.1, (e 2).trans ih.2.2.1, (e 3).trans ih.2.2.2⟩
/-- Each cell of a flat row is one of its spans'. -/
theorem flat4_cell {Q : List Sp} {j : Nat} {u : Value} (h : (flat4 Q)[j]? = some u) : ∃ p, Q[j / 4]? = some p ∧ ((j % 4 = 0 ∧ u = .int .i64 p.fr) ∨ (j % 4 = 1 ∧ u = .int .i64 p.tt) ∨ (j % 4 = 2 ∧ u = .int .i64 p.kd) ∨ (j % 4 = 3 ∧ u = .int .i64 p.vl)) := by
  have hj := (List.getElem?_eq_some_iff.1 h).1
  rw [flat4_len] at hj
  obtain ⟨p, hp⟩ : ∃ p, Q[j / 4]? = some p := ⟨_, List.getElem?_eq_getElem (by omega)⟩
  obtain ⟨h0, h1, h2, h3⟩ := flat4_at Q (j / 4) p hp
  refine ⟨p, hp, ?_⟩
  have hr : j % 4 = 0 ∨ j % 4 = 1 ∨ j % 4 = 2 ∨ j % 4 = 3 := by omega
  rcases hr with r | r | r | r
  · rw [show j / 4 * 4 = j by omega, h] at h0
    exact .inl ⟨r, by simpa using h0⟩
  · rw [show j / 4 * 4 + 1 = j by omega, h] at h1
    exact .inr (.inl ⟨r, by simpa using h1⟩)
  · rw [show j / 4 * 4 + 2 = j by omega, h] at h2
    exact .inr (.inr (.inl ⟨r, by simpa using h2⟩))
  · rw [show j / 4 * 4 + 3 = j by omega, h] at h3
    exact .inr (.inr (.inr ⟨r, by simpa using h3⟩))
theorem flat4_one (Q : List Sp) : ∀ u ∈ flat4 Q, u.oneCell' = true := fun u hu => by
  obtain ⟨j, hj⟩ := List.mem_iff_getElem?.1 hu
  obtain ⟨p, _, h⟩ := flat4_cell hj
  rcases h with ⟨_, rfl⟩ | ⟨_, rfl⟩ | ⟨_, rfl⟩ | ⟨_, rfl⟩ <;> rfl
theorem addrS_next (a : Addr) (n k : Nat) : a.add (n + (k + 1)) = ⟨(a.add n).block, (a.add n).off + (k + 1), none⟩ := by
  unfold Addr.add
  by_cases h : n = 0
  · subst h; simp
  · simp [h]; omega
theorem SpO.flat {V : World} {a : Addr} {Q : List Sp} (h : SpO V (some a) Q) : ∀ j u, (flat4 Q)[j]? = some u → V.cell? (a.add j) = some u := fun j u hj => by
  obtain ⟨p, hp, hc⟩ := flat4_cell hj
  obtain ⟨a', ha, _, c0, c1, c2, c3⟩ := h _ p hp
  obtain rfl : a = a' := by simpa using ha
  rw [← addrS_next] at c1 c2 c3
  rcases hc with ⟨r, rfl⟩ | ⟨r, rfl⟩ | ⟨r, rfl⟩ | ⟨r, rfl⟩
  · rw [show j / 4 * 4 = j by omega] at c0
    exact c0
  · rw [show j / 4 * 4 + (0 + 1) = j by omega] at c1
    exact c1
  · rw [show j / 4 * 4 + (1 + 1) = j by omega] at c2
    exact c2
  · rw [show j / 4 * 4 + (2 + 1) = j by omega] at c3
    exact c3
/-- A row of spans of one's own, as it may be written. -/
theorem own_sc {W : World} {base n : Nat} {v : Value} {Q : List Sp} (h : W.ownsRow base 138 4 v n (flat4 Q)) (hn : Q.length = n) : ∃ o cap, v = .slice o n cap ∧ (n ≤ cap ∧ cap ≤ maxLen) ∧ (o = none → cap = 0) ∧ (∀ a, o = some a → ∃ g, a = ⟨g, 0, none⟩ ∧ base ≤ g ∧ SC (cap * 4) W g Q) ∧ (o = none → Q = []) := by
  rcases h.2 with ⟨rfl, rfl⟩ | ⟨g, cap, cur, rfl, hb, hg, hcn, hcm, hs, h4⟩
  · exact ⟨none, 0, rfl, ⟨Nat.le_refl _, Nat.zero_le _⟩, fun _ => rfl, fun a ha => (nomatch ha), fun _ => List.eq_nil_of_length_eq_zero hn⟩
  · refine ⟨_, cap, rfl, ⟨hcn, hcm⟩, fun e => (nomatch e), fun a ha => ⟨g, (Option.some.inj ha).symm, hb, cur, hg, hs, fun i p hp => ?_⟩, fun e => (nomatch e)⟩
    obtain ⟨c0, c1, c2, c3⟩ := flat4_at Q i p hp
    have hi := (List.getElem?_eq_some_iff.1 hp).1
    rw [← h4] at c0 c1 c2 c3
    rw [List.getElem?_take, if_pos (by omega)] at c0 c1 c2 c3
    simp only [Array.getElem?_toList] at c0 c1 c2 c3
    exact ⟨c0, c1, c2, c3⟩
theorem own_empty (w : World) (t : TypeId) (size : Nat) : (w.alloc (.cells #[] t)).ownsRow w.heap.size t size (.slice (some ⟨w.heap.size, 0, none⟩) 0 0) 0 [] :=
  ⟨by simp, .inr ⟨w.heap.size, 0, #[], rfl, Nat.le_refl _, World.alloc_heap_new w _, Nat.le_refl _, Nat.zero_le _, by simp, by simp⟩⟩
theorem infoSp : (Tryz.prog.info? 138).map (fun i => (i.zero, i.size, i.bytes)) = some (some (.agg #[.int .i64 0, .int .i64 0, .int .i64 0, .int .i64 0]), 4, 32) := by kernel_rfl

set_option maxRecDepth 100000 in
set_option maxHeartbeats 400000 in
theorem spclone_nil7 (w : World) : Calls Tryz.prog 131 #[.slice none 0 0] w fun e w' => e = .returned (.slice none 0 0) ∧ w' = w := by
  have he : ∀ W, (binOp .eql 50 (.slice none 0 0) (.slice none 0 0)).run Tryz.prog W = .ok (.bool true) W := fun W => by kernel_rfl
  go_enter Tryz.func131, Tryz.ntmps131
  go_wp2
  go_ret
  exact ⟨rfl, rfl⟩
set_option maxRecDepth 100000 in
set_option maxHeartbeats 1000000 in
theorem spclone_some (D : List Sp) (a : Addr) (cap : Nat) (hl : D.length ≤ 1048576) (w : World) (hR : SpO w (some a) D) :
    Calls Tryz.prog 131 #[.slice (some a) D.length cap] w fun e w' => ∃ v, e = .returned v ∧ w'.ownsRow w.heap.size 138 4 v D.length (flat4 D) ∧ Below w.heap.size w w' := by
  obtain ⟨i0, hi, hz0, hz1, hz2⟩ := info_parts infoSp
  have he : ∀ W, (binOp .eql 50 (.slice (some a) D.length cap) (.slice none 0 0)).run Tryz.prog W = .ok (.bool false) W := fun W => by
    first | rfl | kernel_rfl
  have HFl := hideS hR.flat
  have HBk : Hid (∀ j u, (flat4 D)[j]? = some u → (a.add j).block < w.heap.size) := hideS fun j u hj => by
    obtain ⟨p, hp, _⟩ := flat4_cell hj
    obtain ⟨a', ha, hb, _⟩ := hR _ p hp
    obtain rfl : a = a' := by simpa using ha
    rw [addrS_block]
    exact hb
  have HO := hideS (flat4_one D)
  have HL := hideS (flat4_len D)
  clear hR
  obtain ⟨N, hN⟩ : ∃ N, D.length = N := ⟨_, rfl⟩
  rw [hN] at hl HL he ⊢
  clear hN
  go_enter Tryz.func131, Tryz.ntmps131
  go_wp2_with (at_builtin; refine wpList_append_own _ rfl _ _ 50 rfl w.heap.size 138 i0 (.agg #[.int .i64 0, .int .i64 0, .int .i64 0, .int .i64 0]) 4 32 Tryz.underlying50 hi hz0 hz1 hz2 rfl (by decide) _ 0 [] rfl (own_empty w _ 4) a N cap (flat4 D) rfl HL.out (fun j u hj => (Below.cell (bel1S w _) (HBk.out j u hj)).trans (HFl.out j u hj)) HO.out (by unfold maxLen; omega) (by omega) (by simp) ?_; intro v' w3 hown' hgrow _)
  have hB := Below.grown (bel1S w (.cells #[] 138)) hgrow (by simp) (fun j hj => by cases hj; exact Nat.le_refl _)
  rw [List.nil_append, Nat.zero_add] at hown'
  have HF := hideS (And.intro hown' hB)
  clear hown' hB hgrow
  go_wp2_with fail
  go_ret
  exact ⟨_, rfl, HF.out.1, HF.out.2⟩
/-- A slice of spans that may be handed in. -/
theorem spclone_any (D : List Sp) (oa : Option Addr) (cap : Nat) (hl : D.length ≤ 1048576) (hn : oa = none → D = [] ∧ cap = 0) (w : World) (hR : SpO w oa D) :
    Calls Tryz.prog 131 #[.slice oa D.length cap] w fun e w' => ∃ v, e = .returned v ∧ w'.ownsRow w.heap.size 138 4 v D.length (flat4 D) ∧ Below w.heap.size w w' := by
  cases oa with
  | none =>
    obtain ⟨rfl, rfl⟩ := hn rfl
    refine (spclone_nil7 w).mono ?_
    rintro e w' ⟨rfl, rfl⟩
    exact ⟨_, rfl, World.ownsRow_nil _ _ _ _, Below.refl _ _⟩
  | some a => exact spclone_some D a cap hl w hR
end Go.Proofs.YthhhglfcacoejaaGreatDoor

/- style.outerFirst at any row of spans (chapter 7). -/
namespace Go.Proofs.YthhhglfcacoejaaGreatDoor
open Go.RowKit Go.Shelf
attribute [local go_sem] Oper.semAt_some

set_option maxHeartbeats 400000 in
theorem insert_nil7 (v f : Value) (w : World) : Calls Tryz.prog 143 #[v, .int .i64 0, .int .i64 0, f] w fun e w' => e = .returned (.tuple #[]) ∧ w' = w := by
  go_enter Tryz.func143, Tryz.ntmps143
  go_wp2
  go_loopw [8] (fun i wr => i = .int .i64 1 ∧ wr = w) (fun _ _ => 0)
  case atStart => exact ⟨rfl, rfl⟩
  case round =>
    obtain ⟨rfl, rfl⟩ := hrel
    go_wp2
    go_end0
    exact ⟨rfl, rfl⟩
set_option maxHeartbeats 400000 in
theorem stable_nil7 (v f : Value) (w : World) : Calls Tryz.prog 136 #[v, .int .i64 0, f] w fun e w' => e = .returned (.tuple #[]) ∧ w' = w := by
  go_enter Tryz.func136, Tryz.ntmps136
  go_wp2
  go_loopw [7, 8] (fun i j wr => i = .int .i64 0 ∧ j = .int .i64 20 ∧ wr = w) (fun _ _ _ => 0)
  case atStart => exact ⟨rfl, rfl, rfl⟩
  case round =>
    obtain ⟨rfl, rfl, rfl⟩ := hrel
    go_wp2_with (go_at_call 143; refine (insert_nil7 _ _ _).mono ?_; rintro e w' ⟨rfl, rfl⟩)
    go_loopw [6, 7, 8] (fun k i j wr => k = .int .i64 20 ∧ i = .int .i64 0 ∧ j = .int .i64 20 ∧ wr = w') (fun _ _ _ _ => 0)
    case atStart => exact ⟨rfl, rfl, rfl, rfl⟩
    case round =>
      obtain ⟨rfl, rfl, rfl, rfl⟩ := hrel
      go_wp2
      go_end0
      exact ⟨rfl, rfl⟩
set_option maxHeartbeats 400000 in
theorem sortst_nil7 (o : Option Addr) (cap : Nat) (f : Value) (w : World) : Calls Tryz.prog 132 #[.slice o 0 cap, f] w fun e w' => e = .returned (.tuple #[]) ∧ w' = w := by
  go_enter Tryz.func132, Tryz.ntmps132
  go_wp2_with (go_at_call 136; refine (stable_nil7 _ _ _).mono ?_; rintro e w' ⟨rfl, rfl⟩)
  go_end0
  exact ⟨rfl, rfl⟩
theorem but_below {w V : World} {g m : Nat} (h : But (fun k => k = g) w V) (hm : m ≤ g) (hz : m ≤ w.heap.size) : Below m w V := h.below hz (fun k e => by omega)
set_option maxRecDepth 100000 in
set_option maxHeartbeats 1000000 in
theorem outer_any (D : List Sp) (oa : Option Addr) (cap : Nat) (hl : D.length ≤ 5000) (hn : oa = none → D = [] ∧ cap = 0) (w : World) (hR : SpO w oa D) :
    Calls Tryz.prog 123 #[.slice oa D.length cap] w fun e w' => ∃ o c, e = .returned (.slice o D.length c) ∧ (D.length ≤ c ∧ c ≤ maxLen) ∧ (o = none → D = [] ∧ c = 0) ∧ (∀ a, o = some a → w.heap.size ≤ a.block) ∧ SpO w' o (isort ltS D) ∧ Below w.heap.size w w' := by
  have HC := hideS (spclone_any D oa cap (by omega) hn w hR)
  clear hR hn
  obtain ⟨N, hN⟩ : ∃ N, D.length = N := ⟨_, rfl⟩
  have HN := hideS hN
  rw [hN] at HC hl ⊢
  clear hN
  go_enter Tryz.func123, Tryz.ntmps123
  go_wp2_with fail
  refine HC.out.mono ?_
  rintro e w1 ⟨v, rfl, own, b1⟩
  obtain ⟨o, c, rfl, hc, hcz, hsc, hnl⟩ := own_sc own HN.out
  clear own HC
  by_cases h0 : N = 0
  · obtain rfl : D = [] := List.eq_nil_of_length_eq_zero (by rw [HN.out, h0])
    subst h0
    have hb : ∀ a, o = some a → w.heap.size ≤ a.block := fun a ha => by obtain ⟨g, rfl, hg, _⟩ := hsc a ha; exact hg
    have HF := hideS (And.intro b1 (And.intro hb hcz))
    clear b1 hb hcz hsc hnl
    go_wp2_with (go_at_call 132; refine (sortst_nil7 _ _ _ _).mono ?_; rintro e w' ⟨rfl, rfl⟩)
    go_ret
    first | exact ⟨o, c, rfl, hc, fun e => ⟨rfl, HF.out.2.2 e⟩, HF.out.2.1, SpO.nil _ _, HF.out.1⟩ | exact ⟨o, c, rfl, hc.2, HF.out.2.2, HF.out.2.1, SpO.nil _ _, HF.out.1⟩
  · cases o with
    | none =>
      have := hnl rfl
      subst this
      exact absurd HN.out.symm h0
    | some a =>
      obtain ⟨g, rfl, hg, hS⟩ := hsc a rfl
      have HS := hideS (sort_walk D g c N HN.out hl w1 hS)
      have HB := hideS (And.intro b1 hg)
      clear b1 hg hS hsc hnl hcz
      go_wp2_with (go_at_call 132; (with_reducible refine HS.out.mono ?_); rintro e w5 ⟨rfl, s5, b5⟩; have H5 := hideS (And.intro s5 b5); clear s5 b5)
      go_ret
      exact ⟨_, c, rfl, hc, fun e => (nomatch e), fun a ha => by obtain rfl := Option.some.inj ha; exact HB.out.2, H5.out.1.spo, HB.out.1.trans (but_below H5.out.2 HB.out.2 HB.out.1.size)⟩
/-- A row in its block, owned again. -/
theorem sc_own {W : World} {base g n cap : Nat} {Q : List Sp} (h : SC (cap * 4) W g Q) (hn : Q.length = n) (hc : n ≤ cap ∧ cap ≤ maxLen) (hb : base ≤ g) : W.ownsRow base 138 4 (.slice (some ⟨g, 0, none⟩) n cap) n (flat4 Q) := by
  obtain ⟨cur, h1, h2, h3⟩ := h
  refine ⟨by rw [flat4_len, hn], Or.inr ⟨g, cap, cur, rfl, hb, h1, hc.1, hc.2, h2, ?_⟩⟩
  apply List.ext_getElem?
  intro t
  rw [List.getElem?_take]
  by_cases ht : t < n * 4
  · rw [if_pos ht, Array.getElem?_toList]
    obtain ⟨u, hu⟩ : ∃ u, (flat4 Q)[t]? = some u := ⟨_, List.getElem?_eq_getElem (by rw [flat4_len, hn]; exact ht)⟩
    rw [hu]
    obtain ⟨p, hp, hk⟩ := flat4_cell hu
    obtain ⟨c0, c1, c2, c3⟩ := h3 (t / 4) p hp
    rcases hk with ⟨e, rfl⟩ | ⟨e, rfl⟩ | ⟨e, rfl⟩ | ⟨e, rfl⟩
    · rw [show t = t / 4 * 4 by omega]; exact c0
    · rw [show t = t / 4 * 4 + 1 by omega]; exact c1
    · rw [show t = t / 4 * 4 + 2 by omega]; exact c2
    · rw [show t = t / 4 * 4 + 3 by omega]; exact c3
  · rw [if_neg ht, List.getElem?_eq_none (by rw [flat4_len, hn]; omega)]
set_option maxRecDepth 100000 in
set_option maxHeartbeats 1000000 in
/-- outerFirst: a row of its own. -/
theorem outer_own (D : List Sp) (oa : Option Addr) (cap : Nat) (hl : D.length ≤ 5000) (hn : oa = none → D = [] ∧ cap = 0) (w : World) (hR : SpO w oa D) :
    Calls Tryz.prog 123 #[.slice oa D.length cap] w fun e w' => ∃ v, e = .returned v ∧ w'.ownsRow w.heap.size 138 4 v D.length (flat4 (isort ltS D)) ∧ Below w.heap.size w w' := by
  have HC := hideS (spclone_any D oa cap (by omega) hn w hR)
  clear hR hn
  obtain ⟨N, hN⟩ : ∃ N, D.length = N := ⟨_, rfl⟩
  have HN := hideS hN
  rw [hN] at HC hl ⊢
  clear hN
  go_enter Tryz.func123, Tryz.ntmps123
  go_wp2_with fail
  refine HC.out.mono ?_
  rintro e w1 ⟨v, rfl, own, b1⟩
  have HO := hideS own
  obtain ⟨o, c, rfl, hc, hcz, hsc, hnl⟩ := own_sc own HN.out
  clear own HC
  by_cases h0 : N = 0
  · obtain rfl : D = [] := List.eq_nil_of_length_eq_zero (by rw [HN.out, h0])
    subst h0
    have HF := hideS (And.intro b1 HO.out)
    clear b1 hcz hsc hnl HO
    go_wp2_with (go_at_call 132; refine (sortst_nil7 _ _ _ _).mono ?_; rintro e w' ⟨rfl, rfl⟩)
    go_ret
    exact ⟨_, rfl, HF.out.2, HF.out.1⟩
  · cases o with
    | none =>
      have := hnl rfl
      subst this
      exact absurd HN.out.symm h0
    | some a =>
      obtain ⟨g, rfl, hg, hS⟩ := hsc a rfl
      have HS := hideS (sort_walk D g c N HN.out hl w1 hS)
      have HB := hideS (And.intro b1 hg)
      clear b1 hg hS hsc hnl hcz HO
      go_wp2_with (go_at_call 132; (with_reducible refine HS.out.mono ?_); rintro e w5 ⟨rfl, s5, b5⟩; have H5 := hideS (And.intro s5 b5); clear s5 b5)
      go_ret
      exact ⟨_, rfl, sc_own H5.out.1 (by rw [isort_length, HN.out]) hc HB.out.2, HB.out.1.trans (but_below H5.out.2 HB.out.2 HB.out.1.size)⟩
end Go.Proofs.YthhhglfcacoejaaGreatDoor

/- Do spans cross: the program's way, by a stack of ends over spans in order, against all pairs (chapter 7). Mathematics alone. -/
namespace Go.Proofs.YthhhglfcacoejaaGreatDoor

/-- Two spans share a sign, and none is within the other. -/
def crS (a b : Sp) : Prop := a.fr < b.tt ∧ b.fr < a.tt ∧ ¬ (b.fr ≤ a.fr ∧ a.tt ≤ b.tt) ∧ ¬ (a.fr ≤ b.fr ∧ b.tt ≤ a.tt)
theorem crS_symm {a b : Sp} (h : crS a b) : crS b a := ⟨h.2.1, h.1, h.2.2.2, h.2.2.1⟩
theorem crS_irr (a : Sp) : ¬ crS a a := fun h => h.2.2.1 ⟨Int.le_refl _, Int.le_refl _⟩
/-- The ends that are not over at a place. -/
def popE (f : Int) : List Int → List Int
  | [] => []
  | t :: l => if t ≤ f then popE f l else t :: l
/-- The program's way: the stack's top stands first. -/
def crGo : List Int → List Sp → Bool
  | _, [] => false
  | st, x :: l => match popE x.fr st with
    | [] => crGo [x.tt] l
    | t :: m => if t < x.tt then true else crGo (x.tt :: t :: m) l
/-- Ends that rise from the top on. -/
def UpE : List Int → Prop
  | [] => True
  | t :: l => (∀ u ∈ l, t ≤ u) ∧ UpE l
theorem popE_sub (f : Int) : ∀ (l : List Int) (t : Int), t ∈ popE f l → t ∈ l
  | [], _, h => h
  | u :: l, t, h => by
    unfold popE at h
    split at h
    · exact List.mem_cons_of_mem _ (popE_sub f l t h)
    · exact h
theorem popE_up (f : Int) : ∀ (l : List Int), UpE l → UpE (popE f l)
  | [], h => h
  | u :: l, h => by
    unfold popE
    split
    · exact popE_up f l h.2
    · exact h
theorem popE_gt (f : Int) : ∀ (l : List Int), UpE l → ∀ t ∈ popE f l, f < t
  | [], _, _, ht => by cases ht
  | u :: l, h, t, ht => by
    unfold popE at ht
    split at ht
    · exact popE_gt f l h.2 t ht
    · rename_i hu
      rcases List.mem_cons.1 ht with rfl | ht
      · omega
      · have := h.1 t ht
        omega
theorem popE_keep (f : Int) : ∀ (l : List Int), ∀ t ∈ l, f < t → t ∈ popE f l
  | [], _, ht, _ => by cases ht
  | u :: l, t, ht, hf => by
    unfold popE
    split
    · rename_i hu
      rcases List.mem_cons.1 ht with rfl | ht
      · omega
      · exact popE_keep f l t ht hf
    · exact ht
/-- In order by From, then the longer one first. -/
def OrdS : List Sp → Prop
  | [] => True
  | x :: l => (∀ y ∈ l, x.fr < y.fr ∨ (x.fr = y.fr ∧ y.tt ≤ x.tt)) ∧ OrdS l
theorem crGo_iff : ∀ (l P : List Sp) (st : List Int), OrdS l → (∀ x ∈ l, x.fr < x.tt) → (∀ p ∈ P, ∀ x ∈ l, p.fr < x.fr ∨ (p.fr = x.fr ∧ x.tt ≤ p.tt)) → UpE st →
    (∀ t ∈ st, ∃ p ∈ P, p.tt = t) → (∀ p ∈ P, ∀ x ∈ l, x.fr < p.tt → p.tt ∈ st) → (crGo st l = true ↔ ∃ x ∈ l, ∃ y, (y ∈ P ∨ y ∈ l) ∧ crS y x)
  | [], _, _, _, _, _, _, _, _ => by simp [crGo]
  | x :: l, P, st, ho, hf, hP, hu, hs, hk => by
    have hx := hf x (List.mem_cons_self ..)
    have hup := popE_up x.fr st hu
    have hgt := popE_gt x.fr st hu
    have hsub := popE_sub x.fr st
    have hkeep := popE_keep x.fr st
    -- of x itself: it crosses one of P just if the top end is ahead of its own
    have key : (∃ y ∈ P, crS y x) ↔ ∃ t ∈ popE x.fr st, t < x.tt := by
      constructor
      · rintro ⟨y, hy, h1, h2, h3, h4⟩
        have := hP y hy x (List.mem_cons_self ..)
        exact ⟨y.tt, hkeep _ (hk y hy x (List.mem_cons_self ..) h2) h2, by omega⟩
      · rintro ⟨t, ht, hlt⟩
        obtain ⟨p, hp, rfl⟩ := hs t (hsub t ht)
        have h1 := hgt _ ht
        have h2 := hP p hp x (List.mem_cons_self ..)
        exact ⟨p, hp, by omega, by omega, by omega, by omega⟩
    have step : ∀ st', UpE st' → (∀ t ∈ st', ∃ p ∈ x :: P, p.tt = t) → (∀ p ∈ x :: P, ∀ y ∈ l, y.fr < p.tt → p.tt ∈ st') → (crGo st' l = true ↔ ∃ z ∈ l, ∃ y, (y ∈ x :: P ∨ y ∈ l) ∧ crS y z) := fun st' h1 h2 h3 =>
      crGo_iff l (x :: P) st' ho.2 (fun y hy => hf y (List.mem_cons_of_mem _ hy)) (fun p hp y hy => by
        rcases List.mem_cons.1 hp with rfl | hp
        · exact ho.1 y hy
        · exact hP p hp y (List.mem_cons_of_mem _ hy)) h1 h2 h3
    have tail : (¬ ∃ y ∈ P, crS y x) → ((∃ z ∈ l, ∃ y, (y ∈ x :: P ∨ y ∈ l) ∧ crS y z) ↔ ∃ z ∈ x :: l, ∃ y, (y ∈ P ∨ y ∈ x :: l) ∧ crS y z) := fun hno => by
      constructor
      · rintro ⟨z, hz, y, hy, hc⟩
        refine ⟨z, List.mem_cons_of_mem _ hz, y, ?_, hc⟩
        rcases hy with hy | hy
        · rcases List.mem_cons.1 hy with rfl | hy
          · exact .inr (List.mem_cons_self ..)
          · exact .inl hy
        · exact .inr (List.mem_cons_of_mem _ hy)
      · rintro ⟨z, hz, y, hy, hc⟩
        rcases List.mem_cons.1 hz with rfl | hz
        · rcases hy with hy | hy
          · exact absurd ⟨y, hy, hc⟩ hno
          · rcases List.mem_cons.1 hy with rfl | hy
            · exact absurd hc (crS_irr _)
            · exact ⟨y, hy, z, .inl (List.mem_cons_self ..), crS_symm hc⟩
        · refine ⟨z, hz, y, ?_, hc⟩
          rcases hy with hy | hy
          · exact .inl (List.mem_cons_of_mem _ hy)
          · rcases List.mem_cons.1 hy with rfl | hy
            · exact .inl (List.mem_cons_self ..)
            · exact .inr hy
    have hk2 : ∀ p ∈ x :: P, ∀ y ∈ l, y.fr < p.tt → p.tt ∈ x.tt :: popE x.fr st := fun p hp y hy hlt => by
      rcases List.mem_cons.1 hp with rfl | hp
      · exact List.mem_cons_self ..
      · have := ho.1 y hy
        exact List.mem_cons_of_mem _ (hkeep _ (hk p hp y (List.mem_cons_of_mem _ hy) hlt) (by omega))
    have hs2 : ∀ t ∈ x.tt :: popE x.fr st, ∃ p ∈ x :: P, p.tt = t := fun t ht => by
      rcases List.mem_cons.1 ht with rfl | ht
      · exact ⟨x, List.mem_cons_self .., rfl⟩
      · obtain ⟨p, hp, e⟩ := hs t (hsub t ht)
        exact ⟨p, List.mem_cons_of_mem _ hp, e⟩
    unfold crGo
    cases hq : popE x.fr st with
    | nil =>
      simp only
      rw [hq] at key hk2 hs2
      have hno : ¬ ∃ y ∈ P, crS y x := fun h => by obtain ⟨t, ht, _⟩ := key.1 h; cases ht
      rw [← tail hno]
      exact step _ ⟨fun u hu => (nomatch hu), trivial⟩ hs2 hk2
    | cons t m =>
      simp only
      rw [hq] at key hup hk2 hs2
      by_cases hlt : t < x.tt
      · rw [if_pos hlt]
        obtain ⟨y, hy, hc⟩ := key.2 ⟨t, List.mem_cons_self .., hlt⟩
        exact ⟨fun _ => ⟨x, List.mem_cons_self .., y, .inl hy, hc⟩, fun _ => rfl⟩
      · rw [if_neg hlt]
        have hno : ¬ ∃ y ∈ P, crS y x := fun h => by
          obtain ⟨u, hu, h2⟩ := key.1 h
          rcases List.mem_cons.1 hu with rfl | hu
          · exact hlt h2
          · have := hup.1 u hu
            omega
        rw [← tail hno]
        refine step _ ⟨fun u hu => ?_, hup⟩ hs2 hk2
        rcases List.mem_cons.1 hu with rfl | hu
        · omega
        · have := hup.1 u hu
          omega
theorem srt_ord : ∀ (l : List Sp), Srt ltS l → OrdS l
  | [], _ => trivial
  | x :: l, h => by
    obtain ⟨h1, h2⟩ := List.pairwise_cons.1 h
    refine ⟨fun y hy => ?_, srt_ord l h2⟩
    have := (ltS_false y x).1 (h1 y hy)
    omega
theorem isort_mem {α : Type} (lt : α → α → Bool) (z : α) : ∀ (r : List α), z ∈ isort lt r.reverse ↔ z ∈ r
  | [] => by simp [isort]
  | x :: r => by
    rw [List.reverse_cons, isort_snoc, mg_mem, isort_mem lt z r]
    rw [List.mem_singleton, List.mem_cons]
    exact Or.comm
theorem isort_mems {α : Type} (lt : α → α → Bool) (z : α) (l : List α) : z ∈ isort lt l ↔ z ∈ l := by
  have := isort_mem lt z l.reverse
  rw [List.reverse_reverse] at this
  rw [this, List.mem_reverse]
/-- Does the program find spans that cross? -/
def crB (D : List Sp) : Bool := crGo [] (isort ltS D)
theorem crB_iff (D : List Sp) (hf : ∀ x ∈ D, x.fr < x.tt) : crB D = true ↔ ∃ x ∈ D, ∃ y ∈ D, crS y x := by
  unfold crB
  rw [crGo_iff (isort ltS D) [] [] (srt_ord _ (isort_sorted swoS D)) (fun x hx => hf x ((isort_mems ltS x D).1 hx)) (fun p hp => by cases hp) trivial (fun t ht => by cases ht) (fun p hp => by cases hp)]
  constructor
  · rintro ⟨x, hx, y, hy, hc⟩
    rcases hy with hy | hy
    · cases hy
    · exact ⟨x, (isort_mems ltS x D).1 hx, y, (isort_mems ltS y D).1 hy, hc⟩
  · rintro ⟨x, hx, y, hy, hc⟩
    exact ⟨x, (isort_mems ltS x D).2 hx, y, .inr ((isort_mems ltS y D).2 hy), hc⟩
end Go.Proofs.YthhhglfcacoejaaGreatDoor

/- style.cross at any row of spans (chapter 7). -/
namespace Go.Proofs.YthhhglfcacoejaaGreatDoor
open Go.RowKit Go.Shelf
attribute [local go_sem] Oper.semAt_some

/-- A stack of ints in a row of one's own: the top stands first in the list, last in memory. -/
def StE (W : World) (base : Nat) (v : Value) (st : List Int) : Prop := W.ownsRow base 3 1 v st.length (st.reverse.map (Value.int .i64))
theorem StE.shape {W : World} {base : Nat} {v : Value} {st : List Int} (h : StE W base v st) : ∃ o cap, v = .slice o st.length cap ∧ (st.length ≤ cap ∧ cap ≤ maxLen) ∧
    ∀ t l, st = t :: l → ∃ g, o = some ⟨g, 0, none⟩ ∧ base ≤ g ∧ g < W.heap.size ∧ W.cell? ⟨g, l.length, none⟩ = some (.int .i64 t) ∧ StE W base (.slice (some ⟨g, 0, none⟩) l.length cap) l := by
  rcases h.2 with ⟨rfl, h0⟩ | ⟨g, cap, cur, rfl, hb, hg, hcn, hcm, hs, h4⟩
  · exact ⟨none, 0, by rw [h0], ⟨by omega, Nat.zero_le _⟩, fun t l e => by rw [e] at h0; simp at h0⟩
  · refine ⟨_, cap, rfl, ⟨hcn, hcm⟩, fun t l e => ?_⟩
    subst e
    rw [List.reverse_cons, List.map_append] at h4
    have hlen : (l.reverse.map (Value.int .i64)).length = l.length := by simp
    have hgl := (Array.getElem?_eq_some_iff.1 hg).1
    refine ⟨g, rfl, hb, hgl, ?_, ?_⟩
    · have h5 : (cur.toList.take ((l.length + 1) * 1))[l.length]? = some (.int .i64 t) := by
        rw [show (t :: l).length = l.length + 1 from rfl] at h4
        rw [h4, List.getElem?_append_right (by omega), hlen, Nat.sub_self]
        rfl
      rw [List.getElem?_take, if_pos (by omega), Array.getElem?_toList] at h5
      simp [World.cell?, hg, h5]
    · refine ⟨by simp, .inr ⟨g, cap, cur, rfl, hb, hg, by simp at hcn; omega, hcm, hs, ?_⟩⟩
      have h6 := congrArg (List.take l.length) h4
      rw [List.take_take, List.take_left' hlen] at h6
      rw [← h6]
      congr 1
      simp
theorem StE.keep {W V : World} {base : Nat} {v : Value} {st : List Int} (h : StE W base v st) (b : Below W.heap.size W V) : StE V base v st := by
  refine ⟨h.1, ?_⟩
  rcases h.2 with hn | ⟨g, cap, cur, rfl, hb, hgg, rest⟩
  · exact .inl hn
  · exact .inr ⟨g, cap, cur, rfl, hb, (b.block g (Array.getElem?_eq_some_iff.1 hgg).1).trans hgg, rest⟩
def lenV : Value → Nat
  | .slice _ n _ => n
  | _ => 0
theorem infoI7 : (Tryz.prog.info? 3).map (fun i => (i.zero, i.size, i.bytes)) = some (some (.int .i64 0), 1, 8) := by kernel_rfl
theorem cell_oneS (w : World) (a : Value) (t : TypeId) : ∀ j u, [a][j]? = some u → (w.alloc (.cells #[a] t)).cell? ((⟨w.heap.size, 0, none⟩ : Addr).add j) = some u := by
  intro j u hj
  cases j with
  | zero =>
    obtain rfl : a = u := by simpa using hj
    unfold World.cell?
    rw [show (⟨w.heap.size, 0, none⟩ : Addr).add 0 = ⟨w.heap.size, 0, none⟩ from rfl, show (w.alloc (.cells #[a] t)).heap[w.heap.size]? = _ from World.alloc_heap_new w _]
    rfl
  | succ j => simp at hj
set_option maxRecDepth 100000 in
set_option maxHeartbeats 2000000 in
theorem cross_any (D : List Sp) (oa : Option Addr) (cap : Nat) (hl : D.length ≤ 5000) (hn : oa = none → D = [] ∧ cap = 0) (w : World) (hR : SpO w oa D) :
    Calls Tryz.prog 107 #[.slice oa D.length cap] w fun e w' => e = .returned (.bool (crB D)) ∧ Below w.heap.size w w' := by
  obtain ⟨i0, hi, hz0, hz1, hz2⟩ := info_parts infoI7
  have HC := hideS (outer_any D oa cap hl hn w hR)
  have hL : (isort ltS D).length = D.length := isort_length ltS D
  unfold crB
  generalize isort ltS D = L at *
  obtain ⟨B, hB⟩ : ∃ B, crGo [] L = B := ⟨_, rfl⟩
  rw [hB]
  have HB0 := hideS hB
  clear hR hn hB
  rw [← hL] at HC hl ⊢
  obtain ⟨N, hN⟩ : ∃ N, L.length = N := ⟨_, rfl⟩
  have HN := hideS hN
  rw [hN] at HC hl ⊢
  clear hN hL
  go_enter Tryz.func107, Tryz.ntmps107
  go_wp2_with fail
  refine HC.out.mono ?_
  rintro e w1 ⟨o, c, rfl, hc, _, _, hS1, b1⟩
  have HS1 := hideS hS1
  have HB1 := hideS b1
  clear HC hS1 b1
  go_wp2_with fail
  go_loopw [3, 9] (fun ev iv wq => ∃ (i : Nat) (st : List Int), iv = .int .i64 (i : Nat) ∧ i ≤ N ∧ st.length ≤ i ∧ StE wq w1.heap.size ev st ∧ crGo st (L.drop i) = B ∧ Below w1.heap.size w1 wq) (fun _ iv _ => N - (intOf iv).toNat)
  case atStart => exact ⟨0, [], rfl, Nat.zero_le _, Nat.le_refl _, World.ownsRow_nil _ _ _ _, HB0.out, Below.refl _ _⟩
  case round =>
    obtain ⟨i, st, rfl, hiN, hst, hE, hgo, hb⟩ := hrel
    obtain ⟨wq, rfl⟩ : ∃ wq, wq = wr := ⟨_, rfl⟩
    by_cases hlt : i < N
    · obtain ⟨x, hx⟩ : ∃ x, L[i]? = some x := ⟨_, List.getElem?_eq_getElem (by rw [HN.out]; exact hlt)⟩
      obtain ⟨a, rfl, hab, c0, c1, c2, c3⟩ := HS1.out.keep hb i x hx
      have hdr : L.drop i = x :: L.drop (i + 1) := by rw [← (List.getElem?_eq_some_iff.1 hx).2]; exact List.drop_eq_getElem_cons (by rw [HN.out]; exact hlt)
      rw [hdr] at hgo
      have d1 : (i : Int) < (N : Int) := by omega
      have wi : IntKind.i64.wrap ((i : Int) + 1) = ((i + 1 : Nat) : Int) := by rw [show ((i + 1 : Nat) : Int) = (i : Int) + 1 by omega]; exact IntWalk.i64_in _ ⟨by omega, by omega⟩
      have HA := hideS (And.intro hE (And.intro hgo hb))
      clear hE hgo hb hx hdr
      go_wp2_with fail
      obtain ⟨V, hV⟩ : ∃ V, wq.alloc (.cells #[.int .i64 x.fr, .int .i64 x.tt, .int .i64 x.kd, .int .i64 x.vl] 138) = V := ⟨_, rfl⟩
      have HV : Hid (Below wq.heap.size wq V) := hideS (by rw [← hV]; exact bel1S _ _)
      have nV : V.heap[wq.heap.size]? = some (.cells #[.int .i64 x.fr, .int .i64 x.tt, .int .i64 x.kd, .int .i64 x.vl] 138) := by rw [← hV]; exact World.alloc_heap_new wq _
      have hVl : wq.heap.size < V.heap.size := (Array.getElem?_eq_some_iff.1 nV).1
      have x0 : V.cell? ⟨wq.heap.size, 0, none⟩ = some (.int .i64 x.fr) := by simp [World.cell?, nV]
      have x1 : V.cell? ⟨wq.heap.size, 1, none⟩ = some (.int .i64 x.tt) := by simp [World.cell?, nV]
      rw [hV]
      have HX := hideS (And.intro x0 x1)
      have HEV := hideS (HA.out.1.keep HV.out)
      clear hV nV c0 c1 c2 c3 x0 x1
      go_loopw [3] (fun ev wz => ∃ st2 : List Int, StE wz w1.heap.size ev st2 ∧ popE x.fr st2 = popE x.fr st ∧ st2.length ≤ st.length ∧ Below V.heap.size V wz) (fun ev _ => lenV ev)
      case atStart => exact ⟨st, HEV.out, rfl, Nat.le_refl _, Below.refl _ _⟩
      case round =>
        obtain ⟨st2, hE2, hp2, hle2, hb2⟩ := hrel
        obtain ⟨wz, rfl⟩ : ∃ wz, wz = wr := ⟨_, rfl⟩
        obtain ⟨ov, cv, rfl, hcv, hsh⟩ := hE2.shape
        have x0 : wz.cell? ⟨wq.heap.size, 0, none⟩ = some (.int .i64 x.fr) := (hb2.cell (p := ⟨wq.heap.size, 0, none⟩) hVl).trans HX.out.1
        have x1 : wz.cell? ⟨wq.heap.size, 1, none⟩ = some (.int .i64 x.tt) := (hb2.cell (p := ⟨wq.heap.size, 1, none⟩) hVl).trans HX.out.2
        cases st2 with
        | nil =>
          have HQ := hideS (And.intro hE2 (And.intro hp2 hb2))
          clear hE2 hp2 hb2 hsh
          simp only [List.length_nil] at *
          have HG : Hid (StE wz w1.heap.size (.slice ov 0 cv) []) := hideS HQ.out.1
          go_wp2_with fail
          go_quiet (fail)
          obtain ⟨wy, hwy⟩ : ∃ wy, wz.drewN nq = wy := ⟨_, rfl⟩
          have W1 : Hid (Below wz.heap.size wz wy) := hideS (by rw [← hwy]; exact below_dnS (Below.refl _ _) nq)
          rw [hwy]
          clear hwy x0 x1
          go_wp2_with fail
          go_quiet (fail)
          obtain ⟨wx, hwx⟩ : ∃ wx, wy.drewN nq = wx := ⟨_, rfl⟩
          have W2 : Hid (Below wz.heap.size wz wx) := hideS (by rw [← hwx]; exact below_dnS W1.out nq)
          rw [hwx]
          clear hwx
          have hb3 : Below V.heap.size V wx := HQ.out.2.2.trans (W2.out.mono HQ.out.2.2.size)
          have x1 : wx.cell? ⟨wq.heap.size, 1, none⟩ = some (.int .i64 x.tt) := (hb3.cell (p := ⟨wq.heap.size, 1, none⟩) hVl).trans HX.out.2
          have HGx : Hid (wx.ownsRow w1.heap.size 3 1 (.slice ov 0 cv) 0 []) := hideS (HG.out.keep W2.out)
          have hb4 : Below w1.heap.size w1 wx := HA.out.2.2.trans ((bupS HV.out hb3).mono HA.out.2.2.size)
          have hs4 := hb4.size
          have HB4 := hideS hb4
          clear hb3 hb4
          go_wp2_with (at_builtin; refine wpList_append_own _ rfl _ _ 195 rfl w1.heap.size 3 i0 (.int .i64 0) 1 8 Tryz.underlying195 hi hz0 hz1 hz2 rfl (by decide) _ _ _ rfl (HGx.out.alloc _) ⟨wx.heap.size, 0, none⟩ 1 1 [.int .i64 x.tt] rfl rfl (cell_oneS _ _ _) (fun u hu => by simp at hu; subst hu; rfl) (by unfold maxLen; omega) (by omega) (by simp; omega) ?_; intro v' w3 hown' hgrow _)
          have hB3 := Below.grown (HB4.out.alloc hs4 (.cells #[.int .i64 x.tt] 3)) hgrow (by simp; omega) (fun j hj => (HGx.out.lt j hj).1)
          go_roundw
          case rel =>
            refine ⟨i + 1, [x.tt], by first | rfl | simp, by omega, by simp, hown', ?_, hB3⟩
            have h7 := HA.out.2.1
            unfold crGo at h7
            have h8 := HQ.out.2.1
            rw [← h8] at h7
            exact h7
          case measure => simp [intOf]; omega
        | cons t l =>
          obtain ⟨g, rfl, hgb, hgl, ct, hE3⟩ := hsh t l rfl
          obtain ⟨m, hm⟩ : ∃ m, l.length = m := ⟨_, rfl⟩
          obtain ⟨M, hM⟩ : ∃ M, (t :: l).length = M := ⟨_, rfl⟩
          have hMm : M = m + 1 := by rw [← hM, ← hm]; rfl
          rw [hm] at ct
          rw [hM] at hcv
          have j1 : (M : Int) - 1 = (m : Int) := by omega
          have j2 : IntKind.i64.wrap (m : Int) = (m : Int) := IntWalk.i64_in _ ⟨by omega, by omega⟩
          have j3 : (0 : Int) < (M : Int) := by omega
          have j4 : (m : Int) < (M : Int) := by omega
          have j5 : (m : Int) ≤ (cv : Int) := by omega
          have j6 : m ≤ cv := by omega
          have j7 : 0 < M := by omega
          have j8 : decide (0 < M) = true := decide_eq_true j7
          have HQ := hideS (And.intro hE2 (And.intro hp2 (And.intro hb2 (And.intro hE3 (And.intro hle2 (And.intro hm (And.intro hM hMm)))))))
          rw [hM]
          clear hE2 hp2 hb2 hsh hE3 hle2 hm hM hMm
          by_cases htx : t ≤ x.fr
          · go_wp2_with fail
            go_quiet (fail)
            go_wp2_with fail
            have hd : Below wz.heap.size wz (wz.drewN nq) := below_dnS (Below.refl _ _) nq
            refine ⟨⟨l, ?_, ?_, ?_, ?_⟩, ?_⟩
            · have h9 := HQ.out.2.2.2.1.keep hd
              rw [HQ.out.2.2.2.2.2.1] at h9
              exact h9
            · rw [← HQ.out.2.1]
              show _ = if t ≤ x.fr then popE x.fr l else t :: l
              rw [if_pos htx]
            · have := HQ.out.2.2.2.2.1
              simp at this
              omega
            · exact HQ.out.2.2.1.trans (hd.mono HQ.out.2.2.1.size)
            · show m < M
              omega
          · have htx2 : decide (t ≤ x.fr) = false := decide_eq_false htx
            go_wp2_with fail
            go_quiet (fail)
            obtain ⟨wy, hwy⟩ : ∃ wy, wz.drewN nq = wy := ⟨_, rfl⟩
            have W1 : Hid (Below wz.heap.size wz wy) := hideS (by rw [← hwy]; exact below_dnS (Below.refl _ _) nq)
            rw [hwy]
            have hby : Below V.heap.size V wy := HQ.out.2.2.1.trans (W1.out.mono HQ.out.2.2.1.size)
            have y1 : wy.cell? ⟨wq.heap.size, 1, none⟩ = some (.int .i64 x.tt) := (hby.cell (p := ⟨wq.heap.size, 1, none⟩) hVl).trans HX.out.2
            have yt : wy.cell? ⟨g, m, none⟩ = some (.int .i64 t) := (W1.out.cell (p := ⟨g, m, none⟩) hgl).trans ct
            clear hwy x0 x1 ct hby
            by_cases hcr : t < x.tt
            · go_wp2_with fail
              go_quiet (fail)
              go_wp2_with fail
              go_ret
              have hd : Below wy.heap.size wy (wy.drewN nq) := below_dnS (Below.refl _ _) nq
              have h7 := HA.out.2.1
              have h8 : popE x.fr st = t :: l := by
                rw [← HQ.out.2.1]
                show (if t ≤ x.fr then popE x.fr l else t :: l) = _
                rw [if_neg (by omega)]
              unfold crGo at h7
              rw [h8] at h7
              simp only at h7
              rw [if_pos hcr] at h7
              refine ⟨?_, ?_⟩
              · rw [← h7]
                rfl
              · have h9 : Below V.heap.size V (wy.drewN nq) := (HQ.out.2.2.1.trans (W1.out.mono HQ.out.2.2.1.size)).trans (hd.mono (Nat.le_trans HQ.out.2.2.1.size W1.out.size))
                exact HB1.out.trans ((HA.out.2.2.trans ((bupS HV.out h9).mono HA.out.2.2.size)).mono HB1.out.size)
            · go_wp2_with fail
              go_quiet (fail)
              obtain ⟨wx, hwx⟩ : ∃ wx, wy.drewN nq = wx := ⟨_, rfl⟩
              have W2 : Hid (Below wz.heap.size wz wx) := hideS (by rw [← hwx]; exact below_dnS W1.out nq)
              rw [hwx]
              clear hwx
              have hb3 : Below V.heap.size V wx := HQ.out.2.2.1.trans (W2.out.mono HQ.out.2.2.1.size)
              have x1 : wx.cell? ⟨wq.heap.size, 1, none⟩ = some (.int .i64 x.tt) := (hb3.cell (p := ⟨wq.heap.size, 1, none⟩) hVl).trans HX.out.2
              have HGx : Hid (wx.ownsRow w1.heap.size 3 1 (.slice (some ⟨g, 0, none⟩) M cv) M ((t :: l).reverse.map (Value.int .i64))) := hideS (by have h9 := HQ.out.1.keep W2.out; unfold StE at h9; rw [HQ.out.2.2.2.2.2.2.1] at h9; exact h9)
              have hb4 : Below w1.heap.size w1 wx := HA.out.2.2.trans ((bupS HV.out hb3).mono HA.out.2.2.size)
              have hs4 := hb4.size
              have hM5 : M ≤ 5000 := by have := HQ.out.2.2.2.2.1; rw [HQ.out.2.2.2.2.2.2.1] at this; omega
              have HB4 := hideS hb4
              clear hb3 hb4 y1 yt
              go_wp2_with (at_builtin; refine wpList_append_own _ rfl _ _ 195 rfl w1.heap.size 3 i0 (.int .i64 0) 1 8 Tryz.underlying195 hi hz0 hz1 hz2 rfl (by decide) _ _ _ rfl (HGx.out.alloc _) ⟨wx.heap.size, 0, none⟩ 1 1 [.int .i64 x.tt] rfl rfl (cell_oneS _ _ _) (fun u hu => by simp at hu; subst hu; rfl) (by unfold maxLen; omega) (by omega) (by simp; omega) ?_; intro v' w3 hown' hgrow _)
              have hB3 := Below.grown (HB4.out.alloc hs4 (.cells #[.int .i64 x.tt] 3)) hgrow (by simp; omega) (fun j hj => (HGx.out.lt j hj).1)
              refine ⟨⟨i + 1, x.tt :: t :: l, by first | rfl | simp, by omega, ?_, ?_, ?_, hB3⟩, by simp [intOf]; omega⟩
              · have := HQ.out.2.2.2.2.1
                simp at this ⊢
                omega
              · unfold StE
                have e1 : (x.tt :: t :: l).length = M + 1 := by rw [← HQ.out.2.2.2.2.2.2.1]; rfl
                have e2 : (x.tt :: t :: l).reverse.map (Value.int .i64) = (t :: l).reverse.map (Value.int .i64) ++ [.int .i64 x.tt] := by rw [List.reverse_cons, List.map_append]; rfl
                rw [e1, e2]
                exact hown'
              · have h7 := HA.out.2.1
                have h8 : popE x.fr st = t :: l := by
                  rw [← HQ.out.2.1]
                  show (if t ≤ x.fr then popE x.fr l else t :: l) = _
                  rw [if_neg (by omega)]
                unfold crGo at h7
                rw [h8] at h7
                simp only at h7
                rw [if_neg (by omega)] at h7
                exact h7
    · have d1 : ¬ (i : Int) < (N : Int) := by omega
      have hnil : L.drop i = [] := List.drop_eq_nil_of_le (by rw [HN.out]; omega)
      rw [hnil] at hgo
      have HA := hideS (And.intro hgo hb)
      clear hgo hb hE hnil
      go_wp2_with fail
      go_ret
      refine ⟨?_, HB1.out.trans (HA.out.2.mono HB1.out.size)⟩
      rw [← HA.out.1]
      rfl
end Go.Proofs.YthhhglfcacoejaaGreatDoor

/- A region that draws its order, with calls that only grow the memory: one walk of the lexical order serves every order. -/
namespace Go.Proofs.YthhhglfcacoejaaGreatDoor
open Go.RowKit

/-- A world that has grown out of another one. -/
structure GrownQ (W : World) where
  V : World
  h : Below W.heap.size W V
instance (W : World) : Nonempty (GrownQ W) := ⟨⟨W, Below.refl _ _⟩⟩
theorem region_grown {P : Program} {id : Nat} {Q : Exit → Act → World → Prop} {a : Act} {lst : List Oper} (W : World) (w : World) (hm : P.follows .mixedOrders = true) (hB : Region.lexB .any lst.toArray = true)
    (hb : Below W.heap.size W w) (h : wpQuiet P lst.toArray (fun V => ∃ q : GrownQ W, V = q.V) (fun a' => ∀ w', (∃ q : GrownQ W, w' = q.V) → Q .normal a' w') lst a) : (Code.region id lst.toArray true).wp P Q a w :=
  wp_region_quiet (C := fun V => ∃ q : GrownQ W, V = q.V) hm hB ⟨⟨w.drewN 1, below_dnS hb 1⟩, rfl⟩ h
end Go.Proofs.YthhhglfcacoejaaGreatDoor

/- style.count, style.Check at every text (chapter 7). -/
namespace Go.Proofs.YthhhglfcacoejaaGreatDoor
open Go.RowKit Go.Shelf
attribute [local go_sem] Oper.semAt_some

set_option maxRecDepth 100000 in
set_option maxHeartbeats 400000 in
theorem count7_any (s : ByteArray) (w : World) (_hs : s.size ≤ 140737488355328) : Calls Tryz.prog 106 #[.string s] w fun e w' => e = .returned (.int .i64 (signs s).length) ∧ Below w.heap.size w w' := by
  go_enter Tryz.func106, Tryz.ntmps106
  go_wp2
  go_loopw [3] (fun n w' => ∃ (pos b : Nat) (acc : Nat), w' = w.iter s pos ∧ n = .int .i64 acc ∧ acc + (sgns s b pos).length = (signs s).length ∧ s.size ≤ pos + b ∧ acc ≤ pos) (fun _ w' => s.size - w'.iterPos w.heap.size)
  case atStart => exact ⟨0, s.size, 0, rfl, rfl, by simp [signs], by omega, by omega⟩
  case round =>
    obtain ⟨pos, b, acc, rfl, rfl, hc, hb, ha⟩ := hrel
    have HC : Hid (acc + (sgns s b pos).length = (signs s).length) := hc
    clear hc
    by_cases hp : pos < s.size
    · have hnx : ∀ ty, (Instr.next (.pointer (some ⟨w.heap.size, 0, none⟩)) true ty).run Tryz.prog (w.iter s pos) = _ := fun ty => run_next_any w s pos ty hp
      go_wp2
      have hwd := Lib.decode_width_pos s pos hp
      go_roundw
      case rel =>
        cases b with
        | zero => omega
        | succ b =>
          refine ⟨pos + (Utf8.decode s pos).2, b, acc + 1, rfl, by go_num, ?_, by omega, by omega⟩
          have := HC.out
          rw [sgns, if_pos hp] at this
          simp at this
          omega
      case measure =>
        simp
        omega
    · have hnx : ∀ ty, (Instr.next (.pointer (some ⟨w.heap.size, 0, none⟩)) true ty).run Tryz.prog (w.iter s pos) = _ := fun ty => run_next_end w s pos ty hp
      go_wp2
      go_ret
      have := HC.out
      rw [sgns_end s b pos hp] at this
      simp at this
      subst this
      exact ⟨rfl, (Below.refl _ w).alloc (Nat.le_refl _) _⟩
/-- What is wrong with a text: 0: nothing. -/
def chkT (s : ByteArray) (D : List Sp) : Int := if 4096 < s.size then 3 else if 256 < D.length then 2 else if allB D (signs s).length = true ∧ crB D = false then 0 else 23
theorem two_cellsA (w : World) (a b : Value) (t : TypeId) : (w.alloc (.cells #[a, b] t)).cell? ⟨w.heap.size, 0, none⟩ = some a := by
  unfold World.cell?
  rw [show (w.alloc (.cells #[a, b] t)).heap[w.heap.size]? = _ from World.alloc_heap_new w _]
  rfl
theorem two_cellsB (w : World) (a b : Value) (t : TypeId) : (w.alloc (.cells #[a, b] t)).cell? ⟨w.heap.size, 1, none⟩ = some b := by
  unfold World.cell?
  rw [show (w.alloc (.cells #[a, b] t)).heap[w.heap.size]? = _ from World.alloc_heap_new w _]
  rfl
set_option maxRecDepth 100000 in
set_option maxHeartbeats 2000000 in
theorem check7_any (s : ByteArray) (D : List Sp) (oa : Option Addr) (cap : Nat) (hs : s.size ≤ 140737488355328) (hc : D.length ≤ cap ∧ cap ≤ maxLen) (hn : oa = none → D = [] ∧ cap = 0) (w : World) (hR : SpO w oa D) :
    Calls Tryz.prog 83 #[.agg #[.string s, .slice oa D.length cap]] w fun e w' => e = .returned (.int .i64 (chkT s D)) ∧ Below w.heap.size w w' := by
  obtain ⟨N, hN⟩ : ∃ N, D.length = N := ⟨_, rfl⟩
  have hmx : maxLen ≤ 9223372036854775807 := by decide
  unfold chkT
  by_cases h1 : 4096 < s.size
  · rw [if_pos h1]
    have d1 : (4096 : Int) < (s.size : Int) := by omega
    have c0 := two_cellsA w (.string s) (.slice oa D.length cap) 52
    go_enter Tryz.func83, Tryz.ntmps83
    go_wp2_with fail
    go_ret
    exact ⟨rfl, bel1S _ _⟩
  · rw [if_neg h1]
    have d1 : ¬ (4096 : Int) < (s.size : Int) := by omega
    by_cases h2 : 256 < D.length
    · rw [if_pos h2]
      rw [hN] at *
      have d2 : (256 : Int) < (N : Int) := by omega
      have c0 := two_cellsA w (.string s) (.slice oa N cap) 52
      have c1 := two_cellsB w (.string s) (.slice oa N cap) 52
      go_enter Tryz.func83, Tryz.ntmps83
      go_wp2_with fail
      go_ret
      exact ⟨rfl, bel1S _ _⟩
    · rw [if_neg h2]
      obtain ⟨K, hK⟩ : ∃ K : Nat, (signs s).length = K := ⟨_, rfl⟩
      have HCt := hideS (fun W => count7_any s W hs)
      rw [hK] at HCt ⊢
      obtain ⟨A, hA⟩ : ∃ A, allB D K = A := ⟨_, rfl⟩
      obtain ⟨C, hC⟩ : ∃ C, crB D = C := ⟨_, rfl⟩
      have HAl := hideS (fun (W : World) (h : Below w.heap.size w W) => allFit_any D oa cap K hc W (hR.keep h))
      have HCr := hideS (fun (W : World) (h : Below w.heap.size w W) => cross_any D oa cap (by omega) hn W (hR.keep h))
      rw [hA] at HAl ⊢
      rw [hC] at HCr ⊢
      rw [hN] at HAl HCr hc h2 ⊢
      have d2 : ¬ (256 : Int) < (N : Int) := by omega
      clear hR hA hC hN hK hn
      obtain ⟨R, hRv⟩ : ∃ R : Int, (if A = true ∧ C = false then 0 else 23) = R := ⟨_, rfl⟩
      rw [hRv]
      have HRv := hideS hRv
      clear hRv
      go_enter Tryz.func83, Tryz.ntmps83
      go_wp2_with fail
      have c0 := two_cellsA w (.string s) (.slice oa N cap) 52
      have c1 := two_cellsB w (.string s) (.slice oa N cap) 52
      have bb := bel1S w (.cells #[.string s, .slice oa N cap] 52)
      have hz : w.heap.size < (w.alloc (.cells #[.string s, .slice oa N cap] 52)).heap.size := by simp
      generalize w.alloc (.cells #[.string s, .slice oa N cap] 52) = V at *
      have HBb := hideS bb
      clear bb
      have q0 : ∀ q : GrownQ V, q.V.cell? ⟨w.heap.size, 0, none⟩ = some (.string s) := fun q => (q.h.cell (p := ⟨w.heap.size, 0, none⟩) hz).trans c0
      have q1 : ∀ q : GrownQ V, q.V.cell? ⟨w.heap.size, 1, none⟩ = some (.slice oa N cap) := fun q => (q.h.cell (p := ⟨w.heap.size, 1, none⟩) hz).trans c1
      clear c0 c1
      cases A with
      | false =>
        rw [if_neg (fun h => by cases h.1)] at HRv
        obtain rfl := HRv.out
        refine region_grown V V (by kernel_rfl) (by kernel_rfl) (Below.refl _ _) ?_
        repeat (go_big_quiet_step (first
          | (go_at_call 106; rename_i q; (with_reducible refine (HCt.out _).mono ?_); rintro e V1 ⟨rfl, h1⟩; exact ⟨rfl, ⟨V1, q.h.trans (h1.mono q.h.size)⟩, rfl⟩)
          | (go_at_call 105; rename_i q; (with_reducible refine (HAl.out _ (HBb.out.trans (q.h.mono HBb.out.size))).mono ?_); rintro e V1 ⟨rfl, h1⟩; exact ⟨rfl, ⟨V1, q.h.trans (h1.mono q.h.size)⟩, rfl⟩)
          | (go_at_call 107; rename_i q; (with_reducible refine (HCr.out _ (HBb.out.trans (q.h.mono HBb.out.size))).mono ?_); rintro e V1 ⟨rfl, h1⟩; exact ⟨rfl, ⟨V1, q.h.trans (h1.mono q.h.size)⟩, rfl⟩)))
        refine wpQuiet_nil ?_
        rintro W3 ⟨⟨V3, hb3⟩, hv3⟩
        have hv3 : W3 = V3 := hv3
        subst hv3
        have B3 := hideS (HBb.out.trans (hb3.mono HBb.out.size))
        clear hv3 hb3
        go_wp2_with fail
        go_ret
        exact ⟨rfl, B3.out⟩
      | true =>
        cases C with
        | true =>
          rw [if_neg (fun h => by cases h.2)] at HRv
          obtain rfl := HRv.out
          refine region_grown V V (by kernel_rfl) (by kernel_rfl) (Below.refl _ _) ?_
          repeat (go_big_quiet_step (first
            | (go_at_call 106; rename_i q; (with_reducible refine (HCt.out _).mono ?_); rintro e V1 ⟨rfl, h1⟩; exact ⟨rfl, ⟨V1, q.h.trans (h1.mono q.h.size)⟩, rfl⟩)
            | (go_at_call 105; rename_i q; (with_reducible refine (HAl.out _ (HBb.out.trans (q.h.mono HBb.out.size))).mono ?_); rintro e V1 ⟨rfl, h1⟩; exact ⟨rfl, ⟨V1, q.h.trans (h1.mono q.h.size)⟩, rfl⟩)
            | (go_at_call 107; rename_i q; (with_reducible refine (HCr.out _ (HBb.out.trans (q.h.mono HBb.out.size))).mono ?_); rintro e V1 ⟨rfl, h1⟩; exact ⟨rfl, ⟨V1, q.h.trans (h1.mono q.h.size)⟩, rfl⟩)))
          refine wpQuiet_nil ?_
          rintro W3 ⟨⟨V3, hb3⟩, hv3⟩
          have hv3 : W3 = V3 := hv3
          subst hv3
          have B3 := hideS (HBb.out.trans (hb3.mono HBb.out.size))
          clear hv3 hb3
          go_wp2_with fail
          go_ret
          exact ⟨rfl, B3.out⟩
        | false =>
          rw [if_pos ⟨rfl, rfl⟩] at HRv
          obtain rfl := HRv.out
          refine region_grown V V (by kernel_rfl) (by kernel_rfl) (Below.refl _ _) ?_
          repeat (go_big_quiet_step (first
            | (go_at_call 106; rename_i q; (with_reducible refine (HCt.out _).mono ?_); rintro e V1 ⟨rfl, h1⟩; exact ⟨rfl, ⟨V1, q.h.trans (h1.mono q.h.size)⟩, rfl⟩)
            | (go_at_call 105; rename_i q; (with_reducible refine (HAl.out _ (HBb.out.trans (q.h.mono HBb.out.size))).mono ?_); rintro e V1 ⟨rfl, h1⟩; exact ⟨rfl, ⟨V1, q.h.trans (h1.mono q.h.size)⟩, rfl⟩)
            | (go_at_call 107; rename_i q; (with_reducible refine (HCr.out _ (HBb.out.trans (q.h.mono HBb.out.size))).mono ?_); rintro e V1 ⟨rfl, h1⟩; exact ⟨rfl, ⟨V1, q.h.trans (h1.mono q.h.size)⟩, rfl⟩)))
          refine wpQuiet_nil ?_
          rintro W3 ⟨⟨V3, hb3⟩, hv3⟩
          have hv3 : W3 = V3 := hv3
          subst hv3
          have B3 := hideS (HBb.out.trans (hb3.mono HBb.out.size))
          clear hv3 hb3
          go_wp2_with fail
          go_ret
          exact ⟨rfl, B3.out⟩
end Go.Proofs.YthhhglfcacoejaaGreatDoor
