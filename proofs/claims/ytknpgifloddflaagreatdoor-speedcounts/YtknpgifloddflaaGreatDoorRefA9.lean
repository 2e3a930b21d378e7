/- The contract of surtitleref3.Div. -/
import Derived.Test.YtknpgifloddflaaGreatDoorRefA8
import Derived.Deep.RegionHeld3
namespace Go.Proofs.YtknpgifloddflaaGreatDoor
open Go.RowKit Go.Shelf
attribute [local go_sem] Oper.semAt_some

theorem s33 {V : World} {A B : Nat} {n n2 : Bool} {h l h2 l2 : Int} (t : Tri V A n h l) (u : Tri V B n2 h2 l2) : V.cell? ⟨A, 0, none⟩ = some (.bool n) ∧ V.cell? ⟨A, 1, none⟩ = some (.int .u64 h) ∧ V.cell? ⟨A, 2, none⟩ = some (.int .u64 l) ∧ V.cell? ⟨B, 0, none⟩ = some (.bool n2) ∧ V.cell? ⟨B, 1, none⟩ = some (.int .u64 h2) ∧ V.cell? ⟨B, 2, none⟩ = some (.int .u64 l2) :=
  ⟨t.2.1, t.2.2.1, t.2.2.2.1, u.2.1, u.2.2.1, u.2.2.2.1⟩
set_option maxRecDepth 100000 in
set_option maxHeartbeats 1000000 in
theorem rdiv_zero (an ad bd : Int)
    (HB : ∀ w, Calls Tryz.prog 33 #[.agg #[.int .i64 an, .int .i64 ad], .agg #[.int .i64 0, .int .i64 bd]] w fun e w' => e = .returned (.bool true) ∧ Below w.heap.size w w') (w : World) :
    Calls Tryz.prog 17 #[.agg #[.int .i64 an, .int .i64 ad], .agg #[.int .i64 0, .int .i64 bd]] w fun e w' => e = .returned (.tuple #[.agg #[.int .i64 0, .int .i64 0], .int .i64 11]) ∧ Below w.heap.size w w' := by
  have HB := hideR HB
  go_enter Tryz.func17, Tryz.ntmps17
  go_wp2_with fail
  go_at_call 33
  refine Calls.mono (HB.out _) ?_
  rintro e w1 ⟨rfl, b1⟩
  have S1 := (Three.new w an ad 0 bd 0 0 26).keep b1
  have B1 := bup (bel3 w _ _ _) b1
  clear b1
  obtain ⟨⟨_, a0, a1, _, _⟩, ⟨_, p0, p1, _, _⟩, ⟨_, c0, c1, cf0, cf1⟩⟩ := id S1
  go_wp2_with fail
  exact bodyPost_ret (v := .tuple #[.agg #[.int .i64 0, .int .i64 0], .int .i64 11]) (by simp [results, Tryz.results17, go_sem, c0, c1]) rfl ⟨rfl, (B1.setCell (by simp; omega) _).setCell (by simp; omega) _⟩

set_option maxRecDepth 100000 in
set_option maxHeartbeats 1000000 in
theorem rdiv_walk (an ad bn bd : Int) (nn dn un vn : Bool) (nh nl dh dl : Int) (r : Rt × Int) (h0 : ¬ bn = 0) (hd : (dn = true ∧ un = !nn) ∨ (dn = false ∧ nn = un))
    (HB : ∀ w, Calls Tryz.prog 33 #[.agg #[.int .i64 an, .int .i64 ad], .agg #[.int .i64 bn, .int .i64 bd]] w fun e w' => e = .returned (.bool true) ∧ Below w.heap.size w w')
    (HN : ∀ w, Calls Tryz.prog 34 #[.int .i64 an, .int .i64 bd] w fun e w' => e = .returned (.agg #[.bool nn, .int .u64 nh, .int .u64 nl]) ∧ Below w.heap.size w w')
    (HD : ∀ w, Calls Tryz.prog 34 #[.int .i64 ad, .int .i64 bn] w fun e w' => e = .returned (.agg #[.bool dn, .int .u64 dh, .int .u64 dl]) ∧ Below w.heap.size w w')
    (HR : ∀ w, Calls Tryz.prog 36 #[.agg #[.bool un, .int .u64 nh, .int .u64 nl]] w fun e w' => e = .returned (.agg #[.bool vn, .int .u64 nh, .int .u64 nl]) ∧ Below w.heap.size w w')
    (HL : ∀ w, Calls Tryz.prog 35 #[.agg #[.bool vn, .int .u64 nh, .int .u64 nl], .agg #[.bool false, .int .u64 dh, .int .u64 dl]] w fun e w' => e = .returned (.tuple #[rtv r.1, .int .i64 r.2]) ∧ Below w.heap.size w w') (w : World) :
    Calls Tryz.prog 17 #[.agg #[.int .i64 an, .int .i64 ad], .agg #[.int .i64 bn, .int .i64 bd]] w fun e w' => e = .returned (.tuple #[rtv r.1, .int .i64 r.2]) ∧ Below w.heap.size w w' := by
  simp only [rtv] at *
  have HB := hideR HB
  have HN := hideR HN
  have HD := hideR HD
  have HR := hideR HR
  have HL := hideR HL
  rcases hd with ⟨rfl, rfl⟩ | ⟨rfl, rfl⟩
  · go_enter Tryz.func17, Tryz.ntmps17
    go_wp2_with fail
    go_at_call 33
    refine Calls.mono (HB.out _) ?_
    rintro e w1 ⟨rfl, b1⟩
    have S1 := (Three.new w an ad bn bd 0 0 26).keep b1
    have B1 := bup (bel3 w _ _ _) b1
    clear b1
    obtain ⟨⟨_, a0, a1, _, _⟩, ⟨_, p0, p1, _, _⟩, ⟨_, c0, c1, cf0, cf1⟩⟩ := id S1
    go_wp2_with fail
    go_at_call 34
    refine Calls.mono (HN.out _) ?_
    rintro e w2 ⟨rfl, b2⟩
    have zz : w.heap.size + 1 + 1 < w2.heap.size := (S1.keep b2).2.2.1
    have S2 := (S1.keep b2).alloc (.cells #[.bool nn, .int .u64 nh, .int .u64 nl] 74)
    have N2 := Tri.new w2 nn nh nl 74
    have B2 := bup (bup B1 b2) (bel1 w2 (.cells #[.bool nn, .int .u64 nh, .int .u64 nl] 74))
    clear S1 B1 b2 a0 a1 p0 p1 c0 c1 cf0 cf1
    obtain ⟨⟨_, a0, a1, _, _⟩, ⟨_, p0, p1, _, _⟩, _⟩ := id S2
    go_wp2_with fail
    go_at_call 34
    refine Calls.mono (HD.out _) ?_
    rintro e w3 ⟨rfl, b3⟩
    have z3 : w2.heap.size < w3.heap.size := (N2.keep b3).1
    have N3 := N2.keep b3
    have R3 := (S2.keep b3).2.2
    have B3 := bup B2 b3
    have R4 := (R3.put1 (S := w2.heap.size) (i := 0) (v := .bool (!nn)) (by omega)).alloc (.cells #[.bool false, .int .u64 dh, .int .u64 dl] 74)
    have N4 := ((N3.set0 (n2 := !nn))).alloc (.cells #[.bool false, .int .u64 dh, .int .u64 dl] 74)
    have D4 := (Tri.new (w3.setCell ⟨w2.heap.size, 0, none⟩ (.bool (!nn))) false dh dl 74).at (R2 := w3.heap.size) (by simp)
    have B4 := bup (B3.setCell (p := ⟨w2.heap.size, 0, none⟩) (by simp; omega) (.bool (!nn))) (bel1 (w3.setCell ⟨w2.heap.size, 0, none⟩ (.bool (!nn))) (.cells #[.bool false, .int .u64 dh, .int .u64 dl] 74))
    obtain ⟨_, n0, n1, n2, n3, n4, n5⟩ := id N3
    clear S2 N2 B2 b3 a0 a1 p0 p1 N3 R3 B3
    have SC := s33 N4 D4
    go_wp2_with fail
    go_region_held3 (fun w' => w'.cell? ⟨w2.heap.size, 0, none⟩ = some (.bool (!nn)) ∧ w'.cell? ⟨w2.heap.size, 1, none⟩ = some (.int .u64 nh) ∧ w'.cell? ⟨w2.heap.size, 2, none⟩ = some (.int .u64 nl) ∧ w'.cell? ⟨w3.heap.size, 0, none⟩ = some (.bool false) ∧ w'.cell? ⟨w3.heap.size, 1, none⟩ = some (.int .u64 dh) ∧ w'.cell? ⟨w3.heap.size, 2, none⟩ = some (.int .u64 dl)) (first | assumption | exact s33 ((N6.other (by omega)).other (by omega)) ((D6.other (by omega)).other (by omega)) | go_keep)
      (first | (go_at_call 36; refine (HR.out _).mono ?_; rintro e w5 ⟨rfl, b5⟩; have R5 := R4.drew.keep b5; have N5 := N4.drew.keep b5; have D5 := D4.drew.keep b5; have S5 := s33 N5 D5) | (go_at_call 35; refine (HL.out _).mono ?_; rintro e w6 ⟨rfl, b6⟩; have R6 := R5.keep b6; have N6 := N5.keep b6; have D6 := D5.keep b6; have S6 := s33 N6 D6; obtain ⟨_, k0, k1, k2, k3⟩ := id R6))
    all_goals (try go_wp2_with fail)
    all_goals exact bodyPost_ret (v := .tuple #[.agg #[.int .i64 r.1.N, .int .i64 r.1.D], .int .i64 r.2]) (by simp [results, Tryz.results17, go_sem, k0, k1]) rfl ⟨rfl, ((bup (bup B4.drew b5) b6).setCell (by simp; omega) _).setCell (by simp; omega) _⟩
  · go_enter Tryz.func17, Tryz.ntmps17
    go_wp2_with fail
    go_at_call 33
    refine Calls.mono (HB.out _) ?_
    rintro e w1 ⟨rfl, b1⟩
    have S1 := (Three.new w an ad bn bd 0 0 26).keep b1
    have B1 := bup (bel3 w _ _ _) b1
    clear b1
    obtain ⟨⟨_, a0, a1, _, _⟩, ⟨_, p0, p1, _, _⟩, ⟨_, c0, c1, cf0, cf1⟩⟩ := id S1
    go_wp2_with fail
    go_at_call 34
    refine Calls.mono (HN.out _) ?_
    rintro e w2 ⟨rfl, b2⟩
    have zz : w.heap.size + 1 + 1 < w2.heap.size := (S1.keep b2).2.2.1
    have S2 := (S1.keep b2).alloc (.cells #[.bool nn, .int .u64 nh, .int .u64 nl] 74)
    have N2 := Tri.new w2 nn nh nl 74
    have B2 := bup (bup B1 b2) (bel1 w2 (.cells #[.bool nn, .int .u64 nh, .int .u64 nl] 74))
    clear S1 B1 b2 a0 a1 p0 p1 c0 c1 cf0 cf1
    obtain ⟨⟨_, a0, a1, _, _⟩, ⟨_, p0, p1, _, _⟩, _⟩ := id S2
    go_wp2_with fail
    go_at_call 34
    refine Calls.mono (HD.out _) ?_
    rintro e w3 ⟨rfl, b3⟩
    have z3 : w2.heap.size < w3.heap.size := (N2.keep b3).1
    have N3 := N2.keep b3
    have R3 := (S2.keep b3).2.2
    have B3 := bup B2 b3
    have R4 := R3.alloc (.cells #[.bool false, .int .u64 dh, .int .u64 dl] 74)
    have N4 := N3.alloc (.cells #[.bool false, .int .u64 dh, .int .u64 dl] 74)
    have D4 := Tri.new w3 false dh dl 74
    have B4 := bup B3 (bel1 w3 (.cells #[.bool false, .int .u64 dh, .int .u64 dl] 74))
    clear S2 N2 B2 b3 a0 a1 p0 p1 N3 R3 B3
    have SC := s33 N4 D4
    go_wp2_with fail
    go_region_held3 (fun w' => w'.cell? ⟨w2.heap.size, 0, none⟩ = some (.bool nn) ∧ w'.cell? ⟨w2.heap.size, 1, none⟩ = some (.int .u64 nh) ∧ w'.cell? ⟨w2.heap.size, 2, none⟩ = some (.int .u64 nl) ∧ w'.cell? ⟨w3.heap.size, 0, none⟩ = some (.bool false) ∧ w'.cell? ⟨w3.heap.size, 1, none⟩ = some (.int .u64 dh) ∧ w'.cell? ⟨w3.heap.size, 2, none⟩ = some (.int .u64 dl)) (first | assumption | exact s33 ((N6.other (by omega)).other (by omega)) ((D6.other (by omega)).other (by omega)) | go_keep)
      (first | (go_at_call 36; refine (HR.out _).mono ?_; rintro e w5 ⟨rfl, b5⟩; have R5 := R4.drew.keep b5; have N5 := N4.drew.keep b5; have D5 := D4.drew.keep b5; have S5 := s33 N5 D5) | (go_at_call 35; refine (HL.out _).mono ?_; rintro e w6 ⟨rfl, b6⟩; have R6 := R5.keep b6; have N6 := N5.keep b6; have D6 := D5.keep b6; have S6 := s33 N6 D6; obtain ⟨_, k0, k1, k2, k3⟩ := id R6))
    all_goals (try go_wp2_with fail)
    all_goals exact bodyPost_ret (v := .tuple #[.agg #[.int .i64 r.1.N, .int .i64 r.1.D], .int .i64 r.2]) (by simp [results, Tryz.results17, go_sem, k0, k1]) rfl ⟨rfl, ((bup (bup B4.drew b5) b6).setCell (by simp; omega) _).setCell (by simp; omega) _⟩

theorem rdiv_any (a b : Rt) (ha : RtIn a) (hb : RtIn b) (w : World) :
    Calls Tryz.prog 17 #[rtv a, rtv b] w fun e w' => e = .returned (.tuple #[rtv (divA a b).1, .int .i64 (divA a b).2]) ∧ Below w.heap.size w w' := by
  have HB := rboth_any a b ha hb
  by_cases hr : (rightB a && rightB b) = true
  · obtain ⟨ra, rb⟩ := (both_iff a b).1 hr
    rw [hr] at HB
    by_cases h0 : b.N = 0
    · have e : divA a b = bad 11 := by unfold divA; rw [if_pos hr, if_pos h0]
      rw [e]
      unfold rtv at HB ⊢
      rw [h0] at HB ⊢
      exact rdiv_zero a.N a.D b.D HB w
    · have e : divA a b = low (valQ a / valQ b) := by unfold divA; rw [if_pos hr, if_neg h0]
      have t1 := top_bounds ra rb
      have t2 := top_bounds rb ra
      have s1 := sz_le t1
      have s2 := sz_le t2
      have pa := val_pos a ra
      have HN := rtimes_any a.N b.D ha.1 hb.2
      have HD := rtimes_any a.D b.N ha.2 hb.1
      have ec : b.N * a.D = a.D * b.N := Int.mul_comm _ _
      rw [ec] at s2 t2
      have s0 := sz_nonneg (a.N * b.D)
      rw [e, val_div]
      by_cases hs : b.N < 0
      · have hd : a.D * b.N < 0 := Int.mul_neg_of_pos_of_neg pa hs
        have HR := right_sgn (!decide (a.N * b.D < 0)) (sz (a.N * b.D)) s0 (by omega)
        have e1 : sgnQ (!decide (a.N * b.D < 0)) (sz (a.N * b.D)) = -(a.N * b.D) := by generalize a.N * b.D = z; unfold sgnQ sz; by_cases h : z < 0 <;> simp [h] <;> omega
        rw [e1] at HR
        have HL := rlow_i (-(a.N * b.D)) (-(a.D * b.N)) (by rw [show sz (-(a.N * b.D)) = sz (a.N * b.D) by unfold sz; omega]; omega) (by omega) (by omega)
        rw [Rat.neg_divInt_neg] at HL
        unfold nv at HN HD HR HL
        rw [show sz (-(a.N * b.D)) = sz (a.N * b.D) by unfold sz; omega] at HR HL
        rw [show sz (-(a.D * b.N)) = sz (a.D * b.N) by unfold sz; omega, decide_eq_false (show ¬ -(a.D * b.N) < 0 by omega)] at HL
        exact rdiv_walk a.N a.D b.N b.D _ _ _ _ _ _ _ _ _ h0 (.inl ⟨decide_eq_true hd, rfl⟩) HB HN HD HR HL w
      · have hd : 0 < a.D * b.N := Int.mul_pos pa (by omega)
        have HR := right_sgn (decide (a.N * b.D < 0)) (sz (a.N * b.D)) s0 (by omega)
        rw [sgn_sz] at HR
        have HL := rlow_i (a.N * b.D) (a.D * b.N) (by omega) hd (by omega)
        unfold nv at HN HD HR HL
        rw [decide_eq_false (show ¬ a.D * b.N < 0 by omega)] at HL
        exact rdiv_walk a.N a.D b.N b.D _ _ _ _ _ _ _ _ _ h0 (.inr ⟨decide_eq_false (by omega), rfl⟩) HB HN HD HR HL w
  · have e : divA a b = bad 12 := by unfold divA; rw [if_neg hr]
    rw [e]
    rw [Bool.not_eq_true] at hr
    rw [hr] at HB
    exact rdiv_not a.N a.D b.N b.D HB w
end Go.Proofs.YtknpgifloddflaaGreatDoor
