/- Several texts, one behind the other. -/
import Derived.Deep.RegionHeld3
import Derived.Deep.CutBlock
import Derived.Test.YtipnefaggpigfaaGL
import Derived.Test.YtipnefaggpigfaaKnC
import Derived.Test.YtipnefaggpigfaaQuG
import Derived.Test.YtipnefaggpigfaaRefA8
import Derived.Test.YtipnefaggpigfaaRefB4
/- The contract of surtitleref3.Div. -/
namespace Go.Proofs.Ytipnefaggpigfaa
open Go.RowKit Go.Shelf
attribute [local go_sem] Oper.semAt_some

theorem s33 {V : World} {A B : Nat} {n n2 : Bool} {h l h2 l2 : Int} (t : Tri V A n h l) (u : Tri V B n2 h2 l2) : V.cell? ⟨A, 0, none⟩ = some (.bool n) ∧ V.cell? ⟨A, 1, none⟩ = some (.int .u64 h) ∧ V.cell? ⟨A, 2, none⟩ = some (.int .u64 l) ∧ V.cell? ⟨B, 0, none⟩ = some (.bool n2) ∧ V.cell? ⟨B, 1, none⟩ = some (.int .u64 h2) ∧ V.cell? ⟨B, 2, none⟩ = some (.int .u64 l2) :=
  ⟨t.2.1, t.2.2.1, t.2.2.2.1, u.2.1, u.2.2.1, u.2.2.2.1⟩
set_option maxRecDepth 100000 in
set_option maxHeartbeats 1000000 in
theorem rdiv_zero (an ad bd : Int)
    (HB : ∀ w, Calls Try.prog 62 #[.agg #[.int .i64 an, .int .i64 ad], .agg #[.int .i64 0, .int .i64 bd]] w fun e w' => e = .returned (.bool true) ∧ Below w.heap.size w w') (w : World) :
    Calls Try.prog 60 #[.agg #[.int .i64 an, .int .i64 ad], .agg #[.int .i64 0, .int .i64 bd]] w fun e w' => e = .returned (.tuple #[.agg #[.int .i64 0, .int .i64 0], .int .i64 11]) ∧ Below w.heap.size w w' := by
  have HB := hideR HB
  go_enter Try.func60, Try.ntmps60
  go_wp2_with fail
  go_at_call 62
  refine Calls.mono (HB.out _) ?_
  rintro e w1 ⟨rfl, b1⟩
  have S1 := (Three.new w an ad 0 bd 0 0 42).keep b1
  have B1 := bup (bel3 w _ _ _) b1
  clear b1
  obtain ⟨⟨_, a0, a1, _, _⟩, ⟨_, p0, p1, _, _⟩, ⟨_, c0, c1, cf0, cf1⟩⟩ := id S1
  go_wp2_with fail
  exact bodyPost_ret (v := .tuple #[.agg #[.int .i64 0, .int .i64 0], .int .i64 11]) (by simp [results, Try.results60, go_sem, c0, c1]) rfl ⟨rfl, (B1.setCell (by simp; omega) _).setCell (by simp; omega) _⟩

set_option maxRecDepth 100000 in
set_option maxHeartbeats 1000000 in
theorem rdiv_walk (an ad bn bd : Int) (nn dn un vn : Bool) (nh nl dh dl : Int) (r : Rt × Int) (h0 : ¬ bn = 0) (hd : (dn = true ∧ un = !nn) ∨ (dn = false ∧ nn = un))
    (HB : ∀ w, Calls Try.prog 62 #[.agg #[.int .i64 an, .int .i64 ad], .agg #[.int .i64 bn, .int .i64 bd]] w fun e w' => e = .returned (.bool true) ∧ Below w.heap.size w w')
    (HN : ∀ w, Calls Try.prog 65 #[.int .i64 an, .int .i64 bd] w fun e w' => e = .returned (.agg #[.bool nn, .int .u64 nh, .int .u64 nl]) ∧ Below w.heap.size w w')
    (HD : ∀ w, Calls Try.prog 65 #[.int .i64 ad, .int .i64 bn] w fun e w' => e = .returned (.agg #[.bool dn, .int .u64 dh, .int .u64 dl]) ∧ Below w.heap.size w w')
    (HR : ∀ w, Calls Try.prog 81 #[.agg #[.bool un, .int .u64 nh, .int .u64 nl]] w fun e w' => e = .returned (.agg #[.bool vn, .int .u64 nh, .int .u64 nl]) ∧ Below w.heap.size w w')
    (HL : ∀ w, Calls Try.prog 63 #[.agg #[.bool vn, .int .u64 nh, .int .u64 nl], .agg #[.bool false, .int .u64 dh, .int .u64 dl]] w fun e w' => e = .returned (.tuple #[rtv r.1, .int .i64 r.2]) ∧ Below w.heap.size w w') (w : World) :
    Calls Try.prog 60 #[.agg #[.int .i64 an, .int .i64 ad], .agg #[.int .i64 bn, .int .i64 bd]] w fun e w' => e = .returned (.tuple #[rtv r.1, .int .i64 r.2]) ∧ Below w.heap.size w w' := by
  simp only [rtv] at *
  have HB := hideR HB
  have HN := hideR HN
  have HD := hideR HD
  have HR := hideR HR
  have HL := hideR HL
  rcases hd with ⟨rfl, rfl⟩ | ⟨rfl, rfl⟩
  · go_enter Try.func60, Try.ntmps60
    go_wp2_with fail
    go_at_call 62
    refine Calls.mono (HB.out _) ?_
    rintro e w1 ⟨rfl, b1⟩
    have S1 := (Three.new w an ad bn bd 0 0 42).keep b1
    have B1 := bup (bel3 w _ _ _) b1
    clear b1
    obtain ⟨⟨_, a0, a1, _, _⟩, ⟨_, p0, p1, _, _⟩, ⟨_, c0, c1, cf0, cf1⟩⟩ := id S1
    go_wp2_with fail
    go_at_call 65
    refine Calls.mono (HN.out _) ?_
    rintro e w2 ⟨rfl, b2⟩
    have zz : w.heap.size + 1 + 1 < w2.heap.size := (S1.keep b2).2.2.1
    have S2 := (S1.keep b2).alloc (.cells #[.bool nn, .int .u64 nh, .int .u64 nl] 93)
    have N2 := Tri.new w2 nn nh nl 93
    have B2 := bup (bup B1 b2) (bel1 w2 (.cells #[.bool nn, .int .u64 nh, .int .u64 nl] 93))
    clear S1 B1 b2 a0 a1 p0 p1 c0 c1 cf0 cf1
    obtain ⟨⟨_, a0, a1, _, _⟩, ⟨_, p0, p1, _, _⟩, _⟩ := id S2
    go_wp2_with fail
    go_at_call 65
    refine Calls.mono (HD.out _) ?_
    rintro e w3 ⟨rfl, b3⟩
    have z3 : w2.heap.size < w3.heap.size := (N2.keep b3).1
    have N3 := N2.keep b3
    have R3 := (S2.keep b3).2.2
    have B3 := bup B2 b3
    have R4 := (R3.put1 (S := w2.heap.size) (i := 0) (v := .bool (!nn)) (by omega)).alloc (.cells #[.bool false, .int .u64 dh, .int .u64 dl] 93)
    have N4 := ((N3.set0 (n2 := !nn))).alloc (.cells #[.bool false, .int .u64 dh, .int .u64 dl] 93)
    have D4 := (Tri.new (w3.setCell ⟨w2.heap.size, 0, none⟩ (.bool (!nn))) false dh dl 93).at (R2 := w3.heap.size) (by simp)
    have B4 := bup (B3.setCell (p := ⟨w2.heap.size, 0, none⟩) (by simp; omega) (.bool (!nn))) (bel1 (w3.setCell ⟨w2.heap.size, 0, none⟩ (.bool (!nn))) (.cells #[.bool false, .int .u64 dh, .int .u64 dl] 93))
    obtain ⟨_, n0, n1, n2, n3, n4, n5⟩ := id N3
    clear S2 N2 B2 b3 a0 a1 p0 p1 N3 R3 B3
    have SCd := s33 N4 D4
    go_wp2_with fail
    go_region_held3 (fun w' => w'.cell? ⟨w2.heap.size, 0, none⟩ = some (.bool (!nn)) ∧ w'.cell? ⟨w2.heap.size, 1, none⟩ = some (.int .u64 nh) ∧ w'.cell? ⟨w2.heap.size, 2, none⟩ = some (.int .u64 nl) ∧ w'.cell? ⟨w3.heap.size, 0, none⟩ = some (.bool false) ∧ w'.cell? ⟨w3.heap.size, 1, none⟩ = some (.int .u64 dh) ∧ w'.cell? ⟨w3.heap.size, 2, none⟩ = some (.int .u64 dl)) (first | assumption | exact s33 ((N6.other (by omega)).other (by omega)) ((D6.other (by omega)).other (by omega)) | go_keep)
      (first | (go_at_call 81; refine (HR.out _).mono ?_; rintro e w5 ⟨rfl, b5⟩; have R5 := R4.drew.keep b5; have N5 := N4.drew.keep b5; have D5 := D4.drew.keep b5; have S5 := s33 N5 D5) | (go_at_call 63; refine (HL.out _).mono ?_; rintro e w6 ⟨rfl, b6⟩; have R6 := R5.keep b6; have N6 := N5.keep b6; have D6 := D5.keep b6; have S6 := s33 N6 D6; obtain ⟨_, k0, k1, k2, k3⟩ := id R6))
    all_goals (try go_wp2_with fail)
    all_goals exact bodyPost_ret (v := .tuple #[.agg #[.int .i64 r.1.N, .int .i64 r.1.D], .int .i64 r.2]) (by simp [results, Try.results60, go_sem, k0, k1]) rfl ⟨rfl, ((bup (bup B4.drew b5) b6).setCell (by simp; omega) _).setCell (by simp; omega) _⟩
  · go_enter Try.func60, Try.ntmps60
    go_wp2_with fail
    go_at_call 62
    refine Calls.mono (HB.out _) ?_
    rintro e w1 ⟨rfl, b1⟩
    have S1 := (Three.new w an ad bn bd 0 0 42).keep b1
    have B1 := bup (bel3 w _ _ _) b1
    clear b1
    obtain ⟨⟨_, a0, a1, _, _⟩, ⟨_, p0, p1, _, _⟩, ⟨_, c0, c1, cf0, cf1⟩⟩ := id S1
    go_wp2_with fail
    go_at_call 65
    refine Calls.mono (HN.out _) ?_
    rintro e w2 ⟨rfl, b2⟩
    have zz : w.heap.size + 1 + 1 < w2.heap.size := (S1.keep b2).2.2.1
    have S2 := (S1.keep b2).alloc (.cells #[.bool nn, .int .u64 nh, .int .u64 nl] 93)
    have N2 := Tri.new w2 nn nh nl 93
    have B2 := bup (bup B1 b2) (bel1 w2 (.cells #[.bool nn, .int .u64 nh, .int .u64 nl] 93))
    clear S1 B1 b2 a0 a1 p0 p1 c0 c1 cf0 cf1
    obtain ⟨⟨_, a0, a1, _, _⟩, ⟨_, p0, p1, _, _⟩, _⟩ := id S2
    go_wp2_with fail
    go_at_call 65
    refine Calls.mono (HD.out _) ?_
    rintro e w3 ⟨rfl, b3⟩
    have z3 : w2.heap.size < w3.heap.size := (N2.keep b3).1
    have N3 := N2.keep b3
    have R3 := (S2.keep b3).2.2
    have B3 := bup B2 b3
    have R4 := R3.alloc (.cells #[.bool false, .int .u64 dh, .int .u64 dl] 93)
    have N4 := N3.alloc (.cells #[.bool false, .int .u64 dh, .int .u64 dl] 93)
    have D4 := Tri.new w3 false dh dl 93
    have B4 := bup B3 (bel1 w3 (.cells #[.bool false, .int .u64 dh, .int .u64 dl] 93))
    clear S2 N2 B2 b3 a0 a1 p0 p1 N3 R3 B3
    have SCd := s33 N4 D4
    go_wp2_with fail
    go_region_held3 (fun w' => w'.cell? ⟨w2.heap.size, 0, none⟩ = some (.bool nn) ∧ w'.cell? ⟨w2.heap.size, 1, none⟩ = some (.int .u64 nh) ∧ w'.cell? ⟨w2.heap.size, 2, none⟩ = some (.int .u64 nl) ∧ w'.cell? ⟨w3.heap.size, 0, none⟩ = some (.bool false) ∧ w'.cell? ⟨w3.heap.size, 1, none⟩ = some (.int .u64 dh) ∧ w'.cell? ⟨w3.heap.size, 2, none⟩ = some (.int .u64 dl)) (first | assumption | exact s33 ((N6.other (by omega)).other (by omega)) ((D6.other (by omega)).other (by omega)) | go_keep)
      (first | (go_at_call 81; refine (HR.out _).mono ?_; rintro e w5 ⟨rfl, b5⟩; have R5 := R4.drew.keep b5; have N5 := N4.drew.keep b5; have D5 := D4.drew.keep b5; have S5 := s33 N5 D5) | (go_at_call 63; refine (HL.out _).mono ?_; rintro e w6 ⟨rfl, b6⟩; have R6 := R5.keep b6; have N6 := N5.keep b6; have D6 := D5.keep b6; have S6 := s33 N6 D6; obtain ⟨_, k0, k1, k2, k3⟩ := id R6))
    all_goals (try go_wp2_with fail)
    all_goals exact bodyPost_ret (v := .tuple #[.agg #[.int .i64 r.1.N, .int .i64 r.1.D], .int .i64 r.2]) (by simp [results, Try.results60, go_sem, k0, k1]) rfl ⟨rfl, ((bup (bup B4.drew b5) b6).setCell (by simp; omega) _).setCell (by simp; omega) _⟩

theorem rdiv_any (a b : Rt) (ha : RtIn a) (hb : RtIn b) (w : World) :
    Calls Try.prog 60 #[rtv a, rtv b] w fun e w' => e = .returned (.tuple #[rtv (divA a b).1, .int .i64 (divA a b).2]) ∧ Below w.heap.size w w' := by
  have HB := rboth_any a b ha hb
  by_cases hr : (rightB a && rightB b) = true
  · obtain ⟨ra, rb⟩ := (both_iff a b).1 hr
    rw [hr] at HB
    by_cases h0 : b.N = 0
    · have e : divA a b = bad 11 := by unfold divA; rw [if_pos hr, if_pos h0]
      rw [e]
      unfold rtv at HB ⊢
      rw [h0] at HB ⊢
      exact rdiv_zero a.N a.D b.D HB w
    · have e : divA a b = low (valQ a / valQ b) := by unfold divA; rw [if_pos hr, if_neg h0]
      have t1 := top_bounds ra rb
      have t2 := top_bounds rb ra
      have s1 := sz_le t1
      have s2 := sz_le t2
      have pa := val_pos a ra
      have HN := rtimes_any a.N b.D ha.1 hb.2
      have HD := rtimes_any a.D b.N ha.2 hb.1
      have ec : b.N * a.D = a.D * b.N := Int.mul_comm _ _
      rw [ec] at s2 t2
      have s0 := sz_nonneg (a.N * b.D)
      rw [e, val_div]
      by_cases hs : b.N < 0
      · have hd : a.D * b.N < 0 := Int.mul_neg_of_pos_of_neg pa hs
        have HR := right_sgn (!decide (a.N * b.D < 0)) (sz (a.N * b.D)) s0 (by omega)
        have e1 : sgnQ (!decide (a.N * b.D < 0)) (sz (a.N * b.D)) = -(a.N * b.D) := by generalize a.N * b.D = z; unfold sgnQ sz; by_cases h : z < 0 <;> simp [h] <;> omega
        rw [e1] at HR
        have HL := rlow_i (-(a.N * b.D)) (-(a.D * b.N)) (by rw [show sz (-(a.N * b.D)) = sz (a.N * b.D) by unfold sz; omega]; omega) (by omega) (by omega)
        rw [Rat.neg_divInt_neg] at HL
        unfold nv at HN HD HR HL
        rw [show sz (-(a.N * b.D)) = sz (a.N * b.D) by unfold sz; omega] at HR HL
        rw [show sz (-(a.D * b.N)) = sz (a.D * b.N) by unfold sz; omega, decide_eq_false (show ¬ -(a.D * b.N) < 0 by omega)] at HL
        exact rdiv_walk a.N a.D b.N b.D _ _ _ _ _ _ _ _ _ h0 (.inl ⟨decide_eq_true hd, rfl⟩) HB HN HD HR HL w
      · have hd : 0 < a.D * b.N := Int.mul_pos pa (by omega)
        have HR := right_sgn (decide (a.N * b.D < 0)) (sz (a.N * b.D)) s0 (by omega)
        rw [sgn_sz] at HR
        have HL := rlow_i (a.N * b.D) (a.D * b.N) (by omega) hd (by omega)
        unfold nv at HN HD HR HL
        rw [decide_eq_false (show ¬ a.D * b.N < 0 by omega)] at HL
        exact rdiv_walk a.N a.D b.N b.D _ _ _ _ _ _ _ _ _ h0 (.inr ⟨decide_eq_false (by omega), rfl⟩) HB HN HD HR HL w
  · have e : divA a b = bad 12 := by unfold divA; rw [if_neg hr]
    rw [e]
    rw [Bool.not_eq_true] at hr
    rw [hr] at HB
    exact rdiv_not a.N a.D b.N b.D HB w
end Go.Proofs.Ytipnefaggpigfaa

/- The reference's maps of times: one piece (chapter 6). -/
namespace Go.Proofs.Ytipnefaggpigfaa
open Go.RowKit Go.Shelf

set_option maxRecDepth 100000 in
set_option maxHeartbeats 2000000 in
theorem rslope_walk (x y : Kn) (p0 p1 p2 q0 q1 q2 d0 d1 d2 r0 r1 r2 : Int) (w : World)
    (hr1 : ¬ p2 = 0 → r0 = 0 ∧ r1 = 0 ∧ r2 = p2) (hr2 : p2 = 0 → ¬ q2 = 0 → r0 = 0 ∧ r1 = 0 ∧ r2 = q2) (hr3 : p2 = 0 → q2 = 0 → r0 = d0 ∧ r1 = d1 ∧ r2 = d2)
    (H1 : ∀ W, Calls Try.prog 31 #[.agg #[.int .i64 y.o.N, .int .i64 y.o.D], .agg #[.int .i64 x.o.N, .int .i64 x.o.D]] W fun e w' => e = .returned (.tuple #[.agg #[.int .i64 p0, .int .i64 p1], .int .i64 p2]) ∧ Below W.heap.size W w')
    (H2 : ∀ W, Calls Try.prog 31 #[.agg #[.int .i64 y.i.N, .int .i64 y.i.D], .agg #[.int .i64 x.i.N, .int .i64 x.i.D]] W fun e w' => e = .returned (.tuple #[.agg #[.int .i64 q0, .int .i64 q1], .int .i64 q2]) ∧ Below W.heap.size W w')
    (H3 : ∀ W, Calls Try.prog 60 #[.agg #[.int .i64 p0, .int .i64 p1], .agg #[.int .i64 q0, .int .i64 q1]] W fun e w' => e = .returned (.tuple #[.agg #[.int .i64 d0, .int .i64 d1], .int .i64 d2]) ∧ Below W.heap.size W w') :
    Calls Try.prog 26 #[.agg #[.int .i64 x.i.N, .int .i64 x.i.D, .int .i64 x.o.N, .int .i64 x.o.D], .agg #[.int .i64 y.i.N, .int .i64 y.i.D, .int .i64 y.o.N, .int .i64 y.o.D]] w fun e w' => e = .returned (.tuple #[.agg #[.int .i64 r0, .int .i64 r1], .int .i64 r2]) ∧ Below w.heap.size w w' := by
  have HQ1 := hideK hr1
  have HQ2 := hideK hr2
  have HQ3 := hideK hr3
  replace H1 := hideK H1
  replace H2 := hideK H2
  replace H3 := hideK H3
  clear hr1 hr2 hr3
  go_enter Try.func26, Try.ntmps26
  go_wp2_with fail
  obtain ⟨V, hV⟩ : ∃ V, ((w.alloc (.cells #[.int .i64 x.i.N, .int .i64 x.i.D, .int .i64 x.o.N, .int .i64 x.o.D] 45)).alloc (.cells #[.int .i64 y.i.N, .int .i64 y.i.D, .int .i64 y.o.N, .int .i64 y.o.D] 45)).alloc (.cells #[.int .i64 0, .int .i64 0] 42) = V := ⟨_, rfl⟩
  have HV : Hid (Below w.heap.size w V ∧ V.heap[w.heap.size]? = some (.cells #[.int .i64 x.i.N, .int .i64 x.i.D, .int .i64 x.o.N, .int .i64 x.o.D] 45) ∧ V.heap[w.heap.size + 1]? = some (.cells #[.int .i64 y.i.N, .int .i64 y.i.D, .int .i64 y.o.N, .int .i64 y.o.D] 45) ∧ Two V (w.heap.size + 1 + 1) (.int .i64 0) (.int .i64 0)) := hideK (by
    rw [← hV]
    refine ⟨bup (bup (bel1 _ _) (bel1 _ _)) (bel1 _ _), ?_, ?_, ?_⟩
    · exact (Below.heap_alloc _ _ _ (by rw [World.size_alloc, World.size_alloc]; omega)).trans ((Below.heap_alloc _ _ _ (by rw [World.size_alloc]; omega)).trans (World.alloc_heap_new w _))
    · have h := World.alloc_heap_new (w.alloc (.cells #[.int .i64 x.i.N, .int .i64 x.i.D, .int .i64 x.o.N, .int .i64 x.o.D] 45)) (.cells #[.int .i64 y.i.N, .int .i64 y.i.D, .int .i64 y.o.N, .int .i64 y.o.D] 45)
      rw [World.size_alloc] at h
      exact (Below.heap_alloc _ _ _ (by rw [World.size_alloc, World.size_alloc]; omega)).trans h
    · have h := Two.new ((w.alloc (.cells #[.int .i64 x.i.N, .int .i64 x.i.D, .int .i64 x.o.N, .int .i64 x.o.D] 45)).alloc (.cells #[.int .i64 y.i.N, .int .i64 y.i.D, .int .i64 y.o.N, .int .i64 y.o.D] 45)) (.int .i64 0) (.int .i64 0) 42
      rw [World.size_alloc, World.size_alloc] at h
      exact h)
  rw [hV]
  clear hV
  refine (H1.out V).mono ?_
  rintro e w2 ⟨rfl, b2⟩
  have HC : Hid (Below w.heap.size w w2 ∧ Two w2 (w.heap.size + 1 + 1) (.int .i64 0) (.int .i64 0) ∧ w2.heap[w.heap.size]? = some (.cells #[.int .i64 x.i.N, .int .i64 x.i.D, .int .i64 x.o.N, .int .i64 x.o.D] 45) ∧ w2.heap[w.heap.size + 1]? = some (.cells #[.int .i64 y.i.N, .int .i64 y.i.D, .int .i64 y.o.N, .int .i64 y.o.D] 45)) := hideK ⟨bup HV.out.1 b2, HV.out.2.2.2.keep b2, (b2.block _ (Array.getElem?_eq_some_iff.1 HV.out.2.1).1).trans HV.out.2.1, (b2.block _ (Array.getElem?_eq_some_iff.1 HV.out.2.2.1).1).trans HV.out.2.2.1⟩
  clear b2
  go_upto_region 2 with fail
  obtain ⟨W2, hW2⟩ : ∃ W2, w2.alloc (.cells #[.int .i64 p0, .int .i64 p1] 42) = W2 := ⟨_, rfl⟩
  have HD : Hid (Below w.heap.size w W2 ∧ Two W2 (w.heap.size + 1 + 1) (.int .i64 0) (.int .i64 0) ∧ (W2.heap[w.heap.size]? = some (.cells #[.int .i64 x.i.N, .int .i64 x.i.D, .int .i64 x.o.N, .int .i64 x.o.D] 45) ∧ W2.heap[w.heap.size + 1]? = some (.cells #[.int .i64 y.i.N, .int .i64 y.i.D, .int .i64 y.o.N, .int .i64 y.o.D] 45)) ∧ Two W2 w2.heap.size (.int .i64 p0) (.int .i64 p1)) := hideK (by
    rw [← hW2]
    exact ⟨bup HC.out.1 (bel1 _ _), HC.out.2.1.keep (bel1 _ _), ⟨(Below.heap_alloc _ _ _ (Array.getElem?_eq_some_iff.1 HC.out.2.2.1).1).trans HC.out.2.2.1, (Below.heap_alloc _ _ _ (Array.getElem?_eq_some_iff.1 HC.out.2.2.2).1).trans HC.out.2.2.2⟩, Two.new _ _ _ _⟩)
  rw [hW2]
  clear hW2
  generalize w2.heap.size = B2 at *
  by_cases hp : p2 = 0
  · subst hp
    have k0 : W2.cell? ⟨w.heap.size, 0, none⟩ = some (.int .i64 x.i.N) := by simp [World.cell?, HD.out.2.2.1.1]
    have k1 : W2.cell? ⟨w.heap.size, 1, none⟩ = some (.int .i64 x.i.D) := by simp [World.cell?, HD.out.2.2.1.1]
    have l0 : W2.cell? ⟨w.heap.size + 1, 0, none⟩ = some (.int .i64 y.i.N) := by simp [World.cell?, HD.out.2.2.1.2]
    have l1 : W2.cell? ⟨w.heap.size + 1, 1, none⟩ = some (.int .i64 y.i.D) := by simp [World.cell?, HD.out.2.2.1.2]
    go_wp2_with fail
    refine (H2.out W2).mono ?_
    rintro e w3 ⟨rfl, b3⟩
    have HE : Hid (Below w.heap.size w w3 ∧ Two w3 (w.heap.size + 1 + 1) (.int .i64 0) (.int .i64 0) ∧ Two w3 B2 (.int .i64 p0) (.int .i64 p1)) := hideK ⟨bup HD.out.1 b3, HD.out.2.1.keep b3, HD.out.2.2.2.keep b3⟩
    clear b3 k0 k1 l0 l1
    go_upto_region 5 with fail
    obtain ⟨W3, hW3⟩ : ∃ W3, w3.alloc (.cells #[.int .i64 q0, .int .i64 q1] 42) = W3 := ⟨_, rfl⟩
    have HF : Hid (Below w.heap.size w W3 ∧ Two W3 (w.heap.size + 1 + 1) (.int .i64 0) (.int .i64 0) ∧ Two W3 B2 (.int .i64 p0) (.int .i64 p1) ∧ Two W3 w3.heap.size (.int .i64 q0) (.int .i64 q1)) := hideK (by
      rw [← hW3]
      exact ⟨bup HE.out.1 (bel1 _ _), HE.out.2.1.keep (bel1 _ _), HE.out.2.2.keep (bel1 _ _), Two.new _ _ _ _⟩)
    rw [hW3]
    clear hW3
    generalize w3.heap.size = B3 at *
    by_cases hq : q2 = 0
    · subst hq
      obtain ⟨rfl, rfl, rfl⟩ := HQ3.out (by first | trivial | rfl) (by first | trivial | rfl)
      obtain ⟨_, k0, k1, _, _⟩ := HF.out.2.2.1
      obtain ⟨_, l0, l1, _, _⟩ := HF.out.2.2.2
      go_wp2_with fail
      refine (H3.out W3).mono ?_
      rintro e w4 ⟨rfl, b4⟩
      have HG : Hid (Below w.heap.size w w4 ∧ Two w4 (w.heap.size + 1 + 1) (.int .i64 0) (.int .i64 0)) := hideK ⟨bup HF.out.1 b4, HF.out.2.1.keep b4⟩
      clear b4 k0 k1 l0 l1
      obtain ⟨_, z0, z1, f0, f1⟩ := HG.out.2
      go_wp2_with fail
      refine bodyPost_ret (v := .tuple #[.agg #[.int .i64 r0, .int .i64 r1], .int .i64 r2]) (by simp [results, Try.results26, go_sem, z0, z1]) rfl ⟨rfl, ?_⟩
      exact (HG.out.1.setCell (by simp; omega) _).setCell (by simp; omega) _
    · obtain ⟨rfl, rfl, rfl⟩ := HQ2.out (by first | trivial | rfl) hq
      obtain ⟨_, z0, z1, f0, f1⟩ := HF.out.2.1
      go_wp2_with fail
      refine bodyPost_ret (v := .tuple #[.agg #[.int .i64 0, .int .i64 0], .int .i64 r2]) (by simp [results, Try.results26, go_sem, z0, z1]) rfl ⟨rfl, ?_⟩
      exact (HF.out.1.setCell (by simp; omega) _).setCell (by simp; omega) _
  · obtain ⟨rfl, rfl, rfl⟩ := HQ1.out hp
    obtain ⟨_, z0, z1, f0, f1⟩ := HD.out.2.1
    go_wp2_with fail
    refine bodyPost_ret (v := .tuple #[.agg #[.int .i64 0, .int .i64 0], .int .i64 r2]) (by simp [results, Try.results26, go_sem, z0, z1]) rfl ⟨rfl, ?_⟩
    exact (HD.out.1.setCell (by simp; omega) _).setCell (by simp; omega) _
theorem rslope_any (x y : Kn) (hx : KnIn x) (hy : KnIn y) (w : World) :
    Calls Try.prog 26 #[.agg x.cells, .agg y.cells] w fun e w' => e = .returned (.tuple #[.agg #[.int .i64 (slopeA x y).1.N, .int .i64 (slopeA x y).1.D], .int .i64 (slopeA x y).2]) ∧ Below w.heap.size w w' := by
  refine rslope_walk x y _ _ _ _ _ _ _ _ _ _ _ _ w ?_ ?_ ?_ (rsub_any y.o x.o hy.2 hx.2) (rsub_any y.i x.i hy.1 hx.1) (rdiv_any _ _ (subA_inK _ _) (subA_inK _ _))
  · intro h
    unfold slopeA
    rw [if_pos h]
    exact ⟨rfl, rfl, rfl⟩
  · intro h1 h2
    unfold slopeA
    rw [if_neg (fun h => h h1), if_pos h2]
    exact ⟨rfl, rfl, rfl⟩
  · intro h1 h2
    unfold slopeA
    rw [if_neg (fun h => h h1), if_neg (fun h => h h2)]
    exact ⟨rfl, rfl, rfl⟩
/-- The four variables of a reckoning. -/
structure RkV (W : World) (b : Nat) (k : Kn) (s t : Rt) (rt : TypeId) (r : Array Value) : Prop where
  k : W.heap[b]? = some (.cells #[.int .i64 k.i.N, .int .i64 k.i.D, .int .i64 k.o.N, .int .i64 k.o.D] 45)
  s : W.heap[b + 1]? = some (.cells #[.int .i64 s.N, .int .i64 s.D] 42)
  t : W.heap[b + 1 + 1]? = some (.cells #[.int .i64 t.N, .int .i64 t.D] 42)
  r : W.heap[b + 1 + 1 + 1]? = some (.cells r rt)
theorem RkV.lt {W : World} {b : Nat} {k : Kn} {s t : Rt} {rt : TypeId} {r : Array Value} (h : RkV W b k s t rt r) : b + 1 + 1 + 1 < W.heap.size := (Array.getElem?_eq_some_iff.1 h.r).1
theorem RkV.keep {V W : World} {b : Nat} {k : Kn} {s t : Rt} {rt : TypeId} {r : Array Value} (h : RkV V b k s t rt r) (q : Below V.heap.size V W) : RkV W b k s t rt r := by
  have := h.lt
  exact ⟨(q.block _ (by omega)).trans h.k, (q.block _ (by omega)).trans h.s, (q.block _ (by omega)).trans h.t, (q.block _ (by omega)).trans h.r⟩
theorem RkV.new (w : World) (k : Kn) (s t : Rt) (rt : TypeId) (r : Array Value) : RkV ((((w.alloc (.cells #[.int .i64 k.i.N, .int .i64 k.i.D, .int .i64 k.o.N, .int .i64 k.o.D] 45)).alloc (.cells #[.int .i64 s.N, .int .i64 s.D] 42)).alloc (.cells #[.int .i64 t.N, .int .i64 t.D] 42)).alloc (.cells r rt)) w.heap.size k s t rt r := by
  refine ⟨?_, ?_, ?_, ?_⟩
  · exact (Below.heap_alloc _ _ _ (by simp only [World.size_alloc]; omega)).trans ((Below.heap_alloc _ _ _ (by simp only [World.size_alloc]; omega)).trans ((Below.heap_alloc _ _ _ (by simp only [World.size_alloc]; omega)).trans (World.alloc_heap_new w _)))
  · have h := World.alloc_heap_new (w.alloc (.cells #[.int .i64 k.i.N, .int .i64 k.i.D, .int .i64 k.o.N, .int .i64 k.o.D] 45)) (.cells #[.int .i64 s.N, .int .i64 s.D] 42)
    rw [World.size_alloc] at h
    exact (Below.heap_alloc _ _ _ (by simp only [World.size_alloc]; omega)).trans ((Below.heap_alloc _ _ _ (by simp only [World.size_alloc]; omega)).trans h)
  · have h := World.alloc_heap_new ((w.alloc (.cells #[.int .i64 k.i.N, .int .i64 k.i.D, .int .i64 k.o.N, .int .i64 k.o.D] 45)).alloc (.cells #[.int .i64 s.N, .int .i64 s.D] 42)) (.cells #[.int .i64 t.N, .int .i64 t.D] 42)
    rw [World.size_alloc, World.size_alloc] at h
    exact (Below.heap_alloc _ _ _ (by simp only [World.size_alloc]; omega)).trans h
  · have h := World.alloc_heap_new (((w.alloc (.cells #[.int .i64 k.i.N, .int .i64 k.i.D, .int .i64 k.o.N, .int .i64 k.o.D] 45)).alloc (.cells #[.int .i64 s.N, .int .i64 s.D] 42)).alloc (.cells #[.int .i64 t.N, .int .i64 t.D] 42)) (.cells r rt)
    rw [World.size_alloc, World.size_alloc, World.size_alloc] at h
    exact h
theorem blk2 {W : World} {b : Nat} {x y : Value} {t : TypeId} (h : W.heap[b]? = some (.cells #[x, y] t)) : Two W b x y := ⟨(Array.getElem?_eq_some_iff.1 h).1, by simp [World.cell?, h], by simp [World.cell?, h], by simp [World.frozen?, h], by simp [World.frozen?, h]⟩
theorem blk4 {W : World} {b : Nat} {x y z u : Value} {t : TypeId} (h : W.heap[b]? = some (.cells #[x, y, z, u] t)) : W.cell? ⟨b, 0, none⟩ = some x ∧ W.cell? ⟨b, 1, none⟩ = some y ∧ W.cell? ⟨b, 2, none⟩ = some z ∧ W.cell? ⟨b, 3, none⟩ = some u := ⟨by simp [World.cell?, h], by simp [World.cell?, h], by simp [World.cell?, h], by simp [World.cell?, h]⟩
set_option maxRecDepth 100000 in
set_option maxHeartbeats 1000000 in
theorem rreckon_walk (k : Kn) (s t : Rt) (p q d r : Rt × Int) (w : World)
    (hr1 : ¬ p.2 = 0 → r = (⟨0, 0⟩, p.2)) (hr2 : p.2 = 0 → ¬ q.2 = 0 → r = (⟨0, 0⟩, q.2)) (hr3 : p.2 = 0 → q.2 = 0 → r = d)
    (H1 : ∀ W, Calls Try.prog 31 #[.agg #[.int .i64 t.N, .int .i64 t.D], .agg #[.int .i64 k.i.N, .int .i64 k.i.D]] W fun e w' => e = .returned (.tuple #[.agg #[.int .i64 p.1.N, .int .i64 p.1.D], .int .i64 p.2]) ∧ Below W.heap.size W w')
    (H2 : ∀ W, Calls Try.prog 82 #[.agg #[.int .i64 p.1.N, .int .i64 p.1.D], .agg #[.int .i64 s.N, .int .i64 s.D]] W fun e w' => e = .returned (.tuple #[.agg #[.int .i64 q.1.N, .int .i64 q.1.D], .int .i64 q.2]) ∧ Below W.heap.size W w')
    (H3 : ∀ W, Calls Try.prog 32 #[.agg #[.int .i64 k.o.N, .int .i64 k.o.D], .agg #[.int .i64 q.1.N, .int .i64 q.1.D]] W fun e w' => e = .returned (.tuple #[.agg #[.int .i64 d.1.N, .int .i64 d.1.D], .int .i64 d.2]) ∧ Below W.heap.size W w') :
    Calls Try.prog 61 #[.agg #[.int .i64 k.i.N, .int .i64 k.i.D, .int .i64 k.o.N, .int .i64 k.o.D], .agg #[.int .i64 s.N, .int .i64 s.D], .agg #[.int .i64 t.N, .int .i64 t.D]] w fun e w' => e = .returned (.tuple #[.agg #[.int .i64 r.1.N, .int .i64 r.1.D], .int .i64 r.2]) ∧ Below w.heap.size w w' := by
  have HQ1 := hideK hr1
  have HQ2 := hideK hr2
  have HQ3 := hideK hr3
  replace H1 := hideK H1
  replace H2 := hideK H2
  replace H3 := hideK H3
  clear hr1 hr2 hr3
  go_enter Try.func61, Try.ntmps61
  go_upto_region 1 with fail
  have HV := hideK (And.intro (bup (bup (bup (bel1 w (.cells #[.int .i64 k.i.N, .int .i64 k.i.D, .int .i64 k.o.N, .int .i64 k.o.D] 45)) (bel1 _ (.cells #[.int .i64 s.N, .int .i64 s.D] 42))) (bel1 _ (.cells #[.int .i64 t.N, .int .i64 t.D] 42))) (bel1 _ (.cells #[.int .i64 0, .int .i64 0] 42))) (RkV.new w k s t 42 #[.int .i64 0, .int .i64 0]))
  obtain ⟨V, hV⟩ : ∃ V, (((w.alloc (.cells #[.int .i64 k.i.N, .int .i64 k.i.D, .int .i64 k.o.N, .int .i64 k.o.D] 45)).alloc (.cells #[.int .i64 s.N, .int .i64 s.D] 42)).alloc (.cells #[.int .i64 t.N, .int .i64 t.D] 42)).alloc (.cells #[.int .i64 0, .int .i64 0] 42) = V := ⟨_, rfl⟩
  rw [hV] at HV ⊢
  clear hV
  obtain ⟨k0, k1, k2, k3⟩ := blk4 HV.out.2.k
  obtain ⟨_, t0, t1, _, _⟩ := blk2 HV.out.2.t
  go_wp2_with fail
  refine (H1.out V).mono ?_
  rintro e w2 ⟨rfl, b2⟩
  have HC := hideK (And.intro (bup HV.out.1 b2) (HV.out.2.keep b2))
  clear b2 k0 k1 k2 k3 t0 t1 HV
  go_upto_region 2 with fail
  obtain ⟨W2, hW2⟩ : ∃ W2, w2.alloc (.cells #[.int .i64 p.1.N, .int .i64 p.1.D] 42) = W2 := ⟨_, rfl⟩
  have HD : Hid (Below w.heap.size w W2 ∧ RkV W2 w.heap.size k s t 42 #[.int .i64 0, .int .i64 0] ∧ Two W2 w2.heap.size (.int .i64 p.1.N) (.int .i64 p.1.D) ∧ w.heap.size + 1 + 1 + 1 < w2.heap.size) := hideK (by
    rw [← hW2]
    exact ⟨bup HC.out.1 (bel1 _ _), HC.out.2.keep (bel1 _ _), Two.new _ _ _ _, HC.out.2.lt⟩)
  rw [hW2]
  clear hW2 HC
  generalize w2.heap.size = B2 at *
  by_cases hp : p.2 = 0
  · obtain ⟨_, s0, s1, _, _⟩ := blk2 HD.out.2.1.s
    obtain ⟨_, x0, x1, _, _⟩ := HD.out.2.2.1
    have HP0 := hideK hp
    go_wp2_with fail
    refine (H2.out W2).mono ?_
    rintro e w3 ⟨rfl, b3⟩
    have HE := hideK (And.intro (bup HD.out.1 b3) (And.intro (HD.out.2.1.keep b3) (HD.out.2.2.1.keep b3)))
    clear b3 s0 s1 x0 x1
    obtain ⟨_, x0, x1, f0, f1⟩ := HE.out.2.2
    go_upto_region 5 with fail
    obtain ⟨W3, hW3⟩ : ∃ W3, (w3.setCell ⟨B2, 0, none⟩ (.int .i64 q.1.N)).setCell ⟨B2, 1, none⟩ (.int .i64 q.1.D) = W3 := ⟨_, rfl⟩
    have HF : Hid (Below w.heap.size w W3 ∧ RkV W3 w.heap.size k s t 42 #[.int .i64 0, .int .i64 0] ∧ Two W3 B2 (.int .i64 q.1.N) (.int .i64 q.1.D)) := hideK (by
      rw [← hW3]
      have hlt := HD.out.2.2.2
      have hb : ∀ j : Nat, j < B2 → ((w3.setCell ⟨B2, 0, none⟩ (.int .i64 q.1.N)).setCell ⟨B2, 1, none⟩ (.int .i64 q.1.D)).heap[j]? = w3.heap[j]? := fun j hj => (Below.heap_setCell _ _ _ _ (by show j ≠ B2; omega)).trans (Below.heap_setCell _ _ _ _ (by show j ≠ B2; omega))
      exact ⟨(HE.out.1.setCell (by show w.heap.size ≤ B2; omega) _).setCell (by show w.heap.size ≤ B2; omega) _, ⟨(hb _ (by omega)).trans HE.out.2.1.k, (hb _ (by omega)).trans HE.out.2.1.s, (hb _ (by omega)).trans HE.out.2.1.t, (hb _ (by omega)).trans HE.out.2.1.r⟩, HE.out.2.2.set⟩)
    rw [hW3]
    clear hW3 HE HD x0 x1 f0 f1
    by_cases hq : q.2 = 0
    · obtain rfl := HQ3.out HP0.out hq
      obtain ⟨k0, k1, k2, k3⟩ := blk4 HF.out.2.1.k
      obtain ⟨_, x0, x1, _, _⟩ := HF.out.2.2
      go_wp2_with fail
      refine (H3.out W3).mono ?_
      rintro e w4 ⟨rfl, b4⟩
      have HG := hideK (And.intro (bup HF.out.1 b4) (HF.out.2.1.keep b4))
      clear b4 k0 k1 k2 k3 x0 x1
      obtain ⟨_, z0, z1, f0, f1⟩ := blk2 HG.out.2.r
      go_wp2_with fail
      refine bodyPost_ret (v := .tuple #[.agg #[.int .i64 r.1.N, .int .i64 r.1.D], .int .i64 r.2]) (by simp [results, Try.results61, go_sem, z0, z1]) rfl ⟨rfl, ?_⟩
      exact (HG.out.1.setCell (by show w.heap.size ≤ w.heap.size + 1 + 1 + 1; omega) _).setCell (by show w.heap.size ≤ w.heap.size + 1 + 1 + 1; omega) _
    · obtain rfl := HQ2.out HP0.out hq
      obtain ⟨_, z0, z1, f0, f1⟩ := blk2 HF.out.2.1.r
      go_wp2_with fail
      refine bodyPost_ret (v := .tuple #[.agg #[.int .i64 0, .int .i64 0], .int .i64 q.2]) (by simp [results, Try.results61, go_sem, z0, z1]) rfl ⟨rfl, ?_⟩
      exact (HF.out.1.setCell (by show w.heap.size ≤ w.heap.size + 1 + 1 + 1; omega) _).setCell (by show w.heap.size ≤ w.heap.size + 1 + 1 + 1; omega) _
  · obtain rfl := HQ1.out hp
    obtain ⟨_, z0, z1, f0, f1⟩ := blk2 HD.out.2.1.r
    go_wp2_with fail
    refine bodyPost_ret (v := .tuple #[.agg #[.int .i64 0, .int .i64 0], .int .i64 p.2]) (by simp [results, Try.results61, go_sem, z0, z1]) rfl ⟨rfl, ?_⟩
    exact (HD.out.1.setCell (by show w.heap.size ≤ w.heap.size + 1 + 1 + 1; omega) _).setCell (by show w.heap.size ≤ w.heap.size + 1 + 1 + 1; omega) _
theorem rreckon_any (k : Kn) (s t : Rt) (hk : KnIn k) (hs : RtIn s) (ht : RtIn t) (w : World) :
    Calls Try.prog 61 #[.agg #[.int .i64 k.i.N, .int .i64 k.i.D, .int .i64 k.o.N, .int .i64 k.o.D], .agg #[.int .i64 s.N, .int .i64 s.D], .agg #[.int .i64 t.N, .int .i64 t.D]] w fun e w' => e = .returned (.tuple #[.agg #[.int .i64 (recA mulA t k.i k.o s).1.N, .int .i64 (recA mulA t k.i k.o s).1.D], .int .i64 (recA mulA t k.i k.o s).2]) ∧ Below w.heap.size w w' := by
  refine rreckon_walk k s t (subA t k.i) (mulA (subA t k.i).1 s) (addA k.o (mulA (subA t k.i).1 s).1) (recA mulA t k.i k.o s) w ?_ ?_ ?_ (rsub_any t k.i ht hk.1) (rmul_any _ s (subA_inK _ _) hs) (radd_any k.o _ hk.2 (mulA_inK _ _))
  · intro h
    unfold recA
    rw [if_pos h]
  · intro h1 h2
    unfold recA
    rw [if_neg (fun h => h h1), if_pos h2]
  · intro h1 h2
    unfold recA
    rw [if_neg (fun h => h h1), if_neg (fun h => h h2)]
set_option maxRecDepth 100000 in
set_option maxHeartbeats 1000000 in
theorem rback_walk (k : Kn) (s t : Rt) (p q d r : Rt × Int) (w : World)
    (hr1 : ¬ p.2 = 0 → r = (⟨0, 0⟩, p.2)) (hr2 : p.2 = 0 → ¬ q.2 = 0 → r = (⟨0, 0⟩, q.2)) (hr3 : p.2 = 0 → q.2 = 0 → r = d)
    (H1 : ∀ W, Calls Try.prog 31 #[.agg #[.int .i64 t.N, .int .i64 t.D], .agg #[.int .i64 k.o.N, .int .i64 k.o.D]] W fun e w' => e = .returned (.tuple #[.agg #[.int .i64 p.1.N, .int .i64 p.1.D], .int .i64 p.2]) ∧ Below W.heap.size W w')
    (H2 : ∀ W, Calls Try.prog 60 #[.agg #[.int .i64 p.1.N, .int .i64 p.1.D], .agg #[.int .i64 s.N, .int .i64 s.D]] W fun e w' => e = .returned (.tuple #[.agg #[.int .i64 q.1.N, .int .i64 q.1.D], .int .i64 q.2]) ∧ Below W.heap.size W w')
    (H3 : ∀ W, Calls Try.prog 32 #[.agg #[.int .i64 k.i.N, .int .i64 k.i.D], .agg #[.int .i64 q.1.N, .int .i64 q.1.D]] W fun e w' => e = .returned (.tuple #[.agg #[.int .i64 d.1.N, .int .i64 d.1.D], .int .i64 d.2]) ∧ Below W.heap.size W w') :
    Calls Try.prog 69 #[.agg #[.int .i64 k.i.N, .int .i64 k.i.D, .int .i64 k.o.N, .int .i64 k.o.D], .agg #[.int .i64 s.N, .int .i64 s.D], .agg #[.int .i64 t.N, .int .i64 t.D]] w fun e w' => e = .returned (.tuple #[.agg #[.int .i64 r.1.N, .int .i64 r.1.D], .int .i64 r.2]) ∧ Below w.heap.size w w' := by
  have HQ1 := hideK hr1
  have HQ2 := hideK hr2
  have HQ3 := hideK hr3
  replace H1 := hideK H1
  replace H2 := hideK H2
  replace H3 := hideK H3
  clear hr1 hr2 hr3
  go_enter Try.func69, Try.ntmps69
  go_upto_region 1 with fail
  have HV := hideK (And.intro (bup (bup (bup (bel1 w (.cells #[.int .i64 k.i.N, .int .i64 k.i.D, .int .i64 k.o.N, .int .i64 k.o.D] 45)) (bel1 _ (.cells #[.int .i64 s.N, .int .i64 s.D] 42))) (bel1 _ (.cells #[.int .i64 t.N, .int .i64 t.D] 42))) (bel1 _ (.cells #[.int .i64 0, .int .i64 0] 42))) (RkV.new w k s t 42 #[.int .i64 0, .int .i64 0]))
  obtain ⟨V, hV⟩ : ∃ V, (((w.alloc (.cells #[.int .i64 k.i.N, .int .i64 k.i.D, .int .i64 k.o.N, .int .i64 k.o.D] 45)).alloc (.cells #[.int .i64 s.N, .int .i64 s.D] 42)).alloc (.cells #[.int .i64 t.N, .int .i64 t.D] 42)).alloc (.cells #[.int .i64 0, .int .i64 0] 42) = V := ⟨_, rfl⟩
  rw [hV] at HV ⊢
  clear hV
  obtain ⟨k0, k1, k2, k3⟩ := blk4 HV.out.2.k
  obtain ⟨_, t0, t1, _, _⟩ := blk2 HV.out.2.t
  go_wp2_with fail
  refine (H1.out V).mono ?_
  rintro e w2 ⟨rfl, b2⟩
  have HC := hideK (And.intro (bup HV.out.1 b2) (HV.out.2.keep b2))
  clear b2 k0 k1 k2 k3 t0 t1 HV
  go_upto_region 2 with fail
  obtain ⟨W2, hW2⟩ : ∃ W2, w2.alloc (.cells #[.int .i64 p.1.N, .int .i64 p.1.D] 42) = W2 := ⟨_, rfl⟩
  have HD : Hid (Below w.heap.size w W2 ∧ RkV W2 w.heap.size k s t 42 #[.int .i64 0, .int .i64 0] ∧ Two W2 w2.heap.size (.int .i64 p.1.N) (.int .i64 p.1.D) ∧ w.heap.size + 1 + 1 + 1 < w2.heap.size) := hideK (by
    rw [← hW2]
    exact ⟨bup HC.out.1 (bel1 _ _), HC.out.2.keep (bel1 _ _), Two.new _ _ _ _, HC.out.2.lt⟩)
  rw [hW2]
  clear hW2 HC
  generalize w2.heap.size = B2 at *
  by_cases hp : p.2 = 0
  · obtain ⟨_, s0, s1, _, _⟩ := blk2 HD.out.2.1.s
    obtain ⟨_, x0, x1, _, _⟩ := HD.out.2.2.1
    have HP0 := hideK hp
    go_wp2_with fail
    refine (H2.out W2).mono ?_
    rintro e w3 ⟨rfl, b3⟩
    have HE := hideK (And.intro (bup HD.out.1 b3) (And.intro (HD.out.2.1.keep b3) (HD.out.2.2.1.keep b3)))
    clear b3 s0 s1 x0 x1
    obtain ⟨_, x0, x1, f0, f1⟩ := HE.out.2.2
    go_upto_region 5 with fail
    obtain ⟨W3, hW3⟩ : ∃ W3, (w3.setCell ⟨B2, 0, none⟩ (.int .i64 q.1.N)).setCell ⟨B2, 1, none⟩ (.int .i64 q.1.D) = W3 := ⟨_, rfl⟩
    have HF : Hid (Below w.heap.size w W3 ∧ RkV W3 w.heap.size k s t 42 #[.int .i64 0, .int .i64 0] ∧ Two W3 B2 (.int .i64 q.1.N) (.int .i64 q.1.D)) := hideK (by
      rw [← hW3]
      have hlt := HD.out.2.2.2
      have hb : ∀ j : Nat, j < B2 → ((w3.setCell ⟨B2, 0, none⟩ (.int .i64 q.1.N)).setCell ⟨B2, 1, none⟩ (.int .i64 q.1.D)).heap[j]? = w3.heap[j]? := fun j hj => (Below.heap_setCell _ _ _ _ (by show j ≠ B2; omega)).trans (Below.heap_setCell _ _ _ _ (by show j ≠ B2; omega))
      exact ⟨(HE.out.1.setCell (by show w.heap.size ≤ B2; omega) _).setCell (by show w.heap.size ≤ B2; omega) _, ⟨(hb _ (by omega)).trans HE.out.2.1.k, (hb _ (by omega)).trans HE.out.2.1.s, (hb _ (by omega)).trans HE.out.2.1.t, (hb _ (by omega)).trans HE.out.2.1.r⟩, HE.out.2.2.set⟩)
    rw [hW3]
    clear hW3 HE HD x0 x1 f0 f1
    by_cases hq : q.2 = 0
    · obtain rfl := HQ3.out HP0.out hq
      obtain ⟨k0, k1, k2, k3⟩ := blk4 HF.out.2.1.k
      obtain ⟨_, x0, x1, _, _⟩ := HF.out.2.2
      go_wp2_with fail
      refine (H3.out W3).mono ?_
      rintro e w4 ⟨rfl, b4⟩
      have HG := hideK (And.intro (bup HF.out.1 b4) (HF.out.2.1.keep b4))
      clear b4 k0 k1 k2 k3 x0 x1
      obtain ⟨_, z0, z1, f0, f1⟩ := blk2 HG.out.2.r
      go_wp2_with fail
      refine bodyPost_ret (v := .tuple #[.agg #[.int .i64 r.1.N, .int .i64 r.1.D], .int .i64 r.2]) (by simp [results, Try.results69, go_sem, z0, z1]) rfl ⟨rfl, ?_⟩
      exact (HG.out.1.setCell (by show w.heap.size ≤ w.heap.size + 1 + 1 + 1; omega) _).setCell (by show w.heap.size ≤ w.heap.size + 1 + 1 + 1; omega) _
    · obtain rfl := HQ2.out HP0.out hq
      obtain ⟨_, z0, z1, f0, f1⟩ := blk2 HF.out.2.1.r
      go_wp2_with fail
      refine bodyPost_ret (v := .tuple #[.agg #[.int .i64 0, .int .i64 0], .int .i64 q.2]) (by simp [results, Try.results69, go_sem, z0, z1]) rfl ⟨rfl, ?_⟩
      exact (HF.out.1.setCell (by show w.heap.size ≤ w.heap.size + 1 + 1 + 1; omega) _).setCell (by show w.heap.size ≤ w.heap.size + 1 + 1 + 1; omega) _
  · obtain rfl := HQ1.out hp
    obtain ⟨_, z0, z1, f0, f1⟩ := blk2 HD.out.2.1.r
    go_wp2_with fail
    refine bodyPost_ret (v := .tuple #[.agg #[.int .i64 0, .int .i64 0], .int .i64 p.2]) (by simp [results, Try.results69, go_sem, z0, z1]) rfl ⟨rfl, ?_⟩
    exact (HD.out.1.setCell (by show w.heap.size ≤ w.heap.size + 1 + 1 + 1; omega) _).setCell (by show w.heap.size ≤ w.heap.size + 1 + 1 + 1; omega) _
theorem rback_any (k : Kn) (s t : Rt) (hk : KnIn k) (hs : RtIn s) (ht : RtIn t) (w : World) :
    Calls Try.prog 69 #[.agg #[.int .i64 k.i.N, .int .i64 k.i.D, .int .i64 k.o.N, .int .i64 k.o.D], .agg #[.int .i64 s.N, .int .i64 s.D], .agg #[.int .i64 t.N, .int .i64 t.D]] w fun e w' => e = .returned (.tuple #[.agg #[.int .i64 (recA divA t k.o k.i s).1.N, .int .i64 (recA divA t k.o k.i s).1.D], .int .i64 (recA divA t k.o k.i s).2]) ∧ Below w.heap.size w w' := by
  refine rback_walk k s t (subA t k.o) (divA (subA t k.o).1 s) (addA k.i (divA (subA t k.o).1 s).1) (recA divA t k.o k.i s) w ?_ ?_ ?_ (rsub_any t k.o ht hk.2) (rdiv_any _ s (subA_inK _ _) hs) (radd_any k.i _ hk.1 (divA_inK _ _))
  · intro h
    unfold recA
    rw [if_pos h]
  · intro h1 h2
    unfold recA
    rw [if_neg (fun h => h h1), if_pos h2]
  · intro h1 h2
    unfold recA
    rw [if_neg (fun h => h h1), if_neg (fun h => h h2)]
set_option maxRecDepth 100000 in
set_option maxHeartbeats 1000000 in
theorem rat_walk (k : Kn) (s t : Rt) (r : Rt × Int) (w : World)
    (H1 : ∀ W, Calls Try.prog 61 #[.agg #[.int .i64 k.i.N, .int .i64 k.i.D, .int .i64 k.o.N, .int .i64 k.o.D], .agg #[.int .i64 s.N, .int .i64 s.D], .agg #[.int .i64 t.N, .int .i64 t.D]] W fun e w' => e = .returned (.tuple #[.agg #[.int .i64 r.1.N, .int .i64 r.1.D], .int .i64 r.2]) ∧ Below W.heap.size W w') :
    Calls Try.prog 28 #[.agg #[.int .i64 k.i.N, .int .i64 k.i.D, .int .i64 k.o.N, .int .i64 k.o.D], .agg #[.int .i64 s.N, .int .i64 s.D], .agg #[.int .i64 t.N, .int .i64 t.D]] w fun e w' => e = .returned (.tuple #[.agg #[.int .i64 t.N, .int .i64 t.D, .int .i64 r.1.N, .int .i64 r.1.D], .int .i64 r.2]) ∧ Below w.heap.size w w' := by
  replace H1 := hideK H1
  go_enter Try.func28, Try.ntmps28
  go_upto_region 1 with fail
  have HV := hideK (And.intro (bup (bup (bup (bel1 w (.cells #[.int .i64 k.i.N, .int .i64 k.i.D, .int .i64 k.o.N, .int .i64 k.o.D] 45)) (bel1 _ (.cells #[.int .i64 s.N, .int .i64 s.D] 42))) (bel1 _ (.cells #[.int .i64 t.N, .int .i64 t.D] 42))) (bel1 _ (.cells #[.int .i64 0, .int .i64 0, .int .i64 0, .int .i64 0] 45))) (RkV.new w k s t 45 #[.int .i64 0, .int .i64 0, .int .i64 0, .int .i64 0]))
  obtain ⟨V, hV⟩ : ∃ V, (((w.alloc (.cells #[.int .i64 k.i.N, .int .i64 k.i.D, .int .i64 k.o.N, .int .i64 k.o.D] 45)).alloc (.cells #[.int .i64 s.N, .int .i64 s.D] 42)).alloc (.cells #[.int .i64 t.N, .int .i64 t.D] 42)).alloc (.cells #[.int .i64 0, .int .i64 0, .int .i64 0, .int .i64 0] 45) = V := ⟨_, rfl⟩
  rw [hV] at HV ⊢
  clear hV
  obtain ⟨k0, k1, k2, k3⟩ := blk4 HV.out.2.k
  obtain ⟨_, s0, s1, _, _⟩ := blk2 HV.out.2.s
  obtain ⟨_, t0, t1, _, _⟩ := blk2 HV.out.2.t
  go_wp2_with fail
  refine (H1.out V).mono ?_
  rintro e w2 ⟨rfl, b2⟩
  have HC := hideK (And.intro (bup HV.out.1 b2) (HV.out.2.keep b2))
  clear b2 k0 k1 k2 k3 s0 s1 t0 t1 HV
  go_upto_region 2 with fail
  obtain ⟨W2, hW2⟩ : ∃ W2, w2.alloc (.cells #[.int .i64 r.1.N, .int .i64 r.1.D] 42) = W2 := ⟨_, rfl⟩
  have HD : Hid (Below w.heap.size w W2 ∧ RkV W2 w.heap.size k s t 45 #[.int .i64 0, .int .i64 0, .int .i64 0, .int .i64 0] ∧ Two W2 w2.heap.size (.int .i64 r.1.N) (.int .i64 r.1.D)) := hideK (by
    rw [← hW2]
    exact ⟨bup HC.out.1 (bel1 _ _), HC.out.2.keep (bel1 _ _), Two.new _ _ _ _⟩)
  rw [hW2]
  clear hW2 HC
  generalize w2.heap.size = B2 at *
  obtain ⟨_, t0, t1, _, _⟩ := blk2 HD.out.2.1.t
  obtain ⟨_, x0, x1, _, _⟩ := HD.out.2.2
  obtain ⟨z0, z1, z2, z3⟩ := blk4 HD.out.2.1.r
  have hr := HD.out.2.1.r
  have f0 : W2.frozen? ⟨w.heap.size + 1 + 1 + 1, 0, none⟩ = false := by simp [World.frozen?, hr]
  have f1 : W2.frozen? ⟨w.heap.size + 1 + 1 + 1, 1, none⟩ = false := by simp [World.frozen?, hr]
  have f2 : W2.frozen? ⟨w.heap.size + 1 + 1 + 1, 2, none⟩ = false := by simp [World.frozen?, hr]
  have f3 : W2.frozen? ⟨w.heap.size + 1 + 1 + 1, 3, none⟩ = false := by simp [World.frozen?, hr]
  clear hr
  go_wp2_with fail
  refine bodyPost_ret (v := .tuple #[.agg #[.int .i64 t.N, .int .i64 t.D, .int .i64 r.1.N, .int .i64 r.1.D], .int .i64 r.2]) (by simp [results, Try.results28, go_sem, z0, z1, z2, z3]) rfl ⟨rfl, ?_⟩
  exact (((HD.out.1.setCell (by show w.heap.size ≤ w.heap.size + 1 + 1 + 1; omega) _).setCell (by show w.heap.size ≤ w.heap.size + 1 + 1 + 1; omega) _).setCell (by show w.heap.size ≤ w.heap.size + 1 + 1 + 1; omega) _).setCell (by show w.heap.size ≤ w.heap.size + 1 + 1 + 1; omega) _
theorem rat_any (k : Kn) (s t : Rt) (hk : KnIn k) (hs : RtIn s) (ht : RtIn t) (w : World) :
    Calls Try.prog 28 #[.agg #[.int .i64 k.i.N, .int .i64 k.i.D, .int .i64 k.o.N, .int .i64 k.o.D], .agg #[.int .i64 s.N, .int .i64 s.D], .agg #[.int .i64 t.N, .int .i64 t.D]] w fun e w' => e = .returned (.tuple #[.agg #[.int .i64 t.N, .int .i64 t.D, .int .i64 (recA mulA t k.i k.o s).1.N, .int .i64 (recA mulA t k.i k.o s).1.D], .int .i64 (recA mulA t k.i k.o s).2]) ∧ Below w.heap.size w w' :=
  rat_walk k s t _ w (rreckon_any k s t hk hs ht)
end Go.Proofs.Ytipnefaggpigfaa

/- The reference's maps of times: where a time goes, where it comes from (chapter 6). -/
namespace Go.Proofs.Ytipnefaggpigfaa
open Go.RowKit Go.Shelf

def RMapAt (W : World) (B : Nat) (K : List Kn) (S : List Rt) : Prop := ∃ oa c1 ob c2, W.heap[B]? = some (.cells #[.slice oa K.length c1, .slice ob S.length c2] 65) ∧ (K.length ≤ c1 ∧ c1 ≤ maxLen) ∧ (S.length ≤ c2 ∧ c2 ≤ maxLen) ∧ KnO W oa K ∧ RtO W ob S
theorem RMapAt.lt {W : World} {B : Nat} {K : List Kn} {S : List Rt} (h : RMapAt W B K S) : B < W.heap.size := by
  obtain ⟨oa, c1, ob, c2, h, _⟩ := h
  exact (Array.getElem?_eq_some_iff.1 h).1
theorem RMapAt.keep {V W : World} {B : Nat} {K : List Kn} {S : List Rt} (h : RMapAt V B K S) (b : Below V.heap.size V W) : RMapAt W B K S := by
  have hl := h.lt
  obtain ⟨oa, c1, ob, c2, h0, h1, h2, h3, h4⟩ := h
  exact ⟨oa, c1, ob, c2, (b.block _ hl).trans h0, h1, h2, h3.keep b, h4.keep b⟩
theorem RMapAt.open {W : World} {B : Nat} {K : List Kn} {S : List Rt} (h : RMapAt W B K S) : ∃ oa c1 ob c2, W.cell? ⟨B, 0, none⟩ = some (.slice oa K.length c1) ∧ W.cell? ⟨B, 1, none⟩ = some (.slice ob S.length c2) ∧ (K.length ≤ c1 ∧ c1 ≤ maxLen) ∧ (S.length ≤ c2 ∧ c2 ≤ maxLen) ∧ KnO W oa K ∧ RtO W ob S := by
  obtain ⟨oa, c1, ob, c2, h0, h1, h2, h3, h4⟩ := h
  exact ⟨oa, c1, ob, c2, by simp [World.cell?, h0], by simp [World.cell?, h0], h1, h2, h3, h4⟩
theorem last_G3 {α : Type} : ∀ (P : List α) (p : α), (p :: P)[P.length]? = some (P.getLastD p)
  | [], _ => rfl
  | x :: T, p => by
    rw [List.getLastD_cons]
    exact last_G3 T x
theorem sls_at {K : List Kn} {n : Nat} (h : n + 1 < K.length) : (slsK K)[n + 1]? = (slL K)[n]? := by
  have := slL_len K
  unfold slsK
  rw [List.getElem?_cons_succ, List.getElem?_append_left (by omega)]
theorem sls_head {K : List Kn} (h : 2 ≤ K.length) : (slsK K)[0]? = (slL K)[0]? := by
  have := slL_len K
  unfold slsK
  cases e : slL K with
  | nil => rw [e] at this; simp at this; omega
  | cons v V => rfl
theorem sls_end {K : List Kn} {n : Nat} (h : n + 1 = K.length) (h2 : 1 ≤ n) : (slsK K)[n + 1]? = (slL K)[n - 1]? := by
  have hl := slL_len K
  unfold slsK
  rw [List.getElem?_cons_succ, List.getElem?_append_right (by omega), hl, show n - (K.length - 1) = 0 by omega]
  cases e : slL K with
  | nil => rw [e] at hl; simp at hl; omega
  | cons v V =>
    rw [List.getLastD_cons]
    have := last_G3 V v
    rw [e] at hl
    simp at hl
    rw [show n - 1 = V.length by omega, this]
    rfl
/-- The last knot that is not above, as a piece. -/
theorem piece_from {g : Kn → Rt} {K : List Kn} {t : Rt} {n : Nat} {x : Kn} {s : Rt} (h2 : 2 ≤ K.length) (hx : K[n]? = some x) (hs : (slL K)[if n + 1 = K.length then n - 1 else n]? = some s) (h0 : n = 0 ∨ ¬ 0 < cmpI (g x) t) (h1 : ∀ j y, n < j → K[j]? = some y → 0 < cmpI (g y) t) : PieceOf g K (slsK K) t x s := by
  have hn : n < K.length := (List.getElem?_eq_some_iff.1 hx).1
  have hS : (slsK K)[n + 1]? = some s := by
    by_cases h : n + 1 = K.length
    · rw [if_pos h] at hs
      rw [sls_end h (by omega), hs]
    · rw [if_neg h] at hs
      rw [sls_at (by omega), hs]
  by_cases hc : 0 < cmpI (g x) t
  · obtain rfl : n = 0 := by
      rcases h0 with h | h
      · exact h
      · exact absurd hc h
    refine ⟨0, by omega, hx, ?_, fun h => by omega, fun y hy => ?_⟩
    · rw [if_neg (by omega)] at hs
      rw [sls_head h2, hs]
    · rw [hx] at hy
      cases hy
      exact hc
  · exact ⟨n + 1, by omega, by simpa using hx, hS, fun _ => hc, fun y hy => h1 (n + 1) y (by omega) hy⟩
set_option maxRecDepth 100000 in
set_option maxHeartbeats 4000000 in
theorem rfrom_in (K : List Kn) (B : Nat) (t : Rt) (hK : ∀ x ∈ K, KnIn x) (ht : RtIn t) (hl : K.length ≤ 1000) (h2K : 2 ≤ K.length) (w : World) (hM : RMapAt w B K (slL K)) :
    Calls Try.prog 68 #[.pointer (some ⟨B, 0, none⟩), .agg #[.int .i64 t.N, .int .i64 t.D], .bool false] w fun e w' => ∃ x s, PieceOf (·.i) K (slsK K) t x s ∧ (x ∈ K ∧ s ∈ slL K) ∧ e = .returned (.tuple #[.agg #[.int .i64 x.i.N, .int .i64 x.i.D, .int .i64 x.o.N, .int .i64 x.o.D], .agg #[.int .i64 s.N, .int .i64 s.D]]) ∧ Below w.heap.size w w' := by
  have hmx : maxLen ≤ 9223372036854775807 := by decide
  obtain ⟨PO, hPO⟩ : ∃ PO : Ending → World → Prop, (fun e w' => ∃ x s, PieceOf (·.i) K (slsK K) t x s ∧ (x ∈ K ∧ s ∈ slL K) ∧ e = .returned (.tuple #[.agg #[.int .i64 x.i.N, .int .i64 x.i.D, .int .i64 x.o.N, .int .i64 x.o.D], .agg #[.int .i64 s.N, .int .i64 s.D]]) ∧ Below w.heap.size w w') = PO := ⟨_, rfl⟩
  have HP := hideK hPO
  rw [hPO]
  obtain ⟨oa, c1, ob, c2, m0, m1, hc1, hc2, hOK, hOS⟩ := hM.open
  have hBz := hM.lt
  have HMM : Hid (∀ W, Below w.heap.size w W → W.cell? ⟨B, 0, none⟩ = some (.slice oa K.length c1) ∧ W.cell? ⟨B, 1, none⟩ = some (.slice ob (slL K).length c2) ∧ KnO W oa K ∧ RtO W ob (slL K)) := hideK (fun W q => ⟨(q.cell (p := ⟨B, 0, none⟩) hBz).trans m0, (q.cell (p := ⟨B, 1, none⟩) hBz).trans m1, hOK.keep q, hOS.keep q⟩)
  have hsl := slL_len K
  obtain ⟨n, hn⟩ : ∃ n, K.length = n := ⟨_, rfl⟩
  have HN := hideK hn
  have HC := hideK (fun (x : Kn) (hx : x ∈ K) (W : World) => rcmp_any x.i t (hK x hx).1 ht W)
  rw [hsl, hn] at HMM hc2
  rw [hn] at hc1 hl h2K
  have HSL := hideK hsl
  clear hPO hK ht m0 m1 hOK hOS hM hn hsl
  go_enter Try.func68, Try.ntmps68
  go_upto_region 2 with fail
  obtain ⟨V, hV⟩ : ∃ V, ((w.alloc (.cells #[.int .i64 t.N, .int .i64 t.D] 42)).alloc (.cells #[.int .i64 0, .int .i64 0, .int .i64 0, .int .i64 0] 45)).alloc (.cells #[.int .i64 0, .int .i64 0] 42) = V := ⟨_, rfl⟩
  have HV : Hid (Below w.heap.size w V ∧ V.heap[w.heap.size]? = some (.cells #[.int .i64 t.N, .int .i64 t.D] 42) ∧ V.heap[w.heap.size + 1]? = some (.cells #[.int .i64 0, .int .i64 0, .int .i64 0, .int .i64 0] 45) ∧ V.heap[w.heap.size + 1 + 1]? = some (.cells #[.int .i64 0, .int .i64 0] 42)) := hideK (by
    rw [← hV]
    refine ⟨bup (bup (bel1 _ _) (bel1 _ _)) (bel1 _ _), ?_, ?_, ?_⟩
    · exact (Below.heap_alloc _ _ _ (by simp; omega)).trans ((Below.heap_alloc _ _ _ (by simp)).trans (World.alloc_heap_new w _))
    · have h := World.alloc_heap_new (w.alloc (.cells #[.int .i64 t.N, .int .i64 t.D] 42)) (.cells #[.int .i64 0, .int .i64 0, .int .i64 0, .int .i64 0] 45)
      rw [World.size_alloc] at h
      exact (Below.heap_alloc _ _ _ (by simp)).trans h
    · have h := World.alloc_heap_new ((w.alloc (.cells #[.int .i64 t.N, .int .i64 t.D] 42)).alloc (.cells #[.int .i64 0, .int .i64 0, .int .i64 0, .int .i64 0] 45)) (.cells #[.int .i64 0, .int .i64 0] 42)
      rw [World.size_alloc, World.size_alloc] at h
      exact h)
  rw [hV]
  clear hV
  go_wp2_with fail
  go_loopw [8, 9] (fun nv iv wq => ∃ k i : Nat, nv = .int .i64 (k : Nat) ∧ iv = .int .i64 (i : Nat) ∧ 1 ≤ i ∧ i ≤ n ∧ k < i ∧ (∀ x, K[k]? = some x → k = 0 ∨ cmpI x.i t ≤ 0) ∧ (∀ j y, k < j → j < i → K[j]? = some y → 0 < cmpI y.i t) ∧ Below V.heap.size V wq) (fun _ iv _ => n - (intOf iv).toNat)
  case atStart => exact ⟨0, 1, rfl, rfl, by omega, by omega, by omega, fun _ _ => .inl rfl, fun j y h1 h2 => by omega, Below.refl _ _⟩
  case round =>
    obtain ⟨k, i, rfl, rfl, hi1, hi, hki, hk0, hk1, hb⟩ := hrel
    obtain ⟨wq, rfl⟩ : ∃ wq, wq = wr := ⟨_, rfl⟩
    obtain ⟨m0, m1, hOK, hOS⟩ := HMM.out wq (bup HV.out.1 hb)
    have HBe := hideK hb
    have HQ := hideK (And.intro hk0 hk1)
    by_cases hlt : i < n
    · obtain ⟨x, hx⟩ : ∃ x, K[i]? = some x := ⟨_, List.getElem?_eq_getElem (by rw [HN.out]; omega)⟩
      obtain ⟨A, rfl, hA, a0, a1, a2, a3⟩ := hOK.get hx
      have hcx := HC.out x (List.mem_of_getElem? hx)
      obtain ⟨z, hz⟩ : ∃ z, cmpI x.i t = z := ⟨_, rfl⟩
      rw [hz] at hcx
      have HCx := hideK hcx
      have HZ := hideK (And.intro hx hz)
      clear hcx hk0 hk1 hb hx hz hOK hOS
      have di : (i : Int) < (n : Int) := by omega
      have wk : IntKind.i64.wrap ((i : Int) + 1) = ((i + 1 : Nat) : Int) := by rw [show ((i + 1 : Nat) : Int) = (i : Int) + 1 by omega]; exact IntWalk.i64_in _ ⟨by omega, by omega⟩
      go_upto_region 8 with fail
      obtain ⟨X, hX⟩ : ∃ X, wq.alloc (.cells #[.int .i64 x.i.N, .int .i64 x.i.D] 42) = X := ⟨_, rfl⟩
      have HX : Hid (Below wq.heap.size wq X ∧ Two X wq.heap.size (.int .i64 x.i.N) (.int .i64 x.i.D)) := hideK (by
        rw [← hX]
        exact ⟨bel1 _ _, Two.new _ _ _ _⟩)
      rw [hX]
      clear hX
      obtain ⟨Y, hY⟩ : ∃ Y, Y = X := ⟨_, rfl⟩
      rw [← hY]
      have HY : Hid (Below V.heap.size V Y ∧ Two Y wq.heap.size (.int .i64 x.i.N) (.int .i64 x.i.D)) := hideK (by
        rw [hY]
        exact ⟨bup HBe.out HX.out.1, HX.out.2⟩)
      clear hY HX m0 m1 a0 a1 a2 a3
      obtain ⟨_, x0, x1, _, _⟩ := HY.out.2
      obtain ⟨_, t0, t1, _, _⟩ := (blk2 HV.out.2.1).keep HY.out.1
      go_wp2_with fail
      refine (HCx.out Y).mono ?_
      rintro e W2 ⟨rfl, b2⟩
      have HB2 := hideK (bup HY.out.1 b2)
      clear b2 x0 x1 t0 t1
      by_cases hz0 : z ≤ 0
      · go_wp2_with fail
        go_roundw
        case rel =>
          refine ⟨i, i + 1, rfl, by first | rfl | simp, by omega, by omega, by omega, fun y hy => .inr ?_, fun j y h1 h2 => by omega, HB2.out⟩
          rw [HZ.out.1] at hy
          cases hy
          rw [HZ.out.2]
          omega
        case measure => simp [intOf]; omega
      · go_wp2_with fail
        go_roundw
        case rel =>
          refine ⟨k, i + 1, rfl, by first | rfl | simp, by omega, by omega, by omega, HQ.out.1, fun j y h1 h2 hy => ?_, HB2.out⟩
          by_cases hj : j = i
          · subst hj
            rw [HZ.out.1] at hy
            cases hy
            rw [HZ.out.2]
            omega
          · exact HQ.out.2 j y h1 (by omega) hy
        case measure => simp [intOf]; omega
    · obtain rfl : i = n := by omega
      have d1 : ¬ (i : Int) < (i : Int) := by omega
      obtain ⟨x, hx⟩ : ∃ x, K[k]? = some x := ⟨_, List.getElem?_eq_getElem (by rw [HN.out]; omega)⟩
      obtain ⟨q, hq⟩ : ∃ q, (if k + 1 = i then k - 1 else k) = q := ⟨_, rfl⟩
      have hqi : q < i - 1 := by rw [← hq]; split <;> omega
      obtain ⟨s, hs⟩ : ∃ s, (slL K)[q]? = some s := ⟨_, List.getElem?_eq_getElem (by rw [HSL.out, HN.out]; exact hqi)⟩
      have hpc : PieceOf (·.i) K (slsK K) t x s := piece_from (by rw [HN.out]; exact h2K) hx (by rw [HN.out, hq]; exact hs) ((hk0 x hx).imp id (fun h => by omega)) (fun j y h1 hy => hk1 j y h1 (by
        have := (List.getElem?_eq_some_iff.1 hy).1
        rw [HN.out] at this
        exact this) hy)
      have HPc := hideK (And.intro hpc (And.intro (List.mem_of_getElem? hx) (List.mem_of_getElem? hs)))
      obtain ⟨A, rfl, hA, a0, a1, a2, a3⟩ := hOK.get hx
      obtain ⟨A2, rfl, hA2, b0, b1⟩ := hOS.get hs
      have HQ2 := hideK hq
      have HX9 := hideK (And.intro hx hs)
      clear hk0 hk1 hb hx hs hpc hOK hOS hq HQ
      have hzq := HBe.out.size
      have hzV : w.heap.size + 1 + 1 < V.heap.size := (Array.getElem?_eq_some_iff.1 HV.out.2.2.2).1
      have hr := (HBe.out.block _ (by omega)).trans HV.out.2.2.1
      have hr2 := (HBe.out.block _ (by omega)).trans HV.out.2.2.2
      obtain ⟨m0', m1', hOK', hOS'⟩ := HMM.out w (Below.refl _ _)
      obtain ⟨A3, e3, hA3, -⟩ := hOK'.get HX9.out.1
      cases e3
      obtain ⟨A4, e4, hA4, -⟩ := hOS'.get HX9.out.2
      cases e4
      clear m0' m1' hOK' hOS'
      have hS : ∀ u0 u1 u2 u3 : Value, Below w.heap.size wq ((((wq.setCell ⟨w.heap.size + 1, 0, none⟩ u0).setCell ⟨w.heap.size + 1, 1, none⟩ u1).setCell ⟨w.heap.size + 1, 2, none⟩ u2).setCell ⟨w.heap.size + 1, 3, none⟩ u3) := fun u0 u1 u2 u3 => ((((Below.refl w.heap.size wq).setCell (by show w.heap.size ≤ w.heap.size + 1; omega) u0).setCell (by show w.heap.size ≤ w.heap.size + 1; omega) u1).setCell (by show w.heap.size ≤ w.heap.size + 1; omega) u2).setCell (by show w.heap.size ≤ w.heap.size + 1; omega) u3
      have hs0 : ∀ u0 u1 u2 u3 : Value, ((((wq.setCell ⟨w.heap.size + 1, 0, none⟩ u0).setCell ⟨w.heap.size + 1, 1, none⟩ u1).setCell ⟨w.heap.size + 1, 2, none⟩ u2).setCell ⟨w.heap.size + 1, 3, none⟩ u3).cell? (A2.add (q * 2)) = some (.int .i64 s.N) := fun u0 u1 u2 u3 => ((hS u0 u1 u2 u3).cell (p := A2.add (q * 2)) (by rw [addrN_block]; exact hA4)).trans b0
      have hs1 : ∀ u0 u1 u2 u3 : Value, ((((wq.setCell ⟨w.heap.size + 1, 0, none⟩ u0).setCell ⟨w.heap.size + 1, 1, none⟩ u1).setCell ⟨w.heap.size + 1, 2, none⟩ u2).setCell ⟨w.heap.size + 1, 3, none⟩ u3).cell? ⟨(A2.add (q * 2)).block, (A2.add (q * 2)).off + 1, none⟩ = some (.int .i64 s.D) := fun u0 u1 u2 u3 => ((hS u0 u1 u2 u3).cell (p := ⟨(A2.add (q * 2)).block, (A2.add (q * 2)).off + 1, none⟩) (by show (A2.add (q * 2)).block < _; rw [addrN_block]; exact hA4)).trans b1
      have hs2 : ∀ u0 u1 u2 u3 : Value, ((((wq.setCell ⟨w.heap.size + 1, 0, none⟩ u0).setCell ⟨w.heap.size + 1, 1, none⟩ u1).setCell ⟨w.heap.size + 1, 2, none⟩ u2).setCell ⟨w.heap.size + 1, 3, none⟩ u3).cell? ⟨B, 1, none⟩ = some (.slice (some A2) (i - 1) c2) := fun u0 u1 u2 u3 => ((hS u0 u1 u2 u3).cell (p := ⟨B, 1, none⟩) hBz).trans m1
      have z0 : wq.cell? ⟨w.heap.size + 1, 0, none⟩ = some (.int .i64 0) := by simp [World.cell?, hr]
      have z1 : wq.cell? ⟨w.heap.size + 1, 1, none⟩ = some (.int .i64 0) := by simp [World.cell?, hr]
      have z2 : wq.cell? ⟨w.heap.size + 1, 2, none⟩ = some (.int .i64 0) := by simp [World.cell?, hr]
      have z3 : wq.cell? ⟨w.heap.size + 1, 3, none⟩ = some (.int .i64 0) := by simp [World.cell?, hr]
      have y0 : wq.frozen? ⟨w.heap.size + 1, 0, none⟩ = false := by simp [World.frozen?, hr]
      have y1 : wq.frozen? ⟨w.heap.size + 1, 1, none⟩ = false := by simp [World.frozen?, hr]
      have y2 : wq.frozen? ⟨w.heap.size + 1, 2, none⟩ = false := by simp [World.frozen?, hr]
      have y3 : wq.frozen? ⟨w.heap.size + 1, 3, none⟩ = false := by simp [World.frozen?, hr]
      have v0 : wq.cell? ⟨w.heap.size + 1 + 1, 0, none⟩ = some (.int .i64 0) := by simp [World.cell?, hr2]
      have v1 : wq.cell? ⟨w.heap.size + 1 + 1, 1, none⟩ = some (.int .i64 0) := by simp [World.cell?, hr2]
      have v2 : wq.frozen? ⟨w.heap.size + 1 + 1, 0, none⟩ = false := by simp [World.frozen?, hr2]
      have v3 : wq.frozen? ⟨w.heap.size + 1 + 1, 1, none⟩ = false := by simp [World.frozen?, hr2]
      clear hr hr2 hA hA2
      have hki2 : (k : Int) < (i : Int) := by omega
      have hqi2 : (q : Int) < ((i - 1 : Nat) : Int) := by omega
      have hqi3 : (q : Int) < (i : Int) - 1 := by omega
      by_cases hke : k + 1 = i
      · obtain rfl : q = k - 1 := by have := HQ2.out; rw [if_pos hke] at this; exact this.symm
        have wq1 : IntKind.i64.wrap ((k : Int) - 1) = ((k - 1 : Nat) : Int) := by rw [show ((k - 1 : Nat) : Int) = (k : Int) - 1 by omega]; exact IntWalk.i64_in _ ⟨by omega, by omega⟩
        have hqi4 : ((k - 1 : Nat) : Int) < (k : Int) := by omega
        subst hke
        rw [Nat.add_sub_cancel] at hs2 m1
        clear hqi hqi2 hqi3
        go_upto_region 13 with fail
        go_big_region
        go_wp2_with fail
        refine bodyPost_ret (v := .tuple #[.agg #[.int .i64 x.i.N, .int .i64 x.i.D, .int .i64 x.o.N, .int .i64 x.o.D], .agg #[.int .i64 s.N, .int .i64 s.D]]) (by simp [results, Try.results68, go_sem, z0, z1, z2, z3, v0, v1]) rfl ?_
        rw [← HP.out]
        refine ⟨x, s, HPc.out.1, HPc.out.2, rfl, ?_⟩
        exact (((((((bup HV.out.1 HBe.out).setCell (by show w.heap.size ≤ w.heap.size + 1; omega) _).setCell (by show w.heap.size ≤ w.heap.size + 1; omega) _).setCell (by show w.heap.size ≤ w.heap.size + 1; omega) _).setCell (by show w.heap.size ≤ w.heap.size + 1; omega) _).setCell (by show w.heap.size ≤ w.heap.size + 1 + 1; omega) _).setCell (by show w.heap.size ≤ w.heap.size + 1 + 1; omega) _ |>.drew)
      · obtain rfl : q = k := by have := HQ2.out; rw [if_neg hke] at this; exact this.symm
        have de : ¬ (q : Int) = ((i - 1 : Nat) : Int) := by omega
        go_upto_region 13 with fail
        go_big_region
        go_wp2_with fail
        refine bodyPost_ret (v := .tuple #[.agg #[.int .i64 x.i.N, .int .i64 x.i.D, .int .i64 x.o.N, .int .i64 x.o.D], .agg #[.int .i64 s.N, .int .i64 s.D]]) (by simp [results, Try.results68, go_sem, z0, z1, z2, z3, v0, v1]) rfl ?_
        rw [← HP.out]
        refine ⟨x, s, HPc.out.1, HPc.out.2, rfl, ?_⟩
        exact (((((((bup HV.out.1 HBe.out).setCell (by show w.heap.size ≤ w.heap.size + 1; omega) _).setCell (by show w.heap.size ≤ w.heap.size + 1; omega) _).setCell (by show w.heap.size ≤ w.heap.size + 1; omega) _).setCell (by show w.heap.size ≤ w.heap.size + 1; omega) _).setCell (by show w.heap.size ≤ w.heap.size + 1 + 1; omega) _).setCell (by show w.heap.size ≤ w.heap.size + 1 + 1; omega) _ |>.drew)
set_option maxRecDepth 100000 in
set_option maxHeartbeats 4000000 in
theorem rfrom_out (K : List Kn) (B : Nat) (t : Rt) (hK : ∀ x ∈ K, KnIn x) (ht : RtIn t) (hl : K.length ≤ 1000) (h2K : 2 ≤ K.length) (w : World) (hM : RMapAt w B K (slL K)) :
    Calls Try.prog 68 #[.pointer (some ⟨B, 0, none⟩), .agg #[.int .i64 t.N, .int .i64 t.D], .bool true] w fun e w' => ∃ x s, PieceOf (·.o) K (slsK K) t x s ∧ (x ∈ K ∧ s ∈ slL K) ∧ e = .returned (.tuple #[.agg #[.int .i64 x.i.N, .int .i64 x.i.D, .int .i64 x.o.N, .int .i64 x.o.D], .agg #[.int .i64 s.N, .int .i64 s.D]]) ∧ Below w.heap.size w w' := by
  have hmx : maxLen ≤ 9223372036854775807 := by decide
  obtain ⟨PO, hPO⟩ : ∃ PO : Ending → World → Prop, (fun e w' => ∃ x s, PieceOf (·.o) K (slsK K) t x s ∧ (x ∈ K ∧ s ∈ slL K) ∧ e = .returned (.tuple #[.agg #[.int .i64 x.i.N, .int .i64 x.i.D, .int .i64 x.o.N, .int .i64 x.o.D], .agg #[.int .i64 s.N, .int .i64 s.D]]) ∧ Below w.heap.size w w') = PO := ⟨_, rfl⟩
  have HP := hideK hPO
  rw [hPO]
  obtain ⟨oa, c1, ob, c2, m0, m1, hc1, hc2, hOK, hOS⟩ := hM.open
  have hBz := hM.lt
  have HMM : Hid (∀ W, Below w.heap.size w W → W.cell? ⟨B, 0, none⟩ = some (.slice oa K.length c1) ∧ W.cell? ⟨B, 1, none⟩ = some (.slice ob (slL K).length c2) ∧ KnO W oa K ∧ RtO W ob (slL K)) := hideK (fun W q => ⟨(q.cell (p := ⟨B, 0, none⟩) hBz).trans m0, (q.cell (p := ⟨B, 1, none⟩) hBz).trans m1, hOK.keep q, hOS.keep q⟩)
  have hsl := slL_len K
  obtain ⟨n, hn⟩ : ∃ n, K.length = n := ⟨_, rfl⟩
  have HN := hideK hn
  have HC := hideK (fun (x : Kn) (hx : x ∈ K) (W : World) => rcmp_any x.o t (hK x hx).2 ht W)
  rw [hsl, hn] at HMM hc2
  rw [hn] at hc1 hl h2K
  have HSL := hideK hsl
  clear hPO hK ht m0 m1 hOK hOS hM hn hsl
  go_enter Try.func68, Try.ntmps68
  go_upto_region 2 with fail
  obtain ⟨V, hV⟩ : ∃ V, ((w.alloc (.cells #[.int .i64 t.N, .int .i64 t.D] 42)).alloc (.cells #[.int .i64 0, .int .i64 0, .int .i64 0, .int .i64 0] 45)).alloc (.cells #[.int .i64 0, .int .i64 0] 42) = V := ⟨_, rfl⟩
  have HV : Hid (Below w.heap.size w V ∧ V.heap[w.heap.size]? = some (.cells #[.int .i64 t.N, .int .i64 t.D] 42) ∧ V.heap[w.heap.size + 1]? = some (.cells #[.int .i64 0, .int .i64 0, .int .i64 0, .int .i64 0] 45) ∧ V.heap[w.heap.size + 1 + 1]? = some (.cells #[.int .i64 0, .int .i64 0] 42)) := hideK (by
    rw [← hV]
    refine ⟨bup (bup (bel1 _ _) (bel1 _ _)) (bel1 _ _), ?_, ?_, ?_⟩
    · exact (Below.heap_alloc _ _ _ (by simp; omega)).trans ((Below.heap_alloc _ _ _ (by simp)).trans (World.alloc_heap_new w _))
    · have h := World.alloc_heap_new (w.alloc (.cells #[.int .i64 t.N, .int .i64 t.D] 42)) (.cells #[.int .i64 0, .int .i64 0, .int .i64 0, .int .i64 0] 45)
      rw [World.size_alloc] at h
      exact (Below.heap_alloc _ _ _ (by simp)).trans h
    · have h := World.alloc_heap_new ((w.alloc (.cells #[.int .i64 t.N, .int .i64 t.D] 42)).alloc (.cells #[.int .i64 0, .int .i64 0, .int .i64 0, .int .i64 0] 45)) (.cells #[.int .i64 0, .int .i64 0] 42)
      rw [World.size_alloc, World.size_alloc] at h
      exact h)
  rw [hV]
  clear hV
  go_wp2_with fail
  go_loopw [8, 9] (fun nv iv wq => ∃ k i : Nat, nv = .int .i64 (k : Nat) ∧ iv = .int .i64 (i : Nat) ∧ 1 ≤ i ∧ i ≤ n ∧ k < i ∧ (∀ x, K[k]? = some x → k = 0 ∨ cmpI x.o t ≤ 0) ∧ (∀ j y, k < j → j < i → K[j]? = some y → 0 < cmpI y.o t) ∧ Below V.heap.size V wq) (fun _ iv _ => n - (intOf iv).toNat)
  case atStart => exact ⟨0, 1, rfl, rfl, by omega, by omega, by omega, fun _ _ => .inl rfl, fun j y h1 h2 => by omega, Below.refl _ _⟩
  case round =>
    obtain ⟨k, i, rfl, rfl, hi1, hi, hki, hk0, hk1, hb⟩ := hrel
    obtain ⟨wq, rfl⟩ : ∃ wq, wq = wr := ⟨_, rfl⟩
    obtain ⟨m0, m1, hOK, hOS⟩ := HMM.out wq (bup HV.out.1 hb)
    have HBe := hideK hb
    have HQ := hideK (And.intro hk0 hk1)
    by_cases hlt : i < n
    · obtain ⟨x, hx⟩ : ∃ x, K[i]? = some x := ⟨_, List.getElem?_eq_getElem (by rw [HN.out]; omega)⟩
      obtain ⟨A, rfl, hA, a0, a1, a2, a3⟩ := hOK.get hx
      have hcx := HC.out x (List.mem_of_getElem? hx)
      obtain ⟨z, hz⟩ : ∃ z, cmpI x.o t = z := ⟨_, rfl⟩
      rw [hz] at hcx
      have HCx := hideK hcx
      have HZ := hideK (And.intro hx hz)
      clear hcx hk0 hk1 hb hx hz hOK hOS
      have di : (i : Int) < (n : Int) := by omega
      have wk : IntKind.i64.wrap ((i : Int) + 1) = ((i + 1 : Nat) : Int) := by rw [show ((i + 1 : Nat) : Int) = (i : Int) + 1 by omega]; exact IntWalk.i64_in _ ⟨by omega, by omega⟩
      go_upto_region 7 with fail
      obtain ⟨X, hX⟩ : ∃ X, wq.alloc (.cells #[.int .i64 x.i.N, .int .i64 x.i.D] 42) = X := ⟨_, rfl⟩
      have HX : Hid (Below wq.heap.size wq X ∧ Two X wq.heap.size (.int .i64 x.i.N) (.int .i64 x.i.D)) := hideK (by
        rw [← hX]
        exact ⟨bel1 _ _, Two.new _ _ _ _⟩)
      rw [hX]
      clear hX
      have kA : (A.add (i * 4)).block < wq.heap.size := by rw [addrN_block]; exact hA
      have a2' := (HX.out.1.cell (p := ⟨(A.add (i * 4)).block, (A.add (i * 4)).off + 2, none⟩) kA).trans a2
      have a3' := (HX.out.1.cell (p := ⟨(A.add (i * 4)).block, (A.add (i * 4)).off + 3, none⟩) kA).trans a3
      obtain ⟨m0', -, -, -⟩ := HMM.out X (bup HV.out.1 (bup HBe.out HX.out.1))
      obtain ⟨_, x0, x1, f0, f1⟩ := HX.out.2
      clear m0 m1 a0 a1 a2 a3
      go_upto_region 8 with fail
      obtain ⟨Y, hY⟩ : ∃ Y, (X.setCell ⟨wq.heap.size, 0, none⟩ (.int .i64 x.o.N)).setCell ⟨wq.heap.size, 1, none⟩ (.int .i64 x.o.D) = Y := ⟨_, rfl⟩
      have HY : Hid (Below V.heap.size V Y ∧ Two Y wq.heap.size (.int .i64 x.o.N) (.int .i64 x.o.D)) := hideK (by
        rw [← hY]
        have hz := HBe.out.size
        exact ⟨((bup HBe.out HX.out.1).setCell (by show V.heap.size ≤ wq.heap.size; omega) _).setCell (by show V.heap.size ≤ wq.heap.size; omega) _, HX.out.2.set⟩)
      rw [hY]
      clear hY HX x0 x1 f0 f1 a2' a3' m0' kA
      obtain ⟨_, x0, x1, _, _⟩ := HY.out.2
      obtain ⟨_, t0, t1, _, _⟩ := (blk2 HV.out.2.1).keep HY.out.1
      go_wp2_with fail
      refine (HCx.out Y).mono ?_
      rintro e W2 ⟨rfl, b2⟩
      have HB2 := hideK (bup HY.out.1 b2)
      clear b2 x0 x1 t0 t1
      by_cases hz0 : z ≤ 0
      · go_wp2_with fail
        go_roundw
        case rel =>
          refine ⟨i, i + 1, rfl, by first | rfl | simp, by omega, by omega, by omega, fun y hy => .inr ?_, fun j y h1 h2 => by omega, HB2.out⟩
          rw [HZ.out.1] at hy
          cases hy
          rw [HZ.out.2]
          omega
        case measure => simp [intOf]; omega
      · go_wp2_with fail
        go_roundw
        case rel =>
          refine ⟨k, i + 1, rfl, by first | rfl | simp, by omega, by omega, by omega, HQ.out.1, fun j y h1 h2 hy => ?_, HB2.out⟩
          by_cases hj : j = i
          · subst hj
            rw [HZ.out.1] at hy
            cases hy
            rw [HZ.out.2]
            omega
          · exact HQ.out.2 j y h1 (by omega) hy
        case measure => simp [intOf]; omega
    · obtain rfl : i = n := by omega
      have d1 : ¬ (i : Int) < (i : Int) := by omega
      obtain ⟨x, hx⟩ : ∃ x, K[k]? = some x := ⟨_, List.getElem?_eq_getElem (by rw [HN.out]; omega)⟩
      obtain ⟨q, hq⟩ : ∃ q, (if k + 1 = i then k - 1 else k) = q := ⟨_, rfl⟩
      have hqi : q < i - 1 := by rw [← hq]; split <;> omega
      obtain ⟨s, hs⟩ : ∃ s, (slL K)[q]? = some s := ⟨_, List.getElem?_eq_getElem (by rw [HSL.out, HN.out]; exact hqi)⟩
      have hpc : PieceOf (·.o) K (slsK K) t x s := piece_from (by rw [HN.out]; exact h2K) hx (by rw [HN.out, hq]; exact hs) ((hk0 x hx).imp id (fun h => by omega)) (fun j y h1 hy => hk1 j y h1 (by
        have := (List.getElem?_eq_some_iff.1 hy).1
        rw [HN.out] at this
        exact this) hy)
      have HPc := hideK (And.intro hpc (And.intro (List.mem_of_getElem? hx) (List.mem_of_getElem? hs)))
      obtain ⟨A, rfl, hA, a0, a1, a2, a3⟩ := hOK.get hx
      obtain ⟨A2, rfl, hA2, b0, b1⟩ := hOS.get hs
      have HQ2 := hideK hq
      have HX9 := hideK (And.intro hx hs)
      clear hk0 hk1 hb hx hs hpc hOK hOS hq HQ
      have hzq := HBe.out.size
      have hzV : w.heap.size + 1 + 1 < V.heap.size := (Array.getElem?_eq_some_iff.1 HV.out.2.2.2).1
      have hr := (HBe.out.block _ (by omega)).trans HV.out.2.2.1
      have hr2 := (HBe.out.block _ (by omega)).trans HV.out.2.2.2
      obtain ⟨m0', m1', hOK', hOS'⟩ := HMM.out w (Below.refl _ _)
      obtain ⟨A3, e3, hA3, -⟩ := hOK'.get HX9.out.1
      cases e3
      obtain ⟨A4, e4, hA4, -⟩ := hOS'.get HX9.out.2
      cases e4
      clear m0' m1' hOK' hOS'
      have hS : ∀ u0 u1 u2 u3 : Value, Below w.heap.size wq ((((wq.setCell ⟨w.heap.size + 1, 0, none⟩ u0).setCell ⟨w.heap.size + 1, 1, none⟩ u1).setCell ⟨w.heap.size + 1, 2, none⟩ u2).setCell ⟨w.heap.size + 1, 3, none⟩ u3) := fun u0 u1 u2 u3 => ((((Below.refl w.heap.size wq).setCell (by show w.heap.size ≤ w.heap.size + 1; omega) u0).setCell (by show w.heap.size ≤ w.heap.size + 1; omega) u1).setCell (by show w.heap.size ≤ w.heap.size + 1; omega) u2).setCell (by show w.heap.size ≤ w.heap.size + 1; omega) u3
      have hs0 : ∀ u0 u1 u2 u3 : Value, ((((wq.setCell ⟨w.heap.size + 1, 0, none⟩ u0).setCell ⟨w.heap.size + 1, 1, none⟩ u1).setCell ⟨w.heap.size + 1, 2, none⟩ u2).setCell ⟨w.heap.size + 1, 3, none⟩ u3).cell? (A2.add (q * 2)) = some (.int .i64 s.N) := fun u0 u1 u2 u3 => ((hS u0 u1 u2 u3).cell (p := A2.add (q * 2)) (by rw [addrN_block]; exact hA4)).trans b0
      have hs1 : ∀ u0 u1 u2 u3 : Value, ((((wq.setCell ⟨w.heap.size + 1, 0, none⟩ u0).setCell ⟨w.heap.size + 1, 1, none⟩ u1).setCell ⟨w.heap.size + 1, 2, none⟩ u2).setCell ⟨w.heap.size + 1, 3, none⟩ u3).cell? ⟨(A2.add (q * 2)).block, (A2.add (q * 2)).off + 1, none⟩ = some (.int .i64 s.D) := fun u0 u1 u2 u3 => ((hS u0 u1 u2 u3).cell (p := ⟨(A2.add (q * 2)).block, (A2.add (q * 2)).off + 1, none⟩) (by show (A2.add (q * 2)).block < _; rw [addrN_block]; exact hA4)).trans b1
      have hs2 : ∀ u0 u1 u2 u3 : Value, ((((wq.setCell ⟨w.heap.size + 1, 0, none⟩ u0).setCell ⟨w.heap.size + 1, 1, none⟩ u1).setCell ⟨w.heap.size + 1, 2, none⟩ u2).setCell ⟨w.heap.size + 1, 3, none⟩ u3).cell? ⟨B, 1, none⟩ = some (.slice (some A2) (i - 1) c2) := fun u0 u1 u2 u3 => ((hS u0 u1 u2 u3).cell (p := ⟨B, 1, none⟩) hBz).trans m1
      have z0 : wq.cell? ⟨w.heap.size + 1, 0, none⟩ = some (.int .i64 0) := by simp [World.cell?, hr]
      have z1 : wq.cell? ⟨w.heap.size + 1, 1, none⟩ = some (.int .i64 0) := by simp [World.cell?, hr]
      have z2 : wq.cell? ⟨w.heap.size + 1, 2, none⟩ = some (.int .i64 0) := by simp [World.cell?, hr]
      have z3 : wq.cell? ⟨w.heap.size + 1, 3, none⟩ = some (.int .i64 0) := by simp [World.cell?, hr]
      have y0 : wq.frozen? ⟨w.heap.size + 1, 0, none⟩ = false := by simp [World.frozen?, hr]
      have y1 : wq.frozen? ⟨w.heap.size + 1, 1, none⟩ = false := by simp [World.frozen?, hr]
      have y2 : wq.frozen? ⟨w.heap.size + 1, 2, none⟩ = false := by simp [World.frozen?, hr]
      have y3 : wq.frozen? ⟨w.heap.size + 1, 3, none⟩ = false := by simp [World.frozen?, hr]
      have v0 : wq.cell? ⟨w.heap.size + 1 + 1, 0, none⟩ = some (.int .i64 0) := by simp [World.cell?, hr2]
      have v1 : wq.cell? ⟨w.heap.size + 1 + 1, 1, none⟩ = some (.int .i64 0) := by simp [World.cell?, hr2]
      have v2 : wq.frozen? ⟨w.heap.size + 1 + 1, 0, none⟩ = false := by simp [World.frozen?, hr2]
      have v3 : wq.frozen? ⟨w.heap.size + 1 + 1, 1, none⟩ = false := by simp [World.frozen?, hr2]
      clear hr hr2 hA hA2
      have hki2 : (k : Int) < (i : Int) := by omega
      have hqi2 : (q : Int) < ((i - 1 : Nat) : Int) := by omega
      have hqi3 : (q : Int) < (i : Int) - 1 := by omega
      by_cases hke : k + 1 = i
      · obtain rfl : q = k - 1 := by have := HQ2.out; rw [if_pos hke] at this; exact this.symm
        have wq1 : IntKind.i64.wrap ((k : Int) - 1) = ((k - 1 : Nat) : Int) := by rw [show ((k - 1 : Nat) : Int) = (k : Int) - 1 by omega]; exact IntWalk.i64_in _ ⟨by omega, by omega⟩
        have hqi4 : ((k - 1 : Nat) : Int) < (k : Int) := by omega
        subst hke
        rw [Nat.add_sub_cancel] at hs2 m1
        clear hqi hqi2 hqi3
        go_upto_region 13 with fail
        go_big_region
        go_wp2_with fail
        refine bodyPost_ret (v := .tuple #[.agg #[.int .i64 x.i.N, .int .i64 x.i.D, .int .i64 x.o.N, .int .i64 x.o.D], .agg #[.int .i64 s.N, .int .i64 s.D]]) (by simp [results, Try.results68, go_sem, z0, z1, z2, z3, v0, v1]) rfl ?_
        rw [← HP.out]
        refine ⟨x, s, HPc.out.1, HPc.out.2, rfl, ?_⟩
        exact (((((((bup HV.out.1 HBe.out).setCell (by show w.heap.size ≤ w.heap.size + 1; omega) _).setCell (by show w.heap.size ≤ w.heap.size + 1; omega) _).setCell (by show w.heap.size ≤ w.heap.size + 1; omega) _).setCell (by show w.heap.size ≤ w.heap.size + 1; omega) _).setCell (by show w.heap.size ≤ w.heap.size + 1 + 1; omega) _).setCell (by show w.heap.size ≤ w.heap.size + 1 + 1; omega) _ |>.drew)
      · obtain rfl : q = k := by have := HQ2.out; rw [if_neg hke] at this; exact this.symm
        have de : ¬ (q : Int) = ((i - 1 : Nat) : Int) := by omega
        go_upto_region 13 with fail
        go_big_region
        go_wp2_with fail
        refine bodyPost_ret (v := .tuple #[.agg #[.int .i64 x.i.N, .int .i64 x.i.D, .int .i64 x.o.N, .int .i64 x.o.D], .agg #[.int .i64 s.N, .int .i64 s.D]]) (by simp [results, Try.results68, go_sem, z0, z1, z2, z3, v0, v1]) rfl ?_
        rw [← HP.out]
        refine ⟨x, s, HPc.out.1, HPc.out.2, rfl, ?_⟩
        exact (((((((bup HV.out.1 HBe.out).setCell (by show w.heap.size ≤ w.heap.size + 1; omega) _).setCell (by show w.heap.size ≤ w.heap.size + 1; omega) _).setCell (by show w.heap.size ≤ w.heap.size + 1; omega) _).setCell (by show w.heap.size ≤ w.heap.size + 1; omega) _).setCell (by show w.heap.size ≤ w.heap.size + 1 + 1; omega) _).setCell (by show w.heap.size ≤ w.heap.size + 1 + 1; omega) _ |>.drew)
end Go.Proofs.Ytipnefaggpigfaa

/- The reference's look at a map's own slopes: surtitleref6's own (chapter 6). -/
namespace Go.Proofs.Ytipnefaggpigfaa
open Go.RowKit Go.Shelf

set_option maxRecDepth 100000 in
set_option maxHeartbeats 4000000 in
theorem rown_any (Q : List Kn) (S : List Rt) (B : Nat) (hQ : ∀ x ∈ Q, KnIn x) (h1 : 1 ≤ Q.length) (w : World) (hM : RMapAt w B Q S) :
    Calls Try.prog 30 #[.pointer (some ⟨B, 0, none⟩)] w fun e w' => Below w.heap.size w w' ∧ ((slE Q = 0 ∧ e = .returned (.tuple #[.pointer (some ⟨B, 0, none⟩), .int .i64 0])) ∨ (¬ slE Q = 0 ∧ e = .returned (.tuple #[.pointer none, .int .i64 (slE Q)]))) := by
  have hmx : maxLen ≤ 9223372036854775807 := by decide
  obtain ⟨er, her⟩ : ∃ er, slE Q = er := ⟨_, rfl⟩
  obtain ⟨PO, hPO⟩ : ∃ PO : Ending → World → Prop, (fun e w' => Below w.heap.size w w' ∧ ((er = 0 ∧ e = .returned (.tuple #[.pointer (some ⟨B, 0, none⟩), .int .i64 0])) ∨ (¬ er = 0 ∧ e = .returned (.tuple #[.pointer none, .int .i64 er])))) = PO := ⟨_, rfl⟩
  have HP := hideK hPO
  rw [her, hPO]
  obtain ⟨oa, c1, ob, c2, m0, m1, hc1, hc2, hOK, -⟩ := hM.open
  have hBz := hM.lt
  obtain ⟨n, hn⟩ : ∃ n, Q.length = n := ⟨_, rfl⟩
  have HN := hideK hn
  have HQ := hideK hQ
  rw [hn] at m0 hc1 h1
  have HMM : Hid (∀ W, Below w.heap.size w W → W.cell? ⟨B, 0, none⟩ = some (.slice oa n c1) ∧ KnO W oa Q) := hideK (fun W q => ⟨(q.cell (p := ⟨B, 0, none⟩) hBz).trans m0, hOK.keep q⟩)
  have HE := hideK her
  clear hPO hQ m0 m1 hOK hM hn her hc2
  go_enter Try.func30, Try.ntmps30
  go_wp2_with fail
  go_loopw [4] (fun iv wq => ∃ i : Nat, iv = .int .i64 ((i + 1 : Nat) : Int) ∧ i + 1 ≤ n ∧ slE (Q.drop i) = er ∧ Below w.heap.size w wq) (fun iv _ => n - (intOf iv).toNat)
  case atStart => exact ⟨0, rfl, h1, HE.out, Below.refl _ _⟩
  case round =>
    obtain ⟨i, rfl, hi, hs, hb⟩ := hrel
    obtain ⟨wq, rfl⟩ : ∃ wq, wq = wr := ⟨_, rfl⟩
    obtain ⟨m0, hOK⟩ := HMM.out wq hb
    by_cases hlt : i + 1 < n
    · obtain ⟨a, ha⟩ : ∃ x, Q[i]? = some x := ⟨_, List.getElem?_eq_getElem (by rw [HN.out]; omega)⟩
      obtain ⟨b, hb'⟩ : ∃ x, Q[i + 1]? = some x := ⟨_, List.getElem?_eq_getElem (by rw [HN.out]; omega)⟩
      obtain ⟨A, rfl, hA, a0, a1, a2, a3⟩ := hOK.get ha
      obtain ⟨A', hA', hAb, b0, b1, b2, b3⟩ := hOK.get hb'
      cases hA'
      have kA : (A.add (i * 4)).block < wq.heap.size := by rw [addrN_block]; exact hA
      have kB : (A.add ((i + 1) * 4)).block < wq.heap.size := by rw [addrN_block]; exact hA
      have hBq : B < wq.heap.size := by have := hb.size; omega
      have HS := hideK (slE_step ha hb')
      have HC := hideK (show ∀ W : World, Calls Try.prog 26 #[.agg #[.int .i64 a.i.N, .int .i64 a.i.D, .int .i64 a.o.N, .int .i64 a.o.D], .agg #[.int .i64 b.i.N, .int .i64 b.i.D, .int .i64 b.o.N, .int .i64 b.o.D]] W fun e w' => e = .returned (.tuple #[.agg #[.int .i64 (slopeA a b).1.N, .int .i64 (slopeA a b).1.D], .int .i64 (slopeA a b).2]) ∧ Below W.heap.size W w' from fun W => rslope_any a b (HQ.out a (List.mem_of_getElem? ha)) (HQ.out b (List.mem_of_getElem? hb')) W)
      obtain ⟨r, hr⟩ : ∃ r, slopeA a b = r := ⟨_, rfl⟩
      rw [hr] at HC HS
      rw [hs] at HS
      have HB := hideK hb
      clear hr hs hb ha hb' hA hAb hOK
      obtain ⟨j, hj⟩ : ∃ j, i + 1 = j := ⟨_, rfl⟩
      have hj1 : 1 ≤ j ∧ j < n := by omega
      rw [hj] at b0 b1 b2 b3 kB HS ⊢
      have d1 : (j : Int) < (n : Int) := by omega
      have wj : IntKind.i64.wrap ((j : Int) - 1) = (i : Int) := by rw [show (j : Int) - 1 = (i : Int) by omega]; exact IntWalk.i64_in _ ⟨by omega, by omega⟩
      have wk : IntKind.i64.wrap ((j : Int) + 1) = ((j + 1 : Nat) : Int) := by rw [show ((j + 1 : Nat) : Int) = (j : Int) + 1 by omega]; exact IntWalk.i64_in _ ⟨by omega, by omega⟩
      have di : (i : Int) < (n : Int) := by omega
      generalize hPA : A.add (i * 4) = PA at *
      generalize hPB : A.add (j * 4) = PB at *
      have HK : Hid (∀ w' : World, Below wq.heap.size wq w' → (w'.cell? PA = some (.int .i64 a.i.N) ∧ w'.cell? ⟨PA.block, PA.off + 1, none⟩ = some (.int .i64 a.i.D) ∧ w'.cell? ⟨PA.block, PA.off + 2, none⟩ = some (.int .i64 a.o.N) ∧ w'.cell? ⟨PA.block, PA.off + 3, none⟩ = some (.int .i64 a.o.D) ∧ w'.cell? PB = some (.int .i64 b.i.N) ∧ w'.cell? ⟨PB.block, PB.off + 1, none⟩ = some (.int .i64 b.i.D) ∧ w'.cell? ⟨PB.block, PB.off + 2, none⟩ = some (.int .i64 b.o.N) ∧ w'.cell? ⟨PB.block, PB.off + 3, none⟩ = some (.int .i64 b.o.D) ∧ w'.cell? ⟨B, 0, none⟩ = some (.slice (some A) n c1))) := hideK (fun w' q => ⟨(q.cell kA).trans a0, (q.cell (p := ⟨PA.block, PA.off + 1, none⟩) kA).trans a1, (q.cell (p := ⟨PA.block, PA.off + 2, none⟩) kA).trans a2, (q.cell (p := ⟨PA.block, PA.off + 3, none⟩) kA).trans a3, (q.cell kB).trans b0, (q.cell (p := ⟨PB.block, PB.off + 1, none⟩) kB).trans b1, (q.cell (p := ⟨PB.block, PB.off + 2, none⟩) kB).trans b2, (q.cell (p := ⟨PB.block, PB.off + 3, none⟩) kB).trans b3, (q.cell (p := ⟨B, 0, none⟩) hBq).trans m0⟩)
      go_upto_region 4 with fail
      go_cut [5, 6] (fun p e wx => ∃ q, p = .pointer (some ⟨q, 0, none⟩) ∧ e = .int .i64 r.2 ∧ wq.heap.size ≤ q ∧ Two wx q (.int .i64 r.1.N) (.int .i64 r.1.D) ∧ Below wq.heap.size wq wx)
      case first =>
        go_region_held3 (fun w' => w'.cell? PA = some (.int .i64 a.i.N) ∧ w'.cell? ⟨PA.block, PA.off + 1, none⟩ = some (.int .i64 a.i.D) ∧ w'.cell? ⟨PA.block, PA.off + 2, none⟩ = some (.int .i64 a.o.N) ∧ w'.cell? ⟨PA.block, PA.off + 3, none⟩ = some (.int .i64 a.o.D) ∧ w'.cell? PB = some (.int .i64 b.i.N) ∧ w'.cell? ⟨PB.block, PB.off + 1, none⟩ = some (.int .i64 b.i.D) ∧ w'.cell? ⟨PB.block, PB.off + 2, none⟩ = some (.int .i64 b.o.N) ∧ w'.cell? ⟨PB.block, PB.off + 3, none⟩ = some (.int .i64 b.o.D) ∧ w'.cell? ⟨B, 0, none⟩ = some (.slice (some A) n c1)) (first | go_keep | assumption | exact HK.out _ (((bup c4 (bel1 _ _)).setCell (by simp; omega) _).setCell (by simp; omega) _) | exact HK.out _ ((c4.setCell (by simp) _).setCell (by simp) _)) (first
          | (go_at_call 26; (with_reducible refine Calls.mono (HC.out _) ?_); rintro e w4 ⟨rfl, b4⟩; (first | (have c4 : Below wq.heap.size wq w4 := (Below.refl wq.heap.size wq).drew.trans b4) | (have T4 : Hid (Two w4 wq.heap.size (.int .i64 0) (.int .i64 0)) := hideK ((Two.new wq.drew (.int .i64 0) (.int .i64 0) 42).keep b4); obtain ⟨_, g0, g1, g2, g3⟩ := T4.out; have c4 : Below wq.heap.size wq w4 := bup (bup (Below.refl _ wq).drew (bel1 wq.drew _)) b4)); have z4 := c4.size; obtain ⟨e0, e1, e2, e3, f0, f1, f2, f3, hm⟩ := HK.out _ c4))
        all_goals first | go_wp2_with fail | skip
        all_goals go_meet
        all_goals first
          | exact ⟨_, rfl, rfl, z4, Two.new w4 _ _ _, bup c4 (bel1 _ _)⟩
          | exact ⟨_, rfl, rfl, Nat.le_refl _, T4.out.set, (c4.setCell (by simp) _).setCell (by simp) _⟩
      case rest =>
        obtain ⟨q, rfl, rfl, hq, hT, hbx⟩ := hcut
        generalize wc = X at *
        have HX := hideK (And.intro hq (And.intro hT hbx))
        clear hq hT hbx HK a0 a1 a2 a3 b0 b1 b2 b3 kA kB HC m0
        by_cases hr : r.2 = 0
        · have HR : Hid (slE (Q.drop j) = er) := hideK (by rw [HS.out, if_pos hr])
          go_wp2_with fail
          go_roundw
          case rel => exact ⟨j, by first | rfl | simp, by omega, HR.out, bup HB.out HX.out.2.2⟩
          case measure => simp [intOf]; omega
        · have HR : Hid (er = r.2) := hideK (by rw [HS.out, if_neg hr])
          go_wp2_with fail
          rw [← HP.out]
          exact ⟨bup HB.out HX.out.2.2, .inr ⟨by rw [HR.out]; exact hr, by rw [HR.out]; rfl⟩⟩
    · have HR : Hid (er = 0) := hideK (by rw [← hs]; exact slE_end (by rw [HN.out]; omega))
      have d1 : ¬ ((i + 1 : Nat) : Int) < (n : Int) := by omega
      have d2 : ¬ (i : Int) + 1 < (n : Int) := by omega
      have HB := hideK hb
      clear hb hs
      go_wp2_with fail
      rw [← HP.out]
      exact ⟨HB.out, .inl ⟨HR.out, rfl⟩⟩
end Go.Proofs.Ytipnefaggpigfaa

/- The reference's look at knots: surtitleref6's check (chapter 6). -/
namespace Go.Proofs.Ytipnefaggpigfaa
open Go.RowKit Go.Shelf

theorem cmp_ge6 (a b : Rt) : 0 < cmpI b a ↔ ¬ 0 ≤ cmpI a b := by
  unfold cmpI
  split <;> split <;> (try split) <;> (try split) <;> omega
theorem rgs_end {Q : List Kn} {i : Nat} (h : Q.length ≤ i) : rgsK (Q.drop i) = true := by
  rw [List.drop_eq_nil_of_le h]
  rfl
set_option maxRecDepth 100000 in
set_option maxHeartbeats 4000000 in
theorem rcheck6_any (Q : List Kn) (oa : Option Addr) (c : Nat) (hQ : ∀ x ∈ Q, KnIn x) (hc : Q.length ≤ c ∧ c ≤ maxLen) (w : World) (hO : KnO w oa Q) :
    Calls Try.prog 25 #[.slice oa Q.length c] w fun e w' => e = .returned (.int .i64 (chkK Q)) ∧ Below w.heap.size w w' := by
  have hmx : maxLen ≤ 9223372036854775807 := by decide
  obtain ⟨v, hv⟩ : ∃ v, chkK Q = v := ⟨_, rfl⟩
  have HV' : Hid (v = if Q.length = 0 then 1 else if 64 < Q.length then 2 else if rgsK Q = false then 12 else if riseB (·.i) Q = false then 33 else if riseB (·.o) Q = false then 32 else 0) := hideK (by rw [← hv]; rfl)
  rw [hv]
  clear hv
  obtain ⟨n, hn⟩ : ∃ n, Q.length = n := ⟨_, rfl⟩
  have HN := hideK hn
  have HV : Hid (v = if n = 0 then 1 else if 64 < n then 2 else if rgsK Q = false then 12 else if riseB (·.i) Q = false then 33 else if riseB (·.o) Q = false then 32 else 0) := hideK (by rw [← hn]; exact HV'.out)
  have HQ := hideK hQ
  have HO := hideK hO
  rw [hn] at hc ⊢
  clear hn hO hQ HV'
  go_enter Try.func25, Try.ntmps25
  by_cases h0 : n = 0
  · obtain rfl : v = 1 := by rw [HV.out, if_pos h0]
    clear HV
    subst h0
    go_wp2_with fail
    go_ret
    exact ⟨rfl, Below.refl _ _⟩
  have d0 : ¬ (n : Int) = 0 := by omega
  by_cases h64 : 64 < n
  · obtain rfl : v = 2 := by rw [HV.out, if_neg h0, if_pos h64]
    clear HV
    have d1 : (64 : Int) < (n : Int) := by omega
    go_wp2_with fail
    go_ret
    exact ⟨rfl, Below.refl _ _⟩
  have d1 : ¬ (64 : Int) < (n : Int) := by omega
  go_wp2_with fail
  go_loopw [3] (fun iv wq => ∃ i : Nat, iv = .int .i64 (i : Nat) ∧ i ≤ n ∧ rgsK (Q.drop i) = rgsK Q ∧ Below w.heap.size w wq) (fun iv _ => n - (intOf iv).toNat)
  case atStart => exact ⟨0, rfl, Nat.zero_le _, rfl, Below.refl _ _⟩
  case round =>
    obtain ⟨i, rfl, hi, hs, hb⟩ := hrel
    obtain ⟨wq, rfl⟩ : ∃ wq, wq = wr := ⟨_, rfl⟩
    by_cases hlt : i < n
    · obtain ⟨x, hx⟩ : ∃ x, Q[i]? = some x := ⟨_, List.getElem?_eq_getElem (by rw [HN.out]; omega)⟩
      have st := rgs_step hx
      rw [hs] at st
      obtain ⟨A, rfl, hA, a0, a1, a2, a3⟩ := HO.out.keep hb i x hx
      have kA : (A.add (i * 4)).block < wq.heap.size := by rw [addrN_block]; exact hA
      have HK : Hid (∀ W, Below wq.heap.size wq W → W.cell? ⟨(A.add (i * 4)).block, (A.add (i * 4)).off + 2, none⟩ = some (.int .i64 x.o.N) ∧ W.cell? ⟨(A.add (i * 4)).block, (A.add (i * 4)).off + 3, none⟩ = some (.int .i64 x.o.D)) := hideK (fun W q => ⟨(q.cell (p := ⟨(A.add (i * 4)).block, (A.add (i * 4)).off + 2, none⟩) kA).trans a2, (q.cell (p := ⟨(A.add (i * 4)).block, (A.add (i * 4)).off + 3, none⟩) kA).trans a3⟩)
      have di : (i : Int) < (n : Int) := by omega
      have wk : IntKind.i64.wrap ((i : Int) + 1) = ((i + 1 : Nat) : Int) := by rw [show ((i + 1 : Nat) : Int) = (i : Int) + 1 by omega]; exact IntWalk.i64_in _ ⟨by omega, by omega⟩
      have ST := hideK st
      have HBe := hideK hb
      have HI := hideK (fun W => rright_r x.i (HQ.out x (List.mem_of_getElem? hx)).1 W)
      have HJ := hideK (fun W => rright_r x.o (HQ.out x (List.mem_of_getElem? hx)).2 W)
      clear st hs hb hx
      unfold rgK at ST
      generalize rightB x.i = b1 at HI ST
      generalize rightB x.o = b2 at HJ ST
      go_wp2_with fail
      refine (HI.out wq).mono ?_
      rintro e w2 ⟨rfl, c2⟩
      have HW := hideK c2
      clear a0 a1 a2 a3
      obtain ⟨k2, k3⟩ := HK.out w2 c2
      clear c2
      cases b1 with
      | false =>
        have HE : Hid (rgsK Q = false) := hideK ST.out
        go_wp2_with fail
        go_ret
        refine ⟨?_, bup HBe.out HW.out⟩
        rw [HV.out, if_neg h0, if_neg h64, if_pos HE.out]
        rfl
      | true =>
        go_wp2_with fail
        refine (HJ.out w2).mono ?_
        rintro e w3 ⟨rfl, c3⟩
        have HX := hideK (bup HW.out c3)
        clear c3 k2 k3 HW
        cases b2 with
        | false =>
          have HE : Hid (rgsK Q = false) := hideK ST.out
          go_wp2_with fail
          go_ret
          refine ⟨?_, bup HBe.out HX.out⟩
          rw [HV.out, if_neg h0, if_neg h64, if_pos HE.out]
          rfl
        | true =>
          go_wp2_with fail
          go_roundw
          case rel => exact ⟨i + 1, by first | rfl | simp, by omega, ST.out.symm, bup HBe.out HX.out⟩
          case measure => simp [intOf]; omega
    · have hin : n = i := by omega
      subst hin
      have di : ¬ (n : Int) < (n : Int) := by omega
      have HRg : Hid (rgsK Q = true) := hideK (by rw [← hs]; exact rgs_end (by rw [HN.out]; exact Nat.le_refl _))
      have HBe := hideK hb
      clear hb hs
      go_wp2_with fail
      go_loopw [4] (fun iv wq => ∃ i : Nat, iv = .int .i64 (i : Nat) ∧ 1 ≤ i ∧ i ≤ n ∧ riseB (·.i) (Q.drop (i - 1)) = riseB (·.i) Q ∧ Below w.heap.size w wq) (fun iv _ => n - (intOf iv).toNat)
      case atStart => exact ⟨1, rfl, by omega, by omega, rfl, HBe.out⟩
      case round =>
        obtain ⟨i1, rfl, hi1, hi, hs, hb⟩ := hrel
        obtain ⟨i, rfl⟩ : ∃ i, i1 = i + 1 := ⟨i1 - 1, by omega⟩
        obtain ⟨wq, rfl⟩ : ∃ wq, wq = wr := ⟨_, rfl⟩
        rw [Nat.add_sub_cancel] at hs
        by_cases hlt : i + 1 < n
        · obtain ⟨a, ha⟩ : ∃ x, Q[i]? = some x := ⟨_, List.getElem?_eq_getElem (by rw [HN.out]; omega)⟩
          obtain ⟨b, hb'⟩ : ∃ x, Q[i + 1]? = some x := ⟨_, List.getElem?_eq_getElem (by rw [HN.out]; omega)⟩
          obtain ⟨A, rfl, hA, a0, a1, a2, a3⟩ := (HO.out.keep hb).get ha
          obtain ⟨A', hA', hAb, b0, b1, b2, b3⟩ := (HO.out.keep hb).get hb'
          cases hA'
          have kA : (A.add (i * 4)).block < wq.heap.size := by rw [addrN_block]; exact hA
          have kB : (A.add ((i + 1) * 4)).block < wq.heap.size := by rw [addrN_block]; exact hA
          have st : riseB (·.i) (Q.drop i) = (decide (0 < cmpI b.i a.i) && riseB (·.i) (Q.drop (i + 1))) := by
            obtain ⟨h1, e1⟩ := List.getElem?_eq_some_iff.1 ha
            obtain ⟨h2, e2⟩ := List.getElem?_eq_some_iff.1 hb'
            rw [List.drop_eq_getElem_cons h1, List.drop_eq_getElem_cons h2, e1, e2]
            rfl
          rw [hs] at st
          have hsw : 0 < cmpI b.i a.i ↔ ¬ 0 ≤ cmpI a.i b.i := cmp_ge6 a.i b.i
          have HC := hideK (show ∀ W : World, Calls Try.prog 59 #[.agg #[.int .i64 a.i.N, .int .i64 a.i.D], .agg #[.int .i64 b.i.N, .int .i64 b.i.D]] W fun e w' => e = .returned (.int .i64 (cmpI a.i b.i)) ∧ Below W.heap.size W w' from fun (W : World) => rcmp_any a.i b.i (HQ.out a (List.mem_of_getElem? ha)).1 (HQ.out b (List.mem_of_getElem? hb')).1 W)
          obtain ⟨cc, hcc⟩ : ∃ z, cmpI a.i b.i = z := ⟨_, rfl⟩
          rw [hcc] at HC hsw
          have ST := hideK (And.intro st hsw)
          have HB := hideK hb
          have p0 : ∀ q : GrownQ wq, q.V.cell? (A.add (i * 4)) = some (.int .i64 a.i.N) := fun q => (q.h.cell kA).trans a0
          have p1 : ∀ q : GrownQ wq, q.V.cell? ⟨(A.add (i * 4)).block, (A.add (i * 4)).off + 1, none⟩ = some (.int .i64 a.i.D) := fun q => (q.h.cell (p := ⟨(A.add (i * 4)).block, (A.add (i * 4)).off + 1, none⟩) kA).trans a1
          have q0 : ∀ q : GrownQ wq, q.V.cell? (A.add ((i + 1) * 4)) = some (.int .i64 b.i.N) := fun q => (q.h.cell kB).trans b0
          have q1 : ∀ q : GrownQ wq, q.V.cell? ⟨(A.add ((i + 1) * 4)).block, (A.add ((i + 1) * 4)).off + 1, none⟩ = some (.int .i64 b.i.D) := fun q => (q.h.cell (p := ⟨(A.add ((i + 1) * 4)).block, (A.add ((i + 1) * 4)).off + 1, none⟩) kB).trans b1
          clear st hsw hcc a0 a1 a2 a3 b0 b1 b2 b3 hA hAb kA kB ha hb' hs hb HBe
          obtain ⟨j, hj⟩ : ∃ j, i + 1 = j := ⟨_, rfl⟩
          have hj1 : 1 ≤ j ∧ j < n := by omega
          rw [hj] at q0 q1 ST ⊢
          have d1 : (j : Int) < (n : Int) := by omega
          have wj : IntKind.i64.wrap ((j : Int) - 1) = (i : Int) := by rw [show (j : Int) - 1 = (i : Int) by omega]; exact IntWalk.i64_in _ ⟨by omega, by omega⟩
          have wk : IntKind.i64.wrap ((j : Int) + 1) = ((j + 1 : Nat) : Int) := by rw [show ((j + 1 : Nat) : Int) = (j : Int) + 1 by omega]; exact IntWalk.i64_in _ ⟨by omega, by omega⟩
          have di : (i : Int) < (n : Int) := by omega
          go_upto_region 13 with fail
          refine region_grown wq wq (by kernel_rfl) (by kernel_rfl) (Below.refl _ _) ?_
          repeat (go_big_quiet_step (first
            | (rename_i q; (with_reducible refine (HC.out _).mono ?_); rintro e V1 ⟨rfl, h1⟩; exact ⟨rfl, ⟨V1, q.h.trans (h1.mono q.h.size)⟩, rfl⟩)))
          refine wpQuiet_nil ?_
          rintro W9 ⟨⟨V9, hb9⟩, hv9⟩
          have hv9 : W9 = V9 := hv9
          subst hv9
          have HB9 := hideK (bup HB.out hb9)
          clear hv9 hb9 p0 p1 q0 q1
          by_cases hz : 0 ≤ cc
          · have hf : riseB (·.i) Q = false := by rw [ST.out.1, decide_eq_false (fun h => ST.out.2.1 h hz), Bool.false_and]
            have HE := hideK hf
            clear hf
            go_wp2_with fail
            go_ret
            refine ⟨?_, HB9.out⟩
            rw [HV.out, if_neg h0, if_neg h64, if_neg (by rw [HRg.out]; simp), if_pos HE.out]
            rfl
          · have HE : Hid (riseB (·.i) Q = riseB (·.i) (Q.drop j)) := hideK (by rw [ST.out.1, decide_eq_true (ST.out.2.2 hz), Bool.true_and])
            go_wp2_with fail
            go_roundw
            case rel => exact ⟨j + 1, by first | rfl | simp, by omega, by omega, by rw [Nat.add_sub_cancel]; exact HE.out.symm, HB9.out⟩
            case measure => simp [intOf]; omega
        · have d1 : ¬ ((i + 1 : Nat) : Int) < (n : Int) := by omega
          have d2 : ¬ (i : Int) + 1 < (n : Int) := by omega
          have HRi : Hid (riseB (·.i) Q = true) := hideK (by rw [← hs]; exact riseB_end _ (by rw [HN.out]; omega))
          have HBe := hideK hb
          clear hb hs
          go_wp2_with fail
          go_loopw [5] (fun iv wq => ∃ i : Nat, iv = .int .i64 (i : Nat) ∧ 1 ≤ i ∧ i ≤ n ∧ riseB (·.o) (Q.drop (i - 1)) = riseB (·.o) Q ∧ Below w.heap.size w wq) (fun iv _ => n - (intOf iv).toNat)
          case atStart => exact ⟨1, rfl, by omega, by omega, rfl, HBe.out⟩
          case round =>
            obtain ⟨i1, rfl, hi1, hi, hs, hb⟩ := hrel
            obtain ⟨i, rfl⟩ : ∃ i, i1 = i + 1 := ⟨i1 - 1, by omega⟩
            obtain ⟨wq, rfl⟩ : ∃ wq, wq = wr := ⟨_, rfl⟩
            rw [Nat.add_sub_cancel] at hs
            by_cases hlt : i + 1 < n
            · obtain ⟨a, ha⟩ : ∃ x, Q[i]? = some x := ⟨_, List.getElem?_eq_getElem (by rw [HN.out]; omega)⟩
              obtain ⟨b, hb'⟩ : ∃ x, Q[i + 1]? = some x := ⟨_, List.getElem?_eq_getElem (by rw [HN.out]; omega)⟩
              obtain ⟨A, rfl, hA, a0, a1, a2, a3⟩ := (HO.out.keep hb).get ha
              obtain ⟨A', hA', hAb, b0, b1, b2, b3⟩ := (HO.out.keep hb).get hb'
              cases hA'
              have kA : (A.add (i * 4)).block < wq.heap.size := by rw [addrN_block]; exact hA
              have kB : (A.add ((i + 1) * 4)).block < wq.heap.size := by rw [addrN_block]; exact hA
              have st : riseB (·.o) (Q.drop i) = (decide (0 < cmpI b.o a.o) && riseB (·.o) (Q.drop (i + 1))) := by
                obtain ⟨h1, e1⟩ := List.getElem?_eq_some_iff.1 ha
                obtain ⟨h2, e2⟩ := List.getElem?_eq_some_iff.1 hb'
                rw [List.drop_eq_getElem_cons h1, List.drop_eq_getElem_cons h2, e1, e2]
                rfl
              rw [hs] at st
              have hsw : 0 < cmpI b.o a.o ↔ ¬ 0 ≤ cmpI a.o b.o := cmp_ge6 a.o b.o
              have HC := hideK (show ∀ W : World, Calls Try.prog 59 #[.agg #[.int .i64 a.o.N, .int .i64 a.o.D], .agg #[.int .i64 b.o.N, .int .i64 b.o.D]] W fun e w' => e = .returned (.int .i64 (cmpI a.o b.o)) ∧ Below W.heap.size W w' from fun (W : World) => rcmp_any a.o b.o (HQ.out a (List.mem_of_getElem? ha)).2 (HQ.out b (List.mem_of_getElem? hb')).2 W)
              obtain ⟨cc, hcc⟩ : ∃ z, cmpI a.o b.o = z := ⟨_, rfl⟩
              rw [hcc] at HC hsw
              have ST := hideK (And.intro st hsw)
              have HB := hideK hb
              have p0 : ∀ q : GrownQ wq, q.V.cell? ⟨(A.add (i * 4)).block, (A.add (i * 4)).off + 2, none⟩ = some (.int .i64 a.o.N) := fun q => (q.h.cell (p := ⟨(A.add (i * 4)).block, (A.add (i * 4)).off + 2, none⟩) kA).trans a2
              have p1 : ∀ q : GrownQ wq, q.V.cell? ⟨(A.add (i * 4)).block, (A.add (i * 4)).off + 3, none⟩ = some (.int .i64 a.o.D) := fun q => (q.h.cell (p := ⟨(A.add (i * 4)).block, (A.add (i * 4)).off + 3, none⟩) kA).trans a3
              have q0 : ∀ q : GrownQ wq, q.V.cell? ⟨(A.add ((i + 1) * 4)).block, (A.add ((i + 1) * 4)).off + 2, none⟩ = some (.int .i64 b.o.N) := fun q => (q.h.cell (p := ⟨(A.add ((i + 1) * 4)).block, (A.add ((i + 1) * 4)).off + 2, none⟩) kB).trans b2
              have q1 : ∀ q : GrownQ wq, q.V.cell? ⟨(A.add ((i + 1) * 4)).block, (A.add ((i + 1) * 4)).off + 3, none⟩ = some (.int .i64 b.o.D) := fun q => (q.h.cell (p := ⟨(A.add ((i + 1) * 4)).block, (A.add ((i + 1) * 4)).off + 3, none⟩) kB).trans b3
              clear st hsw hcc a0 a1 a2 a3 b0 b1 b2 b3 hA hAb kA kB ha hb' hs hb HBe
              obtain ⟨j, hj⟩ : ∃ j, i + 1 = j := ⟨_, rfl⟩
              have hj1 : 1 ≤ j ∧ j < n := by omega
              rw [hj] at q0 q1 ST ⊢
              have d1 : (j : Int) < (n : Int) := by omega
              have wj : IntKind.i64.wrap ((j : Int) - 1) = (i : Int) := by rw [show (j : Int) - 1 = (i : Int) by omega]; exact IntWalk.i64_in _ ⟨by omega, by omega⟩
              have wk : IntKind.i64.wrap ((j : Int) + 1) = ((j + 1 : Nat) : Int) := by rw [show ((j + 1 : Nat) : Int) = (j : Int) + 1 by omega]; exact IntWalk.i64_in _ ⟨by omega, by omega⟩
              have di : (i : Int) < (n : Int) := by omega
              go_upto_region 18 with fail
              refine region_grown wq wq (by kernel_rfl) (by kernel_rfl) (Below.refl _ _) ?_
              repeat (go_big_quiet_step (first
                | (rename_i q; (with_reducible refine (HC.out _).mono ?_); rintro e V1 ⟨rfl, h1⟩; exact ⟨rfl, ⟨V1, q.h.trans (h1.mono q.h.size)⟩, rfl⟩)))
              refine wpQuiet_nil ?_
              rintro W9 ⟨⟨V9, hb9⟩, hv9⟩
              have hv9 : W9 = V9 := hv9
              subst hv9
              have HB9 := hideK (bup HB.out hb9)
              clear hv9 hb9 p0 p1 q0 q1
              by_cases hz : 0 ≤ cc
              · have hf : riseB (·.o) Q = false := by rw [ST.out.1, decide_eq_false (fun h => ST.out.2.1 h hz), Bool.false_and]
                have HE := hideK hf
                clear hf
                go_wp2_with fail
                go_ret
                refine ⟨?_, HB9.out⟩
                rw [HV.out, if_neg h0, if_neg h64, if_neg (by rw [HRg.out]; simp), if_neg (by rw [HRi.out]; simp), if_pos HE.out]
                rfl
              · have HE : Hid (riseB (·.o) Q = riseB (·.o) (Q.drop j)) := hideK (by rw [ST.out.1, decide_eq_true (ST.out.2.2 hz), Bool.true_and])
                go_wp2_with fail
                go_roundw
                case rel => exact ⟨j + 1, by first | rfl | simp, by omega, by omega, by rw [Nat.add_sub_cancel]; exact HE.out.symm, HB9.out⟩
                case measure => simp [intOf]; omega
            · have d1 : ¬ ((i + 1 : Nat) : Int) < (n : Int) := by omega
              have d2 : ¬ (i : Int) + 1 < (n : Int) := by omega
              have HRo : Hid (riseB (·.o) Q = true) := hideK (by rw [← hs]; exact riseB_end _ (by rw [HN.out]; omega))
              have HBe := hideK hb
              clear hb hs
              go_wp2_with fail
              go_ret
              refine ⟨?_, HBe.out⟩
              rw [HV.out, if_neg h0, if_neg h64, if_neg (by rw [HRg.out]; simp), if_neg (by rw [HRi.out]; simp), if_neg (by rw [HRo.out]; simp)]
              rfl
end Go.Proofs.Ytipnefaggpigfaa

/- The reference's Apply and Undo (chapter 6). -/
namespace Go.Proofs.Ytipnefaggpigfaa
open Go.RowKit Go.Shelf

set_option maxRecDepth 100000 in
set_option maxHeartbeats 2000000 in
theorem rapply_any (K : List Kn) (B : Nat) (t : Rt) (hK : ∀ x ∈ K, KnIn x) (ht : RtIn t) (hl : K.length ≤ 1000) (h2K : 2 ≤ K.length) (hr : RisQ (·.i) K) (w : World) (hM : RMapAt w B K (slL K)) :
    Calls Try.prog 40 #[.pointer (some ⟨B, 0, none⟩), .agg #[.int .i64 t.N, .int .i64 t.D]] w fun e w' => e = .returned (.tuple #[.agg #[.int .i64 (appF K (slsK K) t).1.N, .int .i64 (appF K (slsK K) t).1.D], .int .i64 (appF K (slsK K) t).2]) ∧ Below w.heap.size w w' := by
  obtain ⟨PO, hPO⟩ : ∃ PO : Ending → World → Prop, (fun e w' => e = .returned (.tuple #[.agg #[.int .i64 (appF K (slsK K) t).1.N, .int .i64 (appF K (slsK K) t).1.D], .int .i64 (appF K (slsK K) t).2]) ∧ Below w.heap.size w w') = PO := ⟨_, rfl⟩
  have HP := hideK hPO
  rw [hPO]
  have HRi := hideK (show ∀ W : World, Calls Try.prog 58 #[.agg #[.int .i64 t.N, .int .i64 t.D]] W fun e w' => e = .returned (.bool (rightB t)) ∧ Below W.heap.size W w' from rright_r t ht)
  have HFr := hideK (fun (W : World) (q : Below w.heap.size w W) => rfrom_in K B t hK ht hl h2K W (hM.keep q))
  have HRk := hideK (fun (x : Kn) (s : Rt) (hx : x ∈ K) (hs : s ∈ slL K) (W : World) => rreckon_any x s t (hK x hx) (slL_in K hK s hs) ht W)
  have HF : Hid (∀ x s, rightB t = true → PieceOf (·.i) K (slsK K) t x s → appF K (slsK K) t = recA mulA t x.i x.o s) := hideK (fun x s hrt hp => by
    obtain ⟨e1, e2⟩ := piece_uniq (ris_mono hr hrt) (piece_ix (·.i) K (slsK K) t (by omega) (sls_len K (by omega))) hp
    unfold appF
    rw [if_pos hrt, e1, e2])
  have HN : Hid (rightB t = false → appF K (slsK K) t = (⟨0, 0⟩, 12)) := hideK (fun h => by
    unfold appF
    rw [if_neg (by rw [h]; simp)])
  clear hPO hK ht hr hM
  generalize appF K (slsK K) t = r at *
  go_enter Try.func40, Try.ntmps40
  go_upto_region 1 with fail
  obtain ⟨V, hV⟩ : ∃ V, (w.alloc (.cells #[.int .i64 t.N, .int .i64 t.D] 42)).alloc (.cells #[.int .i64 0, .int .i64 0] 42) = V := ⟨_, rfl⟩
  have HV : Hid (Below w.heap.size w V ∧ Two V w.heap.size (.int .i64 t.N) (.int .i64 t.D) ∧ Two V (w.heap.size + 1) (.int .i64 0) (.int .i64 0)) := hideK (by
    rw [← hV]
    have h2 := Two.new (w.alloc (.cells #[.int .i64 t.N, .int .i64 t.D] 42)) (.int .i64 0) (.int .i64 0) 42
    rw [World.size_alloc] at h2
    exact ⟨bup (bel1 _ _) (bel1 _ _), (Two.new _ _ _ _).alloc _, h2⟩)
  rw [hV]
  clear hV
  obtain ⟨_, t0, t1, _, _⟩ := HV.out.2.1
  go_wp2_with fail
  refine (HRi.out V).mono ?_
  rintro e w1 ⟨rfl, b1⟩
  have H1 := hideK (And.intro (bup HV.out.1 b1) (And.intro (HV.out.2.1.keep b1) (HV.out.2.2.keep b1)))
  clear b1 t0 t1 HV HRi
  by_cases hrt : rightB t = true
  · have HT := hideK hrt
    rw [hrt]
    obtain ⟨_, t0, t1, _, _⟩ := H1.out.2.1
    clear hrt
    go_wp2_with fail
    refine (HFr.out w1 H1.out.1).mono ?_
    rintro e w2 ⟨x, s, hp, hm, rfl, b2⟩
    have H2 := hideK (And.intro (bup H1.out.1 b2) (And.intro (H1.out.2.1.keep b2) (H1.out.2.2.keep b2)))
    have HPc := hideK (HF.out x s HT.out hp)
    have HRx := hideK (HRk.out x s hm.1 hm.2)
    clear b2 t0 t1 H1 hp hm HF HFr HRk
    go_upto_region 4 with fail
    obtain ⟨X, hX⟩ : ∃ X, (w2.alloc (.cells #[.int .i64 x.i.N, .int .i64 x.i.D, .int .i64 x.o.N, .int .i64 x.o.D] 45)).alloc (.cells #[.int .i64 s.N, .int .i64 s.D] 42) = X := ⟨_, rfl⟩
    have HX : Hid (Below w.heap.size w X ∧ Two X w.heap.size (.int .i64 t.N) (.int .i64 t.D) ∧ Two X (w.heap.size + 1) (.int .i64 0) (.int .i64 0) ∧ X.heap[w2.heap.size]? = some (.cells #[.int .i64 x.i.N, .int .i64 x.i.D, .int .i64 x.o.N, .int .i64 x.o.D] 45) ∧ Two X (w2.heap.size + 1) (.int .i64 s.N) (.int .i64 s.D)) := hideK (by
      rw [← hX]
      have h2 := Two.new (w2.alloc (.cells #[.int .i64 x.i.N, .int .i64 x.i.D, .int .i64 x.o.N, .int .i64 x.o.D] 45)) (.int .i64 s.N) (.int .i64 s.D) 42
      rw [World.size_alloc] at h2
      exact ⟨bup H2.out.1 (bup (bel1 _ _) (bel1 _ _)), H2.out.2.1.keep (bup (bel1 _ _) (bel1 _ _)), H2.out.2.2.keep (bup (bel1 _ _) (bel1 _ _)), (Below.heap_alloc _ _ _ (by simp only [World.size_alloc]; omega)).trans (World.alloc_heap_new _ _), h2⟩)
    rw [hX]
    clear hX H2
    generalize w2.heap.size = b at *
    obtain ⟨_, t0, t1, _, _⟩ := HX.out.2.1
    obtain ⟨k0, k1, k2, k3⟩ := blk4 HX.out.2.2.2.1
    obtain ⟨_, s0, s1, _, _⟩ := HX.out.2.2.2.2
    go_wp2_with fail
    refine (HRx.out X).mono ?_
    rintro e w3 ⟨rfl, b3⟩
    have H3 := hideK (And.intro (bup HX.out.1 b3) (HX.out.2.2.1.keep b3))
    clear b3 t0 t1 k0 k1 k2 k3 s0 s1 HX HRx
    obtain ⟨_, z0, z1, f0, f1⟩ := H3.out.2
    rw [← HPc.out]
    go_wp2_with fail
    refine bodyPost_ret (v := .tuple #[.agg #[.int .i64 r.1.N, .int .i64 r.1.D], .int .i64 r.2]) (by simp [results, Try.results40, go_sem, z0, z1]) rfl ?_
    rw [← HP.out]
    exact ⟨rfl, (H3.out.1.setCell (by show w.heap.size ≤ w.heap.size + 1; omega) _).setCell (by show w.heap.size ≤ w.heap.size + 1; omega) _⟩
  · have hrf : rightB t = false := by simpa using hrt
    obtain rfl := HN.out hrf
    rw [hrf]
    obtain ⟨_, z0, z1, f0, f1⟩ := H1.out.2.2
    clear hrt hrf HN HF HFr HRk
    go_wp2_with fail
    refine bodyPost_ret (v := .tuple #[.agg #[.int .i64 0, .int .i64 0], .int .i64 12]) (by simp [results, Try.results40, go_sem, z0, z1]) rfl ?_
    rw [← HP.out]
    exact ⟨rfl, (H1.out.1.setCell (by show w.heap.size ≤ w.heap.size + 1; omega) _).setCell (by show w.heap.size ≤ w.heap.size + 1; omega) _⟩
set_option maxRecDepth 100000 in
set_option maxHeartbeats 2000000 in
theorem rundo_any (K : List Kn) (B : Nat) (t : Rt) (hK : ∀ x ∈ K, KnIn x) (ht : RtIn t) (hl : K.length ≤ 1000) (h2K : 2 ≤ K.length) (hr : RisQ (·.o) K) (w : World) (hM : RMapAt w B K (slL K)) :
    Calls Try.prog 38 #[.pointer (some ⟨B, 0, none⟩), .agg #[.int .i64 t.N, .int .i64 t.D]] w fun e w' => e = .returned (.tuple #[.agg #[.int .i64 (undF K (slsK K) t).1.N, .int .i64 (undF K (slsK K) t).1.D], .int .i64 (undF K (slsK K) t).2]) ∧ Below w.heap.size w w' := by
  obtain ⟨PO, hPO⟩ : ∃ PO : Ending → World → Prop, (fun e w' => e = .returned (.tuple #[.agg #[.int .i64 (undF K (slsK K) t).1.N, .int .i64 (undF K (slsK K) t).1.D], .int .i64 (undF K (slsK K) t).2]) ∧ Below w.heap.size w w') = PO := ⟨_, rfl⟩
  have HP := hideK hPO
  rw [hPO]
  have HRi := hideK (show ∀ W : World, Calls Try.prog 58 #[.agg #[.int .i64 t.N, .int .i64 t.D]] W fun e w' => e = .returned (.bool (rightB t)) ∧ Below W.heap.size W w' from rright_r t ht)
  have HFr := hideK (fun (W : World) (q : Below w.heap.size w W) => rfrom_out K B t hK ht hl h2K W (hM.keep q))
  have HRk := hideK (fun (x : Kn) (s : Rt) (hx : x ∈ K) (hs : s ∈ slL K) (W : World) => rback_any x s t (hK x hx) (slL_in K hK s hs) ht W)
  have HF : Hid (∀ x s, rightB t = true → PieceOf (·.o) K (slsK K) t x s → undF K (slsK K) t = recA divA t x.o x.i s) := hideK (fun x s hrt hp => by
    obtain ⟨e1, e2⟩ := piece_uniq (ris_mono hr hrt) (piece_ix (·.o) K (slsK K) t (by omega) (sls_len K (by omega))) hp
    unfold undF
    rw [if_pos hrt, e1, e2])
  have HN : Hid (rightB t = false → undF K (slsK K) t = (⟨0, 0⟩, 12)) := hideK (fun h => by
    unfold undF
    rw [if_neg (by rw [h]; simp)])
  clear hPO hK ht hr hM
  generalize undF K (slsK K) t = r at *
  go_enter Try.func38, Try.ntmps38
  go_upto_region 1 with fail
  obtain ⟨V, hV⟩ : ∃ V, (w.alloc (.cells #[.int .i64 t.N, .int .i64 t.D] 42)).alloc (.cells #[.int .i64 0, .int .i64 0] 42) = V := ⟨_, rfl⟩
  have HV : Hid (Below w.heap.size w V ∧ Two V w.heap.size (.int .i64 t.N) (.int .i64 t.D) ∧ Two V (w.heap.size + 1) (.int .i64 0) (.int .i64 0)) := hideK (by
    rw [← hV]
    have h2 := Two.new (w.alloc (.cells #[.int .i64 t.N, .int .i64 t.D] 42)) (.int .i64 0) (.int .i64 0) 42
    rw [World.size_alloc] at h2
    exact ⟨bup (bel1 _ _) (bel1 _ _), (Two.new _ _ _ _).alloc _, h2⟩)
  rw [hV]
  clear hV
  obtain ⟨_, t0, t1, _, _⟩ := HV.out.2.1
  go_wp2_with fail
  refine (HRi.out V).mono ?_
  rintro e w1 ⟨rfl, b1⟩
  have H1 := hideK (And.intro (bup HV.out.1 b1) (And.intro (HV.out.2.1.keep b1) (HV.out.2.2.keep b1)))
  clear b1 t0 t1 HV HRi
  by_cases hrt : rightB t = true
  · have HT := hideK hrt
    rw [hrt]
    obtain ⟨_, t0, t1, _, _⟩ := H1.out.2.1
    clear hrt
    go_wp2_with fail
    refine (HFr.out w1 H1.out.1).mono ?_
    rintro e w2 ⟨x, s, hp, hm, rfl, b2⟩
    have H2 := hideK (And.intro (bup H1.out.1 b2) (And.intro (H1.out.2.1.keep b2) (H1.out.2.2.keep b2)))
    have HPc := hideK (HF.out x s HT.out hp)
    have HRx := hideK (HRk.out x s hm.1 hm.2)
    clear b2 t0 t1 H1 hp hm HF HFr HRk
    go_upto_region 4 with fail
    obtain ⟨X, hX⟩ : ∃ X, (w2.alloc (.cells #[.int .i64 x.i.N, .int .i64 x.i.D, .int .i64 x.o.N, .int .i64 x.o.D] 45)).alloc (.cells #[.int .i64 s.N, .int .i64 s.D] 42) = X := ⟨_, rfl⟩
    have HX : Hid (Below w.heap.size w X ∧ Two X w.heap.size (.int .i64 t.N) (.int .i64 t.D) ∧ Two X (w.heap.size + 1) (.int .i64 0) (.int .i64 0) ∧ X.heap[w2.heap.size]? = some (.cells #[.int .i64 x.i.N, .int .i64 x.i.D, .int .i64 x.o.N, .int .i64 x.o.D] 45) ∧ Two X (w2.heap.size + 1) (.int .i64 s.N) (.int .i64 s.D)) := hideK (by
      rw [← hX]
      have h2 := Two.new (w2.alloc (.cells #[.int .i64 x.i.N, .int .i64 x.i.D, .int .i64 x.o.N, .int .i64 x.o.D] 45)) (.int .i64 s.N) (.int .i64 s.D) 42
      rw [World.size_alloc] at h2
      exact ⟨bup H2.out.1 (bup (bel1 _ _) (bel1 _ _)), H2.out.2.1.keep (bup (bel1 _ _) (bel1 _ _)), H2.out.2.2.keep (bup (bel1 _ _) (bel1 _ _)), (Below.heap_alloc _ _ _ (by simp only [World.size_alloc]; omega)).trans (World.alloc_heap_new _ _), h2⟩)
    rw [hX]
    clear hX H2
    generalize w2.heap.size = b at *
    obtain ⟨_, t0, t1, _, _⟩ := HX.out.2.1
    obtain ⟨k0, k1, k2, k3⟩ := blk4 HX.out.2.2.2.1
    obtain ⟨_, s0, s1, _, _⟩ := HX.out.2.2.2.2
    go_wp2_with fail
    refine (HRx.out X).mono ?_
    rintro e w3 ⟨rfl, b3⟩
    have H3 := hideK (And.intro (bup HX.out.1 b3) (HX.out.2.2.1.keep b3))
    clear b3 t0 t1 k0 k1 k2 k3 s0 s1 HX HRx
    obtain ⟨_, z0, z1, f0, f1⟩ := H3.out.2
    rw [← HPc.out]
    go_wp2_with fail
    refine bodyPost_ret (v := .tuple #[.agg #[.int .i64 r.1.N, .int .i64 r.1.D], .int .i64 r.2]) (by simp [results, Try.results38, go_sem, z0, z1]) rfl ?_
    rw [← HP.out]
    exact ⟨rfl, (H3.out.1.setCell (by show w.heap.size ≤ w.heap.size + 1; omega) _).setCell (by show w.heap.size ≤ w.heap.size + 1; omega) _⟩
  · have hrf : rightB t = false := by simpa using hrt
    obtain rfl := HN.out hrf
    rw [hrf]
    obtain ⟨_, z0, z1, f0, f1⟩ := H1.out.2.2
    clear hrt hrf HN HF HFr HRk
    go_wp2_with fail
    refine bodyPost_ret (v := .tuple #[.agg #[.int .i64 0, .int .i64 0], .int .i64 12]) (by simp [results, Try.results38, go_sem, z0, z1]) rfl ?_
    rw [← HP.out]
    exact ⟨rfl, (H1.out.1.setCell (by show w.heap.size ≤ w.heap.size + 1; omega) _).setCell (by show w.heap.size ≤ w.heap.size + 1; omega) _⟩
end Go.Proofs.Ytipnefaggpigfaa
