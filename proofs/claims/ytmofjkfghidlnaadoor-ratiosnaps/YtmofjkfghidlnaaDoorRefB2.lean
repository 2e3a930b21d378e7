/- The contract of surtitleref3.whole. -/
import Derived.Test.YtmofjkfghidlnaaDoorRefB1
import Derived.Test.YtmofjkfghidlnaaDoorRefA9
import Derived.Deep.RegionHeld3
namespace Go.Proofs.YtmofjkfghidlnaaDoor
open Go.RowKit Go.Shelf
attribute [local go_sem] Oper.semAt_some

set_option maxRecDepth 100000 in
set_option maxHeartbeats 1000000 in
theorem rwhole_floor (an dn vn : Bool) (ah al dh dl vh vl : Int)
    (HF : ∀ w, Calls Tryd.prog 98 #[.agg #[.bool an, .int .u64 ah, .int .u64 al], .agg #[.bool dn, .int .u64 dh, .int .u64 dl]] w fun e w' => e = .returned (.agg #[.bool vn, .int .u64 vh, .int .u64 vl]) ∧ Below w.heap.size w w') (w : World) :
    Calls Tryd.prog 76 #[.agg #[.bool an, .int .u64 ah, .int .u64 al], .agg #[.bool dn, .int .u64 dh, .int .u64 dl], .int .i64 1] w fun e w' => e = .returned (.agg #[.bool vn, .int .u64 vh, .int .u64 vl]) ∧ Below w.heap.size w w' := by
  have HF := hideR HF
  go_enter Tryd.func76, Tryd.ntmps76
  go_wp2_with fail
  go_at_call 98
  refine Calls.mono (HF.out _) ?_
  rintro e w1 ⟨rfl, b1⟩
  have S1 := (tri3_new an dn ah al dh dl w).keep b1
  have B1 := bup (bel3 w _ _ _) b1
  clear b1
  obtain ⟨_, _, ⟨zz, r0, r1, r2, f0, f1, f2⟩⟩ := id S1
  go_wp2_with fail
  exact bodyPost_ret (v := .agg #[.bool vn, .int .u64 vh, .int .u64 vl]) (by simp [results, Tryd.results76, go_sem, r0, r1, r2]) rfl ⟨rfl, ((B1.setCell (by simp; omega) _).setCell (by simp; omega) _).setCell (by simp; omega) _⟩

set_option maxRecDepth 100000 in
set_option maxHeartbeats 1000000 in
theorem rwhole_near (an dn pn qn en vn : Bool) (ah al dh dl ph pl qh ql eh el vh vl : Int)
    (H1 : ∀ w, Calls Tryd.prog 70 #[.agg #[.bool an, .int .u64 ah, .int .u64 al], .agg #[.bool an, .int .u64 ah, .int .u64 al]] w fun e w' => e = .returned (.agg #[.bool pn, .int .u64 ph, .int .u64 pl]) ∧ Below w.heap.size w w')
    (H2 : ∀ w, Calls Tryd.prog 70 #[.agg #[.bool pn, .int .u64 ph, .int .u64 pl], .agg #[.bool dn, .int .u64 dh, .int .u64 dl]] w fun e w' => e = .returned (.agg #[.bool qn, .int .u64 qh, .int .u64 ql]) ∧ Below w.heap.size w w')
    (H3 : ∀ w, Calls Tryd.prog 70 #[.agg #[.bool dn, .int .u64 dh, .int .u64 dl], .agg #[.bool dn, .int .u64 dh, .int .u64 dl]] w fun e w' => e = .returned (.agg #[.bool en, .int .u64 eh, .int .u64 el]) ∧ Below w.heap.size w w')
    (H4 : ∀ w, Calls Tryd.prog 98 #[.agg #[.bool qn, .int .u64 qh, .int .u64 ql], .agg #[.bool en, .int .u64 eh, .int .u64 el]] w fun e w' => e = .returned (.agg #[.bool vn, .int .u64 vh, .int .u64 vl]) ∧ Below w.heap.size w w') (w : World) :
    Calls Tryd.prog 76 #[.agg #[.bool an, .int .u64 ah, .int .u64 al], .agg #[.bool dn, .int .u64 dh, .int .u64 dl], .int .i64 2] w fun e w' => e = .returned (.agg #[.bool vn, .int .u64 vh, .int .u64 vl]) ∧ Below w.heap.size w w' := by
  have H1 := hideR H1
  have H2 := hideR H2
  have H3 := hideR H3
  have H4 := hideR H4
  go_enter Tryd.func76, Tryd.ntmps76
  go_wp2_with fail
  obtain ⟨N0, D0, R0⟩ := tri3_new an dn ah al dh dl w
  have B0 := bel3 w (.cells #[.bool an, .int .u64 ah, .int .u64 al] 76) (.cells #[.bool dn, .int .u64 dh, .int .u64 dl] 76) (.cells #[.bool false, .int .u64 0, .int .u64 0] 76)
  have SC := s33 N0 D0
  go_region_held3 (fun w' => w'.cell? ⟨w.heap.size, 0, none⟩ = some (.bool an) ∧ w'.cell? ⟨w.heap.size, 1, none⟩ = some (.int .u64 ah) ∧ w'.cell? ⟨w.heap.size, 2, none⟩ = some (.int .u64 al) ∧ w'.cell? ⟨w.heap.size + 1, 0, none⟩ = some (.bool dn) ∧ w'.cell? ⟨w.heap.size + 1, 1, none⟩ = some (.int .u64 dh) ∧ w'.cell? ⟨w.heap.size + 1, 2, none⟩ = some (.int .u64 dl)) (first | assumption | exact s33 (((N4.other (by omega)).other (by omega)).other (by omega)) (((D4.other (by omega)).other (by omega)).other (by omega)) | go_keep)
    (first | (go_at_call 98; refine (H4.out _).mono ?_; rintro e w4 ⟨rfl, b4⟩; have N4 := N3.keep b4; have D4 := D3.keep b4; have R4 := R3.keep b4; have S4 := s33 N4 D4; obtain ⟨_, k0, k1, k2, k3, k4, k5⟩ := id R4) | (go_at_call_of 70 ah; refine (H1.out _).mono ?_; rintro e w1 ⟨rfl, b1⟩; have N1 := N0.drew.keep b1; have D1 := D0.drew.keep b1; have R1 := R0.drew.keep b1; have S1 := s33 N1 D1) | (go_at_call_of 70 ph; refine (H2.out _).mono ?_; rintro e w2 ⟨rfl, b2⟩; have N2 := N1.keep b2; have D2 := D1.keep b2; have R2 := R1.keep b2; have S2 := s33 N2 D2) | (go_at_call_of 70 dh; refine (H3.out _).mono ?_; rintro e w3 ⟨rfl, b3⟩; have N3 := N2.keep b3; have D3 := D2.keep b3; have R3 := R2.keep b3; have S3 := s33 N3 D3))
  all_goals (try go_wp2_with fail)
  all_goals exact bodyPost_ret (v := .agg #[.bool vn, .int .u64 vh, .int .u64 vl]) (by simp [results, Tryd.results76, go_sem, k0, k1, k2]) rfl ⟨rfl, (((bup (bup (bup (bup B0.drew b1) b2) b3) b4).setCell (by simp; omega) _).setCell (by simp; omega) _).setCell (by simp; omega) _⟩

set_option maxRecDepth 100000 in
set_option maxHeartbeats 1000000 in
theorem rwhole_ceil (an dn rn fn vn : Bool) (ah al dh dl rh rl fh fl vh vl : Int)
    (H1 : ∀ w, Calls Tryd.prog 63 #[.agg #[.bool (!an), .int .u64 ah, .int .u64 al]] w fun e w' => e = .returned (.agg #[.bool rn, .int .u64 rh, .int .u64 rl]) ∧ Below w.heap.size w w')
    (H2 : ∀ w, Calls Tryd.prog 98 #[.agg #[.bool rn, .int .u64 rh, .int .u64 rl], .agg #[.bool dn, .int .u64 dh, .int .u64 dl]] w fun e w' => e = .returned (.agg #[.bool fn, .int .u64 fh, .int .u64 fl]) ∧ Below w.heap.size w w')
    (H3 : ∀ w, Calls Tryd.prog 63 #[.agg #[.bool (!fn), .int .u64 fh, .int .u64 fl]] w fun e w' => e = .returned (.agg #[.bool vn, .int .u64 vh, .int .u64 vl]) ∧ Below w.heap.size w w') (w : World) :
    Calls Tryd.prog 76 #[.agg #[.bool an, .int .u64 ah, .int .u64 al], .agg #[.bool dn, .int .u64 dh, .int .u64 dl], .int .i64 3] w fun e w' => e = .returned (.agg #[.bool vn, .int .u64 vh, .int .u64 vl]) ∧ Below w.heap.size w w' := by
  have H1 := hideR H1
  have H2 := hideR H2
  have H3 := hideR H3
  go_enter Tryd.func76, Tryd.ntmps76
  go_wp2_with fail
  obtain ⟨N0, D0, R0⟩ := tri3_new (!an) dn ah al dh dl w
  have B0 := bel3 w (.cells #[.bool (!an), .int .u64 ah, .int .u64 al] 76) (.cells #[.bool dn, .int .u64 dh, .int .u64 dl] 76) (.cells #[.bool false, .int .u64 0, .int .u64 0] 76)
  have z0 : w.heap.size + 1 + 1 < (((w.alloc (.cells #[.bool (!an), .int .u64 ah, .int .u64 al] 76)).alloc (.cells #[.bool dn, .int .u64 dh, .int .u64 dl] 76)).alloc (.cells #[.bool false, .int .u64 0, .int .u64 0] 76)).heap.size := R0.1
  generalize ((w.alloc (.cells #[.bool (!an), .int .u64 ah, .int .u64 al] 76)).alloc (.cells #[.bool dn, .int .u64 dh, .int .u64 dl] 76)).alloc (.cells #[.bool false, .int .u64 0, .int .u64 0] 76) = V at *
  have SC := s33 N0 D0
  go_region_held3 (fun w' => w'.cell? ⟨w.heap.size, 0, none⟩ = some (.bool !an) ∧ w'.cell? ⟨w.heap.size, 1, none⟩ = some (.int .u64 ah) ∧ w'.cell? ⟨w.heap.size, 2, none⟩ = some (.int .u64 al) ∧ w'.cell? ⟨w.heap.size + 1, 0, none⟩ = some (.bool dn) ∧ w'.cell? ⟨w.heap.size + 1, 1, none⟩ = some (.int .u64 dh) ∧ w'.cell? ⟨w.heap.size + 1, 2, none⟩ = some (.int .u64 dl)) (first | assumption | exact s33 (N0.drew.alloc _) (D0.drew.alloc _) | exact s33 (N1.alloc _) (D1.alloc _) | exact s33 (N2.alloc _) (D2.alloc _) | exact s33 (((N2.other (by omega)).other (by omega)).other (by omega)) (((D2.other (by omega)).other (by omega)).other (by omega)) | go_keep)
    (first
    | (go_at_call 63; refine (H1.out _).mono ?_; rintro e w1 ⟨rfl, b1⟩
       first
       | (have B1 : Below V.heap.size V w1 := bup (Below.refl _ _).drew b1
          have z1 := B1.size
          have N1 := N0.keep B1; have D1 := D0.keep B1; have R1 := R0.keep B1; have S1 := s33 N1 D1)
       | (have B1 : Below V.heap.size V w1 := bup ((Below.refl _ _).drew.alloc (Nat.le_refl _) _) b1
          have z1 := B1.size
          have X1 : Tri w1 V.heap.size false 0 0 := (Tri.new V.drew false 0 0 76).keep b1
          have N1 := N0.keep B1; have D1 := D0.keep B1; have R1 := R0.keep B1; have S1 := s33 N1 D1))
    | (go_at_call 98; refine (H2.out _).mono ?_; rintro e w2 ⟨rfl, b2⟩
       first
       | (have B2 : Below V.heap.size V w2 := bup B1 b2
          have z2 := B2.size
          have X2 := X1.keep b2
          have N2 := N0.keep B2; have D2 := D0.keep B2; have R2 := R0.keep B2; have S2 := s33 N2 D2; obtain ⟨_, x0, x1, x2, x3, x4, x5⟩ := id X2)
       | (have B2 : Below V.heap.size V w2 := bup B1 b2
          have z2 := B2.size
          have N2 := N0.keep B2; have D2 := D0.keep B2; have R2 := R0.keep B2; have S2 := s33 N2 D2)
       | (have B2 : Below V.heap.size V w2 := bup (bup B1 (bel1 w1 _)) b2
          have z2 := B2.size
          have X2 : Tri w2 w1.heap.size false 0 0 := (Tri.new w1 false 0 0 76).keep b2
          have N2 := N0.keep B2; have D2 := D0.keep B2; have R2 := R0.keep B2; have S2 := s33 N2 D2; obtain ⟨_, x0, x1, x2, x3, x4, x5⟩ := id X2)))
  all_goals (try go_wp2_with fail)
  · have R3 := R2.alloc (.cells #[.bool (!fn), .int .u64 fh, .int .u64 fl] 76)
    have B3 := bup (bup B0 B2) (bel1 w2 (.cells #[.bool (!fn), .int .u64 fh, .int .u64 fl] 76))
    go_at_call 63
    refine Calls.mono (H3.out _) ?_
    rintro e w5 ⟨rfl, b5⟩
    have R5 := R3.keep b5
    have B5 := bup B3 b5
    obtain ⟨_, k0, k1, k2, k3, k4, k5⟩ := id R5
    go_wp2_with fail
    exact bodyPost_ret (v := .agg #[.bool vn, .int .u64 vh, .int .u64 vl]) (by simp [results, Tryd.results76, go_sem, k0, k1, k2]) rfl ⟨rfl, ((B5.setCell (by simp; omega) _).setCell (by simp; omega) _).setCell (by simp; omega) _⟩
  · have R3 := (((R2.other (S := w1.heap.size) (i := 0) (x := .bool fn) (by omega)).other (S := w1.heap.size) (i := 1) (x := .int .u64 fh) (by omega)).other (S := w1.heap.size) (i := 2) (x := .int .u64 fl) (by omega)).other (S := w1.heap.size) (i := 0) (x := .bool !fn) (by omega)
    have B3 := ((((bup B0 B2).setCell (p := ⟨w1.heap.size, 0, none⟩) (by simp; omega) (.bool fn)).setCell (p := ⟨w1.heap.size, 1, none⟩) (by simp; omega) (.int .u64 fh)).setCell (p := ⟨w1.heap.size, 2, none⟩) (by simp; omega) (.int .u64 fl)).setCell (p := ⟨w1.heap.size, 0, none⟩) (by simp; omega) (.bool !fn)
    go_at_call 63
    refine Calls.mono (H3.out _) ?_
    rintro e w5 ⟨rfl, b5⟩
    have R5 := R3.keep b5
    have B5 := bup B3 b5
    obtain ⟨_, k0, k1, k2, k3, k4, k5⟩ := id R5
    go_wp2_with fail
    exact bodyPost_ret (v := .agg #[.bool vn, .int .u64 vh, .int .u64 vl]) (by simp [results, Tryd.results76, go_sem, k0, k1, k2]) rfl ⟨rfl, ((B5.setCell (by simp; omega) _).setCell (by simp; omega) _).setCell (by simp; omega) _⟩
  · have R3 := (((R2.other (S := V.heap.size) (i := 0) (x := .bool fn) (by omega)).other (S := V.heap.size) (i := 1) (x := .int .u64 fh) (by omega)).other (S := V.heap.size) (i := 2) (x := .int .u64 fl) (by omega)).other (S := V.heap.size) (i := 0) (x := .bool !fn) (by omega)
    have B3 := ((((bup B0 B2).setCell (p := ⟨V.heap.size, 0, none⟩) (by simp; omega) (.bool fn)).setCell (p := ⟨V.heap.size, 1, none⟩) (by simp; omega) (.int .u64 fh)).setCell (p := ⟨V.heap.size, 2, none⟩) (by simp; omega) (.int .u64 fl)).setCell (p := ⟨V.heap.size, 0, none⟩) (by simp; omega) (.bool !fn)
    go_at_call 63
    refine Calls.mono (H3.out _) ?_
    rintro e w5 ⟨rfl, b5⟩
    have R5 := R3.keep b5
    have B5 := bup B3 b5
    obtain ⟨_, k0, k1, k2, k3, k4, k5⟩ := id R5
    go_wp2_with fail
    exact bodyPost_ret (v := .agg #[.bool vn, .int .u64 vh, .int .u64 vl]) (by simp [results, Tryd.results76, go_sem, k0, k1, k2]) rfl ⟨rfl, ((B5.setCell (by simp; omega) _).setCell (by simp; omega) _).setCell (by simp; omega) _⟩

theorem nv_neg (z : Int) (h : ¬ z = 0) : nv (-z) = .agg #[.bool (!decide (z < 0)), .int .u64 (hiZ (sz z)), .int .u64 (loZ (sz z))] := by
  unfold nv
  rw [show sz (-z) = sz z by unfold sz; omega]
  congr 4
  by_cases h1 : z < 0
  · rw [decide_eq_true h1, decide_eq_false (by omega)]; rfl
  · rw [decide_eq_false h1, decide_eq_true (by omega)]; rfl
theorem right_neg (z : Int) (hz : sz z ≤ 170141183460469231731687303715884105728) (w : World) :
    Calls Tryd.prog 63 #[.agg #[.bool (!decide (z < 0)), .int .u64 (hiZ (sz z)), .int .u64 (loZ (sz z))]] w fun e w' => e = .returned (nv (-z)) ∧ Below w.heap.size w w' := by
  have := right_sgn (!decide (z < 0)) (sz z) (sz_nonneg z) (by omega) w
  rw [show sgn (!decide (z < 0)) (sz z) = -z by unfold sgn sz; by_cases h : z < 0 <;> simp [h] <;> omega] at this
  exact this
theorem sz_div (a b : Int) (hb : 0 < b) : sz (a / b) ≤ sz a + 1 := by
  unfold sz
  by_cases h : 0 ≤ a
  · have := Int.ediv_le_self b h
    have := Int.ediv_nonneg h (show 0 ≤ b by omega)
    omega
  · have h2 : a / b < 0 := Int.ediv_neg_of_neg_of_pos (by omega) hb
    have h3 : a ≤ a / b := by
      apply Int.le_ediv_of_mul_le hb
      have : a * b ≤ a * 1 := Int.mul_le_mul_of_nonpos_left (by omega) (by omega)
      omega
    omega
theorem rwhole_any (n d how : Int) (hn : sz n ≤ 42535295865117307932921825928971026432) (hd : 0 < d) (hd2 : d ≤ 42535295865117307932921825928971026432) (hh : 1 ≤ how ∧ how ≤ 3) (w : World) :
    Calls Tryd.prog 76 #[nv n, nv d, .int .i64 how] w fun e w' => e = .returned (nv (wholeI how n d)) ∧ Below w.heap.size w w' := by
  have sd : sz d = d := by unfold sz; omega
  unfold wholeI
  by_cases h1 : how = 1
  · subst h1
    rw [if_pos rfl]
    exact rwhole_floor _ _ _ _ _ _ _ _ _ (rfloor_any n d (by omega) hd (by omega)) w
  · by_cases h2 : how = 2
    · subst h2
      rw [if_neg (by omega), if_pos rfl]
      have s1 : sz (n + n) ≤ 2 * sz n := by unfold sz; omega
      have s2 : sz (n + n + d) ≤ 2 * sz n + d := by unfold sz; omega
      have H4 := rfloor_any (n + n + d) (d + d) (by omega) (by omega) (by omega)
      rw [show n + n + d = 2 * n + d by omega, show d + d = 2 * d by omega] at H4
      have H3 := rplus_any d d (by omega)
      rw [show d + d = 2 * d by omega] at H3
      have H2 := rplus_any (n + n) d (by omega)
      rw [show n + n + d = 2 * n + d by omega] at H2
      exact rwhole_near _ _ _ _ _ _ _ _ _ _ _ _ _ _ _ _ _ _ (rplus_any n n (by omega)) H2 H3 H4 w
    · obtain rfl : how = 3 := by omega
      rw [if_neg h1, if_neg h2]
      have s1 : sz (-n) = sz n := by unfold sz; omega
      have s2 := sz_div (-n) d hd
      exact rwhole_ceil _ _ _ _ _ _ _ _ _ _ _ _ _ _ _ (right_neg n (by omega)) (rfloor_any (-n) d (by omega) hd (by omega)) (right_neg (-n / d) (by omega)) w
end Go.Proofs.YtmofjkfghidlnaaDoor
