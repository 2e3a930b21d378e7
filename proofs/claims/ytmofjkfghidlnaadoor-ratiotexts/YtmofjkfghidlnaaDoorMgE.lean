/- Several texts, one behind the other. -/
import Derived.Deep.RegionHeld3
import Derived.Test.YtmofjkfghidlnaaDoorMgD
import Derived.Test.YtmofjkfghidlnaaDoorRefLa
import Derived.Test.YtmofjkfghidlnaaDoorRefLb
/- Walks of surtitleref3: New, Add, Sub, Neg, Mul, Div, over what they call. -/
namespace Go.Proofs.YtmofjkfghidlnaaDoor
open Go.RowKit Go.Shelf
attribute [local go_sem] Oper.semAt_some

theorem Two.put1 {V : World} {R S i : Nat} {x y v : Value} (h : Two V R x y) (n : S ≠ R) : Two (V.setCell ⟨S, i, none⟩ v) R x y := by
  obtain ⟨z, c0, c1, f0, f1⟩ := h
  have n2 : R ≠ S := fun e => n e.symm
  exact ⟨by simpa using z, by go_simp, by go_simp, by go_simp, by go_simp⟩

set_option maxRecDepth 100000 in
set_option maxHeartbeats 1000000 in
theorem rnew_walk (n d s : Int) (tn un vn : Bool) (th tl : Int) (r : Rt × Int) (hd : (d < 0 ∧ un = !tn) ∨ (0 < d ∧ un = tn))
    (HT : ∀ w, Calls Tryd.prog 61 #[.int .i64 n, .int .i64 1] w fun e w' => e = .returned (.agg #[.bool tn, .int .u64 th, .int .u64 tl]) ∧ Below w.heap.size w w')
    (HR : ∀ w, Calls Tryd.prog 63 #[.agg #[.bool un, .int .u64 th, .int .u64 tl]] w fun e w' => e = .returned (.agg #[.bool vn, .int .u64 th, .int .u64 tl]) ∧ Below w.heap.size w w')
    (HS : ∀ w, Calls Tryd.prog 64 #[.int .i64 d] w fun e w' => e = .returned (.int .u64 s) ∧ w' = w)
    (HL : ∀ w, Calls Tryd.prog 62 #[.agg #[.bool vn, .int .u64 th, .int .u64 tl], .agg #[.bool false, .int .u64 0, .int .u64 s]] w fun e w' => e = .returned (.tuple #[rtv r.1, .int .i64 r.2]) ∧ Below w.heap.size w w') (w : World) :
    Calls Tryd.prog 20 #[.int .i64 n, .int .i64 d] w fun e w' => e = .returned (.tuple #[rtv r.1, .int .i64 r.2]) ∧ Below w.heap.size w w' := by
  simp only [rtv] at *
  have HT := hideR HT
  have HR := hideR HR
  have HS := hideR HS
  have HL := hideR HL
  rcases hd with ⟨h1, rfl⟩ | ⟨h1, hu⟩
  · go_enter Tryd.func20, Tryd.ntmps20
    go_wp2_with fail
    go_at_call 61
    refine Calls.mono (HT.out _) ?_
    rintro e w1 ⟨rfl, b1⟩
    have z1 := b1.size
    simp at z1
    have T1 := ((Two.new w (.int .i64 0) (.int .i64 0) 26).keep b1).alloc (.cells #[.bool tn, .int .u64 th, .int .u64 tl] 76)
    have X1 := Tri.new w1 tn th tl 76
    have B1 := bup (bup (bel1 w _) b1) (bel1 w1 (.cells #[.bool tn, .int .u64 th, .int .u64 tl] 76))
    obtain ⟨_, x0, x1, x2, xf0, xf1, xf2⟩ := id X1
    have T2 := ((Two.new w (.int .i64 0) (.int .i64 0) 26).keep b1).alloc (.cells #[.bool (!tn), .int .u64 th, .int .u64 tl] 76)
    have X2 := Tri.new w1 (!tn) th tl 76
    have B2 := bup (bup (bel1 w _) b1) (bel1 w1 (.cells #[.bool (!tn), .int .u64 th, .int .u64 tl] 76))
    clear b1 T1 X1 B1
    obtain ⟨_, y0, y1, y2, _, _, _⟩ := id X2
    go_wp2_with fail
    go_at_call 63
    refine Calls.mono (HR.out _) ?_
    rintro e w3 ⟨rfl, b3⟩
    have T3 := T2.keep b3
    have B3 := bup B2 b3
    clear T2 X2 B2 b3 x0 x1 x2 xf0 xf1 xf2 y0 y1 y2
    go_wp2_with fail
    go_at_call 64
    refine Calls.mono (HS.out _) ?_
    rintro e w4 ⟨rfl, hw⟩
    obtain rfl := hw.symm
    go_wp2_with fail
    go_at_call 62
    refine Calls.mono (HL.out _) ?_
    rintro e w5 ⟨rfl, b5⟩
    have T5 := T3.keep b5
    have B5 := bup B3 b5
    clear T3 B3 b5
    obtain ⟨_, k0, k1, k2, k3⟩ := id T5
    go_wp2_with fail
    exact bodyPost_ret (v := .tuple #[.agg #[.int .i64 r.1.N, .int .i64 r.1.D], .int .i64 r.2]) (by simp [results, Tryd.results20, go_sem, k0, k1]) rfl ⟨rfl, (B5.setCell (by simp) _).setCell (by simp) _⟩
  · subst hu
    go_enter Tryd.func20, Tryd.ntmps20
    go_wp2_with fail
    go_at_call 61
    refine Calls.mono (HT.out _) ?_
    rintro e w1 ⟨rfl, b1⟩
    have z1 := b1.size
    simp at z1
    have T1 := ((Two.new w (.int .i64 0) (.int .i64 0) 26).keep b1).alloc (.cells #[.bool un, .int .u64 th, .int .u64 tl] 76)
    have X1 := Tri.new w1 un th tl 76
    have B1 := bup (bup (bel1 w _) b1) (bel1 w1 (.cells #[.bool un, .int .u64 th, .int .u64 tl] 76))
    obtain ⟨_, x0, x1, x2, xf0, xf1, xf2⟩ := id X1
    have T2 := T1
    have X2 := X1
    have B2 := B1
    clear T1 X1 B1 b1
    obtain ⟨_, y0, y1, y2, _, _, _⟩ := id X2
    go_wp2_with fail
    go_at_call 63
    refine Calls.mono (HR.out _) ?_
    rintro e w3 ⟨rfl, b3⟩
    have T3 := T2.keep b3
    have B3 := bup B2 b3
    clear T2 X2 B2 b3 x0 x1 x2 xf0 xf1 xf2 y0 y1 y2
    go_wp2_with fail
    go_at_call 64
    refine Calls.mono (HS.out _) ?_
    rintro e w4 ⟨rfl, hw⟩
    obtain rfl := hw.symm
    go_wp2_with fail
    go_at_call 62
    refine Calls.mono (HL.out _) ?_
    rintro e w5 ⟨rfl, b5⟩
    have T5 := T3.keep b5
    have B5 := bup B3 b5
    clear T3 B3 b5
    obtain ⟨_, k0, k1, k2, k3⟩ := id T5
    go_wp2_with fail
    exact bodyPost_ret (v := .tuple #[.agg #[.int .i64 r.1.N, .int .i64 r.1.D], .int .i64 r.2]) (by simp [results, Tryd.results20, go_sem, k0, k1]) rfl ⟨rfl, (B5.setCell (by simp) _).setCell (by simp) _⟩

set_option maxRecDepth 100000 in
set_option maxHeartbeats 1000000 in
theorem radd_not (an ad bn bd : Int)
    (HB : ∀ w, Calls Tryd.prog 69 #[.agg #[.int .i64 an, .int .i64 ad], .agg #[.int .i64 bn, .int .i64 bd]] w fun e w' => e = .returned (.bool false) ∧ Below w.heap.size w w') (w : World) :
    Calls Tryd.prog 24 #[.agg #[.int .i64 an, .int .i64 ad], .agg #[.int .i64 bn, .int .i64 bd]] w fun e w' => e = .returned (.tuple #[.agg #[.int .i64 0, .int .i64 0], .int .i64 12]) ∧ Below w.heap.size w w' := by
  have HB := hideR HB
  go_enter Tryd.func24, Tryd.ntmps24
  go_wp2_with fail
  go_at_call 69
  refine Calls.mono (HB.out _) ?_
  rintro e w1 ⟨rfl, b1⟩
  have S1 := (Three.new w an ad bn bd 0 0 26).keep b1
  have B1 := bup (bel3 w _ _ _) b1
  clear b1
  obtain ⟨⟨_, a0, a1, _, _⟩, ⟨_, p0, p1, _, _⟩, ⟨_, c0, c1, cf0, cf1⟩⟩ := id S1
  go_wp2_with fail
  exact bodyPost_ret (v := .tuple #[.agg #[.int .i64 0, .int .i64 0], .int .i64 12]) (by simp [results, Tryd.results24, go_sem, c0, c1]) rfl ⟨rfl, (B1.setCell (by simp; omega) _).setCell (by simp; omega) _⟩

set_option maxRecDepth 100000 in
set_option maxHeartbeats 1000000 in
theorem rsub_not (an ad bn bd : Int)
    (HB : ∀ w, Calls Tryd.prog 69 #[.agg #[.int .i64 an, .int .i64 ad], .agg #[.int .i64 bn, .int .i64 bd]] w fun e w' => e = .returned (.bool false) ∧ Below w.heap.size w w') (w : World) :
    Calls Tryd.prog 27 #[.agg #[.int .i64 an, .int .i64 ad], .agg #[.int .i64 bn, .int .i64 bd]] w fun e w' => e = .returned (.tuple #[.agg #[.int .i64 0, .int .i64 0], .int .i64 12]) ∧ Below w.heap.size w w' := by
  have HB := hideR HB
  go_enter Tryd.func27, Tryd.ntmps27
  go_wp2_with fail
  go_at_call 69
  refine Calls.mono (HB.out _) ?_
  rintro e w1 ⟨rfl, b1⟩
  have S1 := (Three.new w an ad bn bd 0 0 26).keep b1
  have B1 := bup (bel3 w _ _ _) b1
  clear b1
  obtain ⟨⟨_, a0, a1, _, _⟩, ⟨_, p0, p1, _, _⟩, ⟨_, c0, c1, cf0, cf1⟩⟩ := id S1
  go_wp2_with fail
  exact bodyPost_ret (v := .tuple #[.agg #[.int .i64 0, .int .i64 0], .int .i64 12]) (by simp [results, Tryd.results27, go_sem, c0, c1]) rfl ⟨rfl, (B1.setCell (by simp; omega) _).setCell (by simp; omega) _⟩

set_option maxRecDepth 100000 in
set_option maxHeartbeats 1000000 in
theorem rmul_not (an ad bn bd : Int)
    (HB : ∀ w, Calls Tryd.prog 69 #[.agg #[.int .i64 an, .int .i64 ad], .agg #[.int .i64 bn, .int .i64 bd]] w fun e w' => e = .returned (.bool false) ∧ Below w.heap.size w w') (w : World) :
    Calls Tryd.prog 31 #[.agg #[.int .i64 an, .int .i64 ad], .agg #[.int .i64 bn, .int .i64 bd]] w fun e w' => e = .returned (.tuple #[.agg #[.int .i64 0, .int .i64 0], .int .i64 12]) ∧ Below w.heap.size w w' := by
  have HB := hideR HB
  go_enter Tryd.func31, Tryd.ntmps31
  go_wp2_with fail
  go_at_call 69
  refine Calls.mono (HB.out _) ?_
  rintro e w1 ⟨rfl, b1⟩
  have S1 := (Three.new w an ad bn bd 0 0 26).keep b1
  have B1 := bup (bel3 w _ _ _) b1
  clear b1
  obtain ⟨⟨_, a0, a1, _, _⟩, ⟨_, p0, p1, _, _⟩, ⟨_, c0, c1, cf0, cf1⟩⟩ := id S1
  go_wp2_with fail
  exact bodyPost_ret (v := .tuple #[.agg #[.int .i64 0, .int .i64 0], .int .i64 12]) (by simp [results, Tryd.results31, go_sem, c0, c1]) rfl ⟨rfl, (B1.setCell (by simp; omega) _).setCell (by simp; omega) _⟩

set_option maxRecDepth 100000 in
set_option maxHeartbeats 1000000 in
theorem rdiv_not (an ad bn bd : Int)
    (HB : ∀ w, Calls Tryd.prog 69 #[.agg #[.int .i64 an, .int .i64 ad], .agg #[.int .i64 bn, .int .i64 bd]] w fun e w' => e = .returned (.bool false) ∧ Below w.heap.size w w') (w : World) :
    Calls Tryd.prog 33 #[.agg #[.int .i64 an, .int .i64 ad], .agg #[.int .i64 bn, .int .i64 bd]] w fun e w' => e = .returned (.tuple #[.agg #[.int .i64 0, .int .i64 0], .int .i64 12]) ∧ Below w.heap.size w w' := by
  have HB := hideR HB
  go_enter Tryd.func33, Tryd.ntmps33
  go_wp2_with fail
  go_at_call 69
  refine Calls.mono (HB.out _) ?_
  rintro e w1 ⟨rfl, b1⟩
  have S1 := (Three.new w an ad bn bd 0 0 26).keep b1
  have B1 := bup (bel3 w _ _ _) b1
  clear b1
  obtain ⟨⟨_, a0, a1, _, _⟩, ⟨_, p0, p1, _, _⟩, ⟨_, c0, c1, cf0, cf1⟩⟩ := id S1
  go_wp2_with fail
  exact bodyPost_ret (v := .tuple #[.agg #[.int .i64 0, .int .i64 0], .int .i64 12]) (by simp [results, Tryd.results33, go_sem, c0, c1]) rfl ⟨rfl, (B1.setCell (by simp; omega) _).setCell (by simp; omega) _⟩

set_option maxRecDepth 100000 in
set_option maxHeartbeats 1000000 in
theorem rsub_walk (an ad bn bd nb : Int) (r : Rt × Int) (hn : IntKind.i64.wrap (-bn) = nb)
    (HB : ∀ w, Calls Tryd.prog 69 #[.agg #[.int .i64 an, .int .i64 ad], .agg #[.int .i64 bn, .int .i64 bd]] w fun e w' => e = .returned (.bool true) ∧ Below w.heap.size w w')
    (HA : ∀ w, Calls Tryd.prog 24 #[.agg #[.int .i64 an, .int .i64 ad], .agg #[.int .i64 nb, .int .i64 bd]] w fun e w' => e = .returned (.tuple #[rtv r.1, .int .i64 r.2]) ∧ Below w.heap.size w w') (w : World) :
    Calls Tryd.prog 27 #[.agg #[.int .i64 an, .int .i64 ad], .agg #[.int .i64 bn, .int .i64 bd]] w fun e w' => e = .returned (.tuple #[rtv r.1, .int .i64 r.2]) ∧ Below w.heap.size w w' := by
  simp only [rtv] at *
  have HB := hideR HB
  have HA := hideR HA
  go_enter Tryd.func27, Tryd.ntmps27
  go_wp2_with fail
  go_at_call 69
  refine Calls.mono (HB.out _) ?_
  rintro e w1 ⟨rfl, b1⟩
  have S1 := (Three.new w an ad bn bd 0 0 26).keep b1
  have B1 := bup (bel3 w _ _ _) b1
  clear b1
  obtain ⟨⟨_, a0, a1, _, _⟩, ⟨_, p0, p1, _, _⟩, ⟨_, c0, c1, cf0, cf1⟩⟩ := id S1
  go_wp2_with fail
  go_at_call 24
  refine Calls.mono (HA.out _) ?_
  rintro e w2 ⟨rfl, b2⟩
  have S2 := S1.keep b2
  have B2 := bup B1 b2
  clear a0 a1 p0 p1 c0 c1 cf0 cf1 S1 B1 b2
  obtain ⟨⟨_, a0, a1, _, _⟩, ⟨_, p0, p1, _, _⟩, ⟨_, c0, c1, cf0, cf1⟩⟩ := id S2
  go_wp2_with fail
  exact bodyPost_ret (v := .tuple #[.agg #[.int .i64 r.1.N, .int .i64 r.1.D], .int .i64 r.2]) (by simp [results, Tryd.results27, go_sem, c0, c1]) rfl ⟨rfl, (B2.setCell (by simp; omega) _).setCell (by simp; omega) _⟩

set_option maxRecDepth 100000 in
set_option maxHeartbeats 1000000 in
theorem radd_walk (an ad bn bd : Int) (pn qn sn dn : Bool) (ph pl qh ql sh sl dh dl : Int) (r : Rt × Int)
    (HB : ∀ w, Calls Tryd.prog 69 #[.agg #[.int .i64 an, .int .i64 ad], .agg #[.int .i64 bn, .int .i64 bd]] w fun e w' => e = .returned (.bool true) ∧ Below w.heap.size w w')
    (HP : ∀ w, Calls Tryd.prog 61 #[.int .i64 an, .int .i64 bd] w fun e w' => e = .returned (.agg #[.bool pn, .int .u64 ph, .int .u64 pl]) ∧ Below w.heap.size w w')
    (HQ : ∀ w, Calls Tryd.prog 61 #[.int .i64 bn, .int .i64 ad] w fun e w' => e = .returned (.agg #[.bool qn, .int .u64 qh, .int .u64 ql]) ∧ Below w.heap.size w w')
    (HS : ∀ w, Calls Tryd.prog 70 #[.agg #[.bool pn, .int .u64 ph, .int .u64 pl], .agg #[.bool qn, .int .u64 qh, .int .u64 ql]] w fun e w' => e = .returned (.agg #[.bool sn, .int .u64 sh, .int .u64 sl]) ∧ Below w.heap.size w w')
    (HD : ∀ w, Calls Tryd.prog 61 #[.int .i64 ad, .int .i64 bd] w fun e w' => e = .returned (.agg #[.bool dn, .int .u64 dh, .int .u64 dl]) ∧ Below w.heap.size w w')
    (HL : ∀ w, Calls Tryd.prog 62 #[.agg #[.bool sn, .int .u64 sh, .int .u64 sl], .agg #[.bool dn, .int .u64 dh, .int .u64 dl]] w fun e w' => e = .returned (.tuple #[rtv r.1, .int .i64 r.2]) ∧ Below w.heap.size w w') (w : World) :
    Calls Tryd.prog 24 #[.agg #[.int .i64 an, .int .i64 ad], .agg #[.int .i64 bn, .int .i64 bd]] w fun e w' => e = .returned (.tuple #[rtv r.1, .int .i64 r.2]) ∧ Below w.heap.size w w' := by
  simp only [rtv] at *
  have HB := hideR HB
  have HP := hideR HP
  have HQ := hideR HQ
  have HS := hideR HS
  have HD := hideR HD
  have HL := hideR HL
  go_enter Tryd.func24, Tryd.ntmps24
  go_wp2_with fail
  go_at_call 69
  refine Calls.mono (HB.out _) ?_
  rintro e w1 ⟨rfl, b1⟩
  have S1 := (Three.new w an ad bn bd 0 0 26).keep b1
  have B1 := bup (bel3 w _ _ _) b1
  clear b1
  obtain ⟨⟨_, a0, a1, _, _⟩, ⟨_, p0, p1, _, _⟩, ⟨_, c0, c1, cf0, cf1⟩⟩ := id S1
  go_wp2_with fail
  have z2 : w.heap.size + 1 + 1 < w1.heap.size := S1.2.2.1
  have SC : w1.cell? ⟨w.heap.size, 0, none⟩ = some (.int .i64 an) ∧ w1.cell? ⟨w.heap.size, 1, none⟩ = some (.int .i64 ad) ∧ w1.cell? ⟨w.heap.size + 1, 0, none⟩ = some (.int .i64 bn) ∧ w1.cell? ⟨w.heap.size + 1, 1, none⟩ = some (.int .i64 bd) := ⟨a0, a1, p0, p1⟩
  have zA : w.heap.size < w1.heap.size := by omega
  have zB : w.heap.size + 1 < w1.heap.size := by omega
  clear S1 HB
  go_region_held3 (fun w' => w'.cell? ⟨w.heap.size, 0, none⟩ = some (.int .i64 an) ∧ w'.cell? ⟨w.heap.size, 1, none⟩ = some (.int .i64 ad) ∧ w'.cell? ⟨w.heap.size + 1, 0, none⟩ = some (.int .i64 bn) ∧ w'.cell? ⟨w.heap.size + 1, 1, none⟩ = some (.int .i64 bd)) (first | assumption | exact keep4s S6 | go_keep)
    (first | (go_at_call_of 61 an; refine (HP.out _).mono ?_; rintro e w2 ⟨rfl, b2⟩; have S2 := keep4 b2 zA zB SC) | (go_at_call_of 61 bn; refine (HQ.out _).mono ?_; rintro e w3 ⟨rfl, b3⟩; have D3 := bup b2 b3; have S3 := keep4 D3 zA zB SC) | (go_at_call 70; refine (HS.out _).mono ?_; rintro e w4 ⟨rfl, b4⟩; have D4 := bup D3 b4; have S4 := keep4 D4 zA zB SC) | (go_at_call_of 61 ad; refine (HD.out _).mono ?_; rintro e w5 ⟨rfl, b5⟩; have D5 := bup D4 b5; have S5 := keep4 D5 zA zB SC) | (go_at_call 62; refine (HL.out _).mono ?_; rintro e w6 ⟨rfl, b6⟩; have D6 := bup D5 b6; have S6 := keep4 D6 zA zB SC; obtain ⟨k0, k1, k2, k3⟩ := two_keep D6 z2 c0 c1 cf0 cf1))
  all_goals (try go_wp2_with fail)
  all_goals exact bodyPost_ret (v := .tuple #[.agg #[.int .i64 r.1.N, .int .i64 r.1.D], .int .i64 r.2]) (by simp [results, Tryd.results24, go_sem, k0, k1]) rfl ⟨rfl, ((bup B1.drew D6).setCell (by simp; omega) _).setCell (by simp; omega) _⟩

set_option maxRecDepth 100000 in
set_option maxHeartbeats 1000000 in
theorem rmul_walk (an ad bn bd : Int) (pn dn : Bool) (ph pl dh dl : Int) (r : Rt × Int)
    (HB : ∀ w, Calls Tryd.prog 69 #[.agg #[.int .i64 an, .int .i64 ad], .agg #[.int .i64 bn, .int .i64 bd]] w fun e w' => e = .returned (.bool true) ∧ Below w.heap.size w w')
    (HP : ∀ w, Calls Tryd.prog 61 #[.int .i64 an, .int .i64 bn] w fun e w' => e = .returned (.agg #[.bool pn, .int .u64 ph, .int .u64 pl]) ∧ Below w.heap.size w w')
    (HD : ∀ w, Calls Tryd.prog 61 #[.int .i64 ad, .int .i64 bd] w fun e w' => e = .returned (.agg #[.bool dn, .int .u64 dh, .int .u64 dl]) ∧ Below w.heap.size w w')
    (HL : ∀ w, Calls Tryd.prog 62 #[.agg #[.bool pn, .int .u64 ph, .int .u64 pl], .agg #[.bool dn, .int .u64 dh, .int .u64 dl]] w fun e w' => e = .returned (.tuple #[rtv r.1, .int .i64 r.2]) ∧ Below w.heap.size w w') (w : World) :
    Calls Tryd.prog 31 #[.agg #[.int .i64 an, .int .i64 ad], .agg #[.int .i64 bn, .int .i64 bd]] w fun e w' => e = .returned (.tuple #[rtv r.1, .int .i64 r.2]) ∧ Below w.heap.size w w' := by
  simp only [rtv] at *
  have HB := hideR HB
  have HP := hideR HP
  have HD := hideR HD
  have HL := hideR HL
  go_enter Tryd.func31, Tryd.ntmps31
  go_wp2_with fail
  go_at_call 69
  refine Calls.mono (HB.out _) ?_
  rintro e w1 ⟨rfl, b1⟩
  have S1 := (Three.new w an ad bn bd 0 0 26).keep b1
  have B1 := bup (bel3 w _ _ _) b1
  clear b1
  obtain ⟨⟨_, a0, a1, _, _⟩, ⟨_, p0, p1, _, _⟩, ⟨_, c0, c1, cf0, cf1⟩⟩ := id S1
  go_wp2_with fail
  have z2 : w.heap.size + 1 + 1 < w1.heap.size := S1.2.2.1
  have SC : w1.cell? ⟨w.heap.size, 0, none⟩ = some (.int .i64 an) ∧ w1.cell? ⟨w.heap.size, 1, none⟩ = some (.int .i64 ad) ∧ w1.cell? ⟨w.heap.size + 1, 0, none⟩ = some (.int .i64 bn) ∧ w1.cell? ⟨w.heap.size + 1, 1, none⟩ = some (.int .i64 bd) := ⟨a0, a1, p0, p1⟩
  have zA : w.heap.size < w1.heap.size := by omega
  have zB : w.heap.size + 1 < w1.heap.size := by omega
  clear S1 HB
  go_region_held3 (fun w' => w'.cell? ⟨w.heap.size, 0, none⟩ = some (.int .i64 an) ∧ w'.cell? ⟨w.heap.size, 1, none⟩ = some (.int .i64 ad) ∧ w'.cell? ⟨w.heap.size + 1, 0, none⟩ = some (.int .i64 bn) ∧ w'.cell? ⟨w.heap.size + 1, 1, none⟩ = some (.int .i64 bd)) (first | assumption | exact keep4s S4 | go_keep)
    (first | (go_at_call_of 61 an; refine (HP.out _).mono ?_; rintro e w2 ⟨rfl, b2⟩; have S2 := keep4 b2 zA zB SC) | (go_at_call_of 61 ad; refine (HD.out _).mono ?_; rintro e w3 ⟨rfl, b3⟩; have D3 := bup b2 b3; have S3 := keep4 D3 zA zB SC) | (go_at_call 62; refine (HL.out _).mono ?_; rintro e w4 ⟨rfl, b4⟩; have D4 := bup D3 b4; have S4 := keep4 D4 zA zB SC; obtain ⟨k0, k1, k2, k3⟩ := two_keep D4 z2 c0 c1 cf0 cf1))
  all_goals (try go_wp2_with fail)
  all_goals exact bodyPost_ret (v := .tuple #[.agg #[.int .i64 r.1.N, .int .i64 r.1.D], .int .i64 r.2]) (by simp [results, Tryd.results31, go_sem, k0, k1]) rfl ⟨rfl, ((bup B1.drew D4).setCell (by simp; omega) _).setCell (by simp; omega) _⟩
end Go.Proofs.YtmofjkfghidlnaaDoor

/- Contracts of surtitleref3: lowest, New, Add, Sub, Neg, Mul, as numbers. -/
namespace Go.Proofs.YtmofjkfghidlnaaDoor
open Go.RowKit Go.Shelf
attribute [local go_sem] Oper.semAt_some

set_option maxRecDepth 100000 in
theorem rlowest0 (ng nd : Bool) (dh dl : Int) (w : World) :
    Calls Tryd.prog 62 #[.agg #[.bool ng, .int .u64 0, .int .u64 0], .agg #[.bool nd, .int .u64 dh, .int .u64 dl]] w fun e w' => e = .returned (.tuple #[.agg #[.int .i64 0, .int .i64 1], .int .i64 0]) ∧ Below w.heap.size w w' := by
  go_enter Tryd.func62, Tryd.ntmps62
  go_wp2_with fail
  exact bodyPost_ret (v := .tuple #[.agg #[.int .i64 0, .int .i64 1], .int .i64 0]) (by simp [results, Tryd.results62, go_sem]) rfl ⟨rfl, bel3 w _ _ _⟩
theorem rlow_nat (ng nd : Bool) (m D : Nat) (hm : m ≤ 170141183460469231731687303715884105728) (hD0 : 0 < D) (hD : D ≤ 170141183460469231731687303715884105728) (w : World) :
    Calls Tryd.prog 62 #[.agg #[.bool ng, .int .u64 (hiZ m), .int .u64 (loZ m)], .agg #[.bool nd, .int .u64 (hiZ D), .int .u64 (loZ D)]] w fun e w' => e = .returned (.tuple #[rtv (low (Rat.divInt (sgn ng m) D)).1, .int .i64 (low (Rat.divInt (sgn ng m) D)).2]) ∧ Below w.heap.size w w' := by
  by_cases h0 : m = 0
  · subst h0
    have e : sgn ng ((0 : Nat) : Int) = 0 := by cases ng <;> rfl
    rw [e, low_zero]
    exact rlowest0 ng nd _ _ w
  · by_cases h : hiZ m = 0
    · rw [h]
      exact rlowestB ng nd (loZ m) m D (by unfold hiZ at h; unfold loZ; omega) h rfl (by omega) hm hD0 hD w
    · exact rlowestA ng nd (hiZ m) (loZ m) m D h rfl rfl (by omega) hm hD0 hD w
theorem sgn_sz (n : Int) : sgn (decide (n < 0)) (sz n) = n := by
  unfold sgn sz
  by_cases h : n < 0
  · rw [if_pos (decide_eq_true h)]; omega
  · rw [if_neg (by simpa using h)]; omega
theorem rlow_i (n d : Int) (hn : sz n ≤ 170141183460469231731687303715884105728) (hd0 : 0 < d) (hd : d ≤ 170141183460469231731687303715884105728) (w : World) :
    Calls Tryd.prog 62 #[nv n, nv d] w fun e w' => e = .returned (.tuple #[rtv (low (Rat.divInt n d)).1, .int .i64 (low (Rat.divInt n d)).2]) ∧ Below w.heap.size w w' := by
  obtain ⟨m, em⟩ := Int.eq_ofNat_of_zero_le (sz_nonneg n)
  obtain ⟨D, eD⟩ := Int.eq_ofNat_of_zero_le (show 0 ≤ d by omega)
  have es : sz d = D := by unfold sz; omega
  have := rlow_nat (decide (n < 0)) (decide (d < 0)) m D (by omega) (by omega) (by omega) w
  rw [← em, sgn_sz, ← eD] at this
  unfold nv
  rw [es, ← eD]
  exact this

theorem rnew_any (n d : Int) (hn : I64 n) (hd : I64 d) (h0 : ¬ d = 0) (w : World) :
    Calls Tryd.prog 20 #[.int .i64 n, .int .i64 d] w fun e w' => e = .returned (.tuple #[rtv (newA n d).1, .int .i64 (newA n d).2]) ∧ Below w.heap.size w w' := by
  have rs := sz_range n hn
  have rd := sz_range d hd
  have HT := rtimes_any n 1 hn ⟨by omega, by omega⟩
  rw [Int.mul_one] at HT
  have HS := rsize_any d hd
  have pd : 0 < sz d := by unfold sz; omega
  have ev : nv (sz d) = .agg #[.bool false, .int .u64 0, .int .u64 (sz d)] := by
    unfold nv
    rw [decide_eq_false (by omega), show sz (sz d) = sz d by unfold sz; omega, show hiZ (sz d) = 0 by unfold hiZ; omega, show loZ (sz d) = sz d by unfold loZ; omega]
  unfold I64 at hd
  by_cases hs : d < 0
  · have HR := right_sgn (!decide (n < 0)) (sz n) rs.1 (by omega)
    have e1 : sgn (!decide (n < 0)) (sz n) = -n := by unfold sgn sz; by_cases h : n < 0 <;> simp [h] <;> omega
    rw [e1] at HR
    have HL := rlow_i (-n) (sz d) (by unfold sz at *; omega) pd (by omega)
    rw [← newA_neg n d hs, ev] at HL
    have e2 : sz (-n) = sz n := by unfold sz; omega
    unfold nv at HR HL HT
    rw [e2] at HR HL
    exact rnew_walk n d (sz d) _ _ _ _ _ _ (.inl ⟨hs, rfl⟩) HT HR HS HL w
  · have HR := right_sgn (decide (n < 0)) (sz n) rs.1 (by omega)
    rw [sgn_sz] at HR
    have HL := rlow_i n (sz d) (by omega) pd (by omega)
    rw [← newA_pos n d (by omega), ev] at HL
    unfold nv at HR HL HT
    exact rnew_walk n d (sz d) _ _ _ _ _ _ (.inr ⟨by omega, rfl⟩) HT HR HS HL w
set_option maxRecDepth 100000 in
theorem rnew_zero (n : Int) (w : World) :
    Calls Tryd.prog 20 #[.int .i64 n, .int .i64 0] w fun e w' => e = .returned (.tuple #[.agg #[.int .i64 0, .int .i64 0], .int .i64 11]) ∧ Below w.heap.size w w' := by
  go_enter Tryd.func20, Tryd.ntmps20
  go_wp2_with fail
  exact bodyPost_ret (v := .tuple #[.agg #[.int .i64 0, .int .i64 0], .int .i64 11]) (by simp [results, Tryd.results20, go_sem]) rfl ⟨rfl, bel1 w _⟩
theorem rnew_full (n d : Int) (hn : I64 n) (hd : I64 d) (w : World) :
    Calls Tryd.prog 20 #[.int .i64 n, .int .i64 d] w fun e w' => e = .returned (.tuple #[rtv (newA n d).1, .int .i64 (newA n d).2]) ∧ Below w.heap.size w w' := by
  by_cases h : d = 0
  · subst h
    exact rnew_zero n w
  · exact rnew_any n d hn hd h w

theorem sz_le {z : Int} {M : Int} (h : -M ≤ z ∧ z ≤ M) : sz z ≤ M := by unfold sz; omega
theorem radd_any (a b : Rt) (ha : RtIn a) (hb : RtIn b) (w : World) :
    Calls Tryd.prog 24 #[rtv a, rtv b] w fun e w' => e = .returned (.tuple #[rtv (addA a b).1, .int .i64 (addA a b).2]) ∧ Below w.heap.size w w' := by
  have HB := rboth_any a b ha hb
  by_cases hr : (rightB a && rightB b) = true
  · obtain ⟨ra, rb⟩ := (both_iff a b).1 hr
    rw [hr] at HB
    have t1 := top_bounds ra rb
    have t2 := top_bounds rb ra
    have db := den_bounds ra rb
    have s1 := sz_le t1
    have s2 := sz_le t2
    have HL := rlow_i (a.N * b.D + b.N * a.D) (a.D * b.D) (by have := sz_le (z := a.N * b.D + b.N * a.D) (M := 19807040628566084398385987584) ⟨by omega, by omega⟩; omega) (by omega) (by omega)
    rw [← val_add a b ra rb, ← addA_right ra rb] at HL
    exact radd_walk a.N a.D b.N b.D _ _ _ _ _ _ _ _ _ _ _ _ _ HB (rtimes_any _ _ ha.1 hb.2) (rtimes_any _ _ hb.1 ha.2) (rplus_any _ _ (by omega)) (rtimes_any _ _ ha.2 hb.2) HL w
  · have e : addA a b = bad 12 := by unfold addA; rw [if_neg hr]
    rw [e]
    rw [Bool.not_eq_true] at hr
    rw [hr] at HB
    exact radd_not a.N a.D b.N b.D HB w
theorem rmul_any (a b : Rt) (ha : RtIn a) (hb : RtIn b) (w : World) :
    Calls Tryd.prog 31 #[rtv a, rtv b] w fun e w' => e = .returned (.tuple #[rtv (mulA a b).1, .int .i64 (mulA a b).2]) ∧ Below w.heap.size w w' := by
  have HB := rboth_any a b ha hb
  by_cases hr : (rightB a && rightB b) = true
  · obtain ⟨ra, rb⟩ := (both_iff a b).1 hr
    rw [hr] at HB
    have s1 := sz_le (nums_bounds ra rb)
    have db := den_bounds ra rb
    have HL := rlow_i (a.N * b.N) (a.D * b.D) (by omega) (by omega) (by omega)
    rw [← val_mul a b, ← mulA_right ra rb] at HL
    exact rmul_walk a.N a.D b.N b.D _ _ _ _ _ _ _ HB (rtimes_any _ _ ha.1 hb.1) (rtimes_any _ _ ha.2 hb.2) HL w
  · have e : mulA a b = bad 12 := by unfold mulA; rw [if_neg hr]
    rw [e]
    rw [Bool.not_eq_true] at hr
    rw [hr] at HB
    exact rmul_not a.N a.D b.N b.D HB w
theorem rsub_any (a b : Rt) (ha : RtIn a) (hb : RtIn b) (w : World) :
    Calls Tryd.prog 27 #[rtv a, rtv b] w fun e w' => e = .returned (.tuple #[rtv (subA a b).1, .int .i64 (subA a b).2]) ∧ Below w.heap.size w w' := by
  have HB := rboth_any a b ha hb
  by_cases hr : (rightB a && rightB b) = true
  · rw [hr] at HB
    rw [subA_eq a b hb.1]
    exact rsub_walk a.N a.D b.N b.D _ _ rfl HB (radd_any a ⟨IntKind.i64.wrap (-b.N), b.D⟩ ha ⟨neg64_wrap _, hb.2⟩) w
  · have e : subA a b = bad 12 := by unfold subA; rw [if_neg hr]
    rw [e]
    rw [Bool.not_eq_true] at hr
    rw [hr] at HB
    exact rsub_not a.N a.D b.N b.D HB w
set_option maxRecDepth 100000 in
set_option maxHeartbeats 300000 in
theorem rneg_walk (an ad nb : Int) (hn : IntKind.i64.wrap (-an) = nb) (ok : Bool) (r : Rt × Int) (hr : (ok = false ∧ r = (⟨0, 0⟩, 12)) ∨ (ok = true ∧ r = (⟨nb, ad⟩, 0)))
    (HA : ∀ w, Calls Tryd.prog 22 #[.agg #[.int .i64 an, .int .i64 ad]] w fun e w' => e = .returned (.bool ok) ∧ Below w.heap.size w w') (w : World) :
    Calls Tryd.prog 29 #[.agg #[.int .i64 an, .int .i64 ad]] w fun e w' => e = .returned (.tuple #[rtv r.1, .int .i64 r.2]) ∧ Below w.heap.size w w' := by
  simp only [rtv] at *
  have HA := hideR HA
  rcases hr with ⟨rfl, rfl⟩ | ⟨rfl, rfl⟩
  all_goals (
    go_enter Tryd.func29, Tryd.ntmps29
    go_wp2_with fail
    go_at_call 22
    refine (HA.out _).mono ?_
    rintro e w1 ⟨rfl, b1⟩
    obtain ⟨hc, hf⟩ := bcell b1
    have z1 := b1.size
    simp at z1)
  · go_wp2_with fail
    exact bodyPost_ret (v := .tuple #[.agg #[.int .i64 0, .int .i64 0], .int .i64 12]) (by simp [results, Tryd.results29, go_sem, hc]) rfl ⟨rfl, ((bup (bel2 w _ _) b1).setCell (by simp) _).setCell (by simp) _⟩
  · go_wp2_with fail
    exact bodyPost_ret (v := .tuple #[.agg #[.int .i64 nb, .int .i64 ad], .int .i64 0]) (by simp [results, Tryd.results29, go_sem, hc]) rfl ⟨rfl, ((bup (bel2 w _ _) b1).setCell (by simp) _).setCell (by simp) _⟩
theorem rneg_any (a : Rt) (ha : RtIn a) (w : World) :
    Calls Tryd.prog 29 #[rtv a] w fun e w' => e = .returned (.tuple #[rtv (negA a).1, .int .i64 (negA a).2]) ∧ Below w.heap.size w w' := by
  refine rneg_walk a.N a.D _ rfl (rightB a) _ ?_ (rright_r a ha) w
  cases h : rightB a
  · exact .inl ⟨rfl, by unfold negA; rw [if_neg (by simp [h])]; rfl⟩
  · exact .inr ⟨rfl, by unfold negA; rw [if_pos h, (neg64_right a ha.1).2 h]⟩
end Go.Proofs.YtmofjkfghidlnaaDoor

/- The contract of surtitleref3.Div. -/
namespace Go.Proofs.YtmofjkfghidlnaaDoor
open Go.RowKit Go.Shelf
attribute [local go_sem] Oper.semAt_some

theorem s33 {V : World} {A B : Nat} {n n2 : Bool} {h l h2 l2 : Int} (t : Tri V A n h l) (u : Tri V B n2 h2 l2) : V.cell? ⟨A, 0, none⟩ = some (.bool n) ∧ V.cell? ⟨A, 1, none⟩ = some (.int .u64 h) ∧ V.cell? ⟨A, 2, none⟩ = some (.int .u64 l) ∧ V.cell? ⟨B, 0, none⟩ = some (.bool n2) ∧ V.cell? ⟨B, 1, none⟩ = some (.int .u64 h2) ∧ V.cell? ⟨B, 2, none⟩ = some (.int .u64 l2) :=
  ⟨t.2.1, t.2.2.1, t.2.2.2.1, u.2.1, u.2.2.1, u.2.2.2.1⟩
set_option maxRecDepth 100000 in
set_option maxHeartbeats 1000000 in
theorem rdiv_zero (an ad bd : Int)
    (HB : ∀ w, Calls Tryd.prog 69 #[.agg #[.int .i64 an, .int .i64 ad], .agg #[.int .i64 0, .int .i64 bd]] w fun e w' => e = .returned (.bool true) ∧ Below w.heap.size w w') (w : World) :
    Calls Tryd.prog 33 #[.agg #[.int .i64 an, .int .i64 ad], .agg #[.int .i64 0, .int .i64 bd]] w fun e w' => e = .returned (.tuple #[.agg #[.int .i64 0, .int .i64 0], .int .i64 11]) ∧ Below w.heap.size w w' := by
  have HB := hideR HB
  go_enter Tryd.func33, Tryd.ntmps33
  go_wp2_with fail
  go_at_call 69
  refine Calls.mono (HB.out _) ?_
  rintro e w1 ⟨rfl, b1⟩
  have S1 := (Three.new w an ad 0 bd 0 0 26).keep b1
  have B1 := bup (bel3 w _ _ _) b1
  clear b1
  obtain ⟨⟨_, a0, a1, _, _⟩, ⟨_, p0, p1, _, _⟩, ⟨_, c0, c1, cf0, cf1⟩⟩ := id S1
  go_wp2_with fail
  exact bodyPost_ret (v := .tuple #[.agg #[.int .i64 0, .int .i64 0], .int .i64 11]) (by simp [results, Tryd.results33, go_sem, c0, c1]) rfl ⟨rfl, (B1.setCell (by simp; omega) _).setCell (by simp; omega) _⟩

set_option maxRecDepth 100000 in
set_option maxHeartbeats 1000000 in
theorem rdiv_walk (an ad bn bd : Int) (nn dn un vn : Bool) (nh nl dh dl : Int) (r : Rt × Int) (h0 : ¬ bn = 0) (hd : (dn = true ∧ un = !nn) ∨ (dn = false ∧ nn = un))
    (HB : ∀ w, Calls Tryd.prog 69 #[.agg #[.int .i64 an, .int .i64 ad], .agg #[.int .i64 bn, .int .i64 bd]] w fun e w' => e = .returned (.bool true) ∧ Below w.heap.size w w')
    (HN : ∀ w, Calls Tryd.prog 61 #[.int .i64 an, .int .i64 bd] w fun e w' => e = .returned (.agg #[.bool nn, .int .u64 nh, .int .u64 nl]) ∧ Below w.heap.size w w')
    (HD : ∀ w, Calls Tryd.prog 61 #[.int .i64 ad, .int .i64 bn] w fun e w' => e = .returned (.agg #[.bool dn, .int .u64 dh, .int .u64 dl]) ∧ Below w.heap.size w w')
    (HR : ∀ w, Calls Tryd.prog 63 #[.agg #[.bool un, .int .u64 nh, .int .u64 nl]] w fun e w' => e = .returned (.agg #[.bool vn, .int .u64 nh, .int .u64 nl]) ∧ Below w.heap.size w w')
    (HL : ∀ w, Calls Tryd.prog 62 #[.agg #[.bool vn, .int .u64 nh, .int .u64 nl], .agg #[.bool false, .int .u64 dh, .int .u64 dl]] w fun e w' => e = .returned (.tuple #[rtv r.1, .int .i64 r.2]) ∧ Below w.heap.size w w') (w : World) :
    Calls Tryd.prog 33 #[.agg #[.int .i64 an, .int .i64 ad], .agg #[.int .i64 bn, .int .i64 bd]] w fun e w' => e = .returned (.tuple #[rtv r.1, .int .i64 r.2]) ∧ Below w.heap.size w w' := by
  simp only [rtv] at *
  have HB := hideR HB
  have HN := hideR HN
  have HD := hideR HD
  have HR := hideR HR
  have HL := hideR HL
  rcases hd with ⟨rfl, rfl⟩ | ⟨rfl, rfl⟩
  · go_enter Tryd.func33, Tryd.ntmps33
    go_wp2_with fail
    go_at_call 69
    refine Calls.mono (HB.out _) ?_
    rintro e w1 ⟨rfl, b1⟩
    have S1 := (Three.new w an ad bn bd 0 0 26).keep b1
    have B1 := bup (bel3 w _ _ _) b1
    clear b1
    obtain ⟨⟨_, a0, a1, _, _⟩, ⟨_, p0, p1, _, _⟩, ⟨_, c0, c1, cf0, cf1⟩⟩ := id S1
    go_wp2_with fail
    go_at_call 61
    refine Calls.mono (HN.out _) ?_
    rintro e w2 ⟨rfl, b2⟩
    have zz : w.heap.size + 1 + 1 < w2.heap.size := (S1.keep b2).2.2.1
    have S2 := (S1.keep b2).alloc (.cells #[.bool nn, .int .u64 nh, .int .u64 nl] 76)
    have N2 := Tri.new w2 nn nh nl 76
    have B2 := bup (bup B1 b2) (bel1 w2 (.cells #[.bool nn, .int .u64 nh, .int .u64 nl] 76))
    clear S1 B1 b2 a0 a1 p0 p1 c0 c1 cf0 cf1
    obtain ⟨⟨_, a0, a1, _, _⟩, ⟨_, p0, p1, _, _⟩, _⟩ := id S2
    go_wp2_with fail
    go_at_call 61
    refine Calls.mono (HD.out _) ?_
    rintro e w3 ⟨rfl, b3⟩
    have z3 : w2.heap.size < w3.heap.size := (N2.keep b3).1
    have N3 := N2.keep b3
    have R3 := (S2.keep b3).2.2
    have B3 := bup B2 b3
    have R4 := (R3.put1 (S := w2.heap.size) (i := 0) (v := .bool (!nn)) (by omega)).alloc (.cells #[.bool false, .int .u64 dh, .int .u64 dl] 76)
    have N4 := ((N3.set0 (n2 := !nn))).alloc (.cells #[.bool false, .int .u64 dh, .int .u64 dl] 76)
    have D4 := (Tri.new (w3.setCell ⟨w2.heap.size, 0, none⟩ (.bool (!nn))) false dh dl 76).at (R2 := w3.heap.size) (by simp)
    have B4 := bup (B3.setCell (p := ⟨w2.heap.size, 0, none⟩) (by simp; omega) (.bool (!nn))) (bel1 (w3.setCell ⟨w2.heap.size, 0, none⟩ (.bool (!nn))) (.cells #[.bool false, .int .u64 dh, .int .u64 dl] 76))
    obtain ⟨_, n0, n1, n2, n3, n4, n5⟩ := id N3
    clear S2 N2 B2 b3 a0 a1 p0 p1 N3 R3 B3
    have SC := s33 N4 D4
    go_wp2_with fail
    go_region_held3 (fun w' => w'.cell? ⟨w2.heap.size, 0, none⟩ = some (.bool (!nn)) ∧ w'.cell? ⟨w2.heap.size, 1, none⟩ = some (.int .u64 nh) ∧ w'.cell? ⟨w2.heap.size, 2, none⟩ = some (.int .u64 nl) ∧ w'.cell? ⟨w3.heap.size, 0, none⟩ = some (.bool false) ∧ w'.cell? ⟨w3.heap.size, 1, none⟩ = some (.int .u64 dh) ∧ w'.cell? ⟨w3.heap.size, 2, none⟩ = some (.int .u64 dl)) (first | assumption | exact s33 ((N6.other (by omega)).other (by omega)) ((D6.other (by omega)).other (by omega)) | go_keep)
      (first | (go_at_call 63; refine (HR.out _).mono ?_; rintro e w5 ⟨rfl, b5⟩; have R5 := R4.drew.keep b5; have N5 := N4.drew.keep b5; have D5 := D4.drew.keep b5; have S5 := s33 N5 D5) | (go_at_call 62; refine (HL.out _).mono ?_; rintro e w6 ⟨rfl, b6⟩; have R6 := R5.keep b6; have N6 := N5.keep b6; have D6 := D5.keep b6; have S6 := s33 N6 D6; obtain ⟨_, k0, k1, k2, k3⟩ := id R6))
    all_goals (try go_wp2_with fail)
    all_goals exact bodyPost_ret (v := .tuple #[.agg #[.int .i64 r.1.N, .int .i64 r.1.D], .int .i64 r.2]) (by simp [results, Tryd.results33, go_sem, k0, k1]) rfl ⟨rfl, ((bup (bup B4.drew b5) b6).setCell (by simp; omega) _).setCell (by simp; omega) _⟩
  · go_enter Tryd.func33, Tryd.ntmps33
    go_wp2_with fail
    go_at_call 69
    refine Calls.mono (HB.out _) ?_
    rintro e w1 ⟨rfl, b1⟩
    have S1 := (Three.new w an ad bn bd 0 0 26).keep b1
    have B1 := bup (bel3 w _ _ _) b1
    clear b1
    obtain ⟨⟨_, a0, a1, _, _⟩, ⟨_, p0, p1, _, _⟩, ⟨_, c0, c1, cf0, cf1⟩⟩ := id S1
    go_wp2_with fail
    go_at_call 61
    refine Calls.mono (HN.out _) ?_
    rintro e w2 ⟨rfl, b2⟩
    have zz : w.heap.size + 1 + 1 < w2.heap.size := (S1.keep b2).2.2.1
    have S2 := (S1.keep b2).alloc (.cells #[.bool nn, .int .u64 nh, .int .u64 nl] 76)
    have N2 := Tri.new w2 nn nh nl 76
    have B2 := bup (bup B1 b2) (bel1 w2 (.cells #[.bool nn, .int .u64 nh, .int .u64 nl] 76))
    clear S1 B1 b2 a0 a1 p0 p1 c0 c1 cf0 cf1
    obtain ⟨⟨_, a0, a1, _, _⟩, ⟨_, p0, p1, _, _⟩, _⟩ := id S2
    go_wp2_with fail
    go_at_call 61
    refine Calls.mono (HD.out _) ?_
    rintro e w3 ⟨rfl, b3⟩
    have z3 : w2.heap.size < w3.heap.size := (N2.keep b3).1
    have N3 := N2.keep b3
    have R3 := (S2.keep b3).2.2
    have B3 := bup B2 b3
    have R4 := R3.alloc (.cells #[.bool false, .int .u64 dh, .int .u64 dl] 76)
    have N4 := N3.alloc (.cells #[.bool false, .int .u64 dh, .int .u64 dl] 76)
    have D4 := Tri.new w3 false dh dl 76
    have B4 := bup B3 (bel1 w3 (.cells #[.bool false, .int .u64 dh, .int .u64 dl] 76))
    clear S2 N2 B2 b3 a0 a1 p0 p1 N3 R3 B3
    have SC := s33 N4 D4
    go_wp2_with fail
    go_region_held3 (fun w' => w'.cell? ⟨w2.heap.size, 0, none⟩ = some (.bool nn) ∧ w'.cell? ⟨w2.heap.size, 1, none⟩ = some (.int .u64 nh) ∧ w'.cell? ⟨w2.heap.size, 2, none⟩ = some (.int .u64 nl) ∧ w'.cell? ⟨w3.heap.size, 0, none⟩ = some (.bool false) ∧ w'.cell? ⟨w3.heap.size, 1, none⟩ = some (.int .u64 dh) ∧ w'.cell? ⟨w3.heap.size, 2, none⟩ = some (.int .u64 dl)) (first | assumption | exact s33 ((N6.other (by omega)).other (by omega)) ((D6.other (by omega)).other (by omega)) | go_keep)
      (first | (go_at_call 63; refine (HR.out _).mono ?_; rintro e w5 ⟨rfl, b5⟩; have R5 := R4.drew.keep b5; have N5 := N4.drew.keep b5; have D5 := D4.drew.keep b5; have S5 := s33 N5 D5) | (go_at_call 62; refine (HL.out _).mono ?_; rintro e w6 ⟨rfl, b6⟩; have R6 := R5.keep b6; have N6 := N5.keep b6; have D6 := D5.keep b6; have S6 := s33 N6 D6; obtain ⟨_, k0, k1, k2, k3⟩ := id R6))
    all_goals (try go_wp2_with fail)
    all_goals exact bodyPost_ret (v := .tuple #[.agg #[.int .i64 r.1.N, .int .i64 r.1.D], .int .i64 r.2]) (by simp [results, Tryd.results33, go_sem, k0, k1]) rfl ⟨rfl, ((bup (bup B4.drew b5) b6).setCell (by simp; omega) _).setCell (by simp; omega) _⟩

theorem rdiv_any (a b : Rt) (ha : RtIn a) (hb : RtIn b) (w : World) :
    Calls Tryd.prog 33 #[rtv a, rtv b] w fun e w' => e = .returned (.tuple #[rtv (divA a b).1, .int .i64 (divA a b).2]) ∧ Below w.heap.size w w' := by
  have HB := rboth_any a b ha hb
  by_cases hr : (rightB a && rightB b) = true
  · obtain ⟨ra, rb⟩ := (both_iff a b).1 hr
    rw [hr] at HB
    by_cases h0 : b.N = 0
    · have e : divA a b = bad 11 := by unfold divA; rw [if_pos hr, if_pos h0]
      rw [e]
      unfold rtv at HB ⊢
      rw [h0] at HB ⊢
      exact rdiv_zero a.N a.D b.D HB w
    · have e : divA a b = low (valQ a / valQ b) := by unfold divA; rw [if_pos hr, if_neg h0]
      have t1 := top_bounds ra rb
      have t2 := top_bounds rb ra
      have s1 := sz_le t1
      have s2 := sz_le t2
      have pa := val_pos a ra
      have HN := rtimes_any a.N b.D ha.1 hb.2
      have HD := rtimes_any a.D b.N ha.2 hb.1
      have ec : b.N * a.D = a.D * b.N := Int.mul_comm _ _
      rw [ec] at s2 t2
      have s0 := sz_nonneg (a.N * b.D)
      rw [e, val_div]
      by_cases hs : b.N < 0
      · have hd : a.D * b.N < 0 := Int.mul_neg_of_pos_of_neg pa hs
        have HR := right_sgn (!decide (a.N * b.D < 0)) (sz (a.N * b.D)) s0 (by omega)
        have e1 : sgn (!decide (a.N * b.D < 0)) (sz (a.N * b.D)) = -(a.N * b.D) := by generalize a.N * b.D = z; unfold sgn sz; by_cases h : z < 0 <;> simp [h] <;> omega
        rw [e1] at HR
        have HL := rlow_i (-(a.N * b.D)) (-(a.D * b.N)) (by rw [show sz (-(a.N * b.D)) = sz (a.N * b.D) by unfold sz; omega]; omega) (by omega) (by omega)
        rw [Rat.neg_divInt_neg] at HL
        unfold nv at HN HD HR HL
        rw [show sz (-(a.N * b.D)) = sz (a.N * b.D) by unfold sz; omega] at HR HL
        rw [show sz (-(a.D * b.N)) = sz (a.D * b.N) by unfold sz; omega, decide_eq_false (show ¬ -(a.D * b.N) < 0 by omega)] at HL
        exact rdiv_walk a.N a.D b.N b.D _ _ _ _ _ _ _ _ _ h0 (.inl ⟨decide_eq_true hd, rfl⟩) HB HN HD HR HL w
      · have hd : 0 < a.D * b.N := Int.mul_pos pa (by omega)
        have HR := right_sgn (decide (a.N * b.D < 0)) (sz (a.N * b.D)) s0 (by omega)
        rw [sgn_sz] at HR
        have HL := rlow_i (a.N * b.D) (a.D * b.N) (by omega) hd (by omega)
        unfold nv at HN HD HR HL
        rw [decide_eq_false (show ¬ a.D * b.N < 0 by omega)] at HL
        exact rdiv_walk a.N a.D b.N b.D _ _ _ _ _ _ _ _ _ h0 (.inr ⟨decide_eq_false (by omega), rfl⟩) HB HN HD HR HL w
  · have e : divA a b = bad 12 := by unfold divA; rw [if_neg hr]
    rw [e]
    rw [Bool.not_eq_true] at hr
    rw [hr] at HB
    exact rdiv_not a.N a.D b.N b.D HB w
end Go.Proofs.YtmofjkfghidlnaaDoor
