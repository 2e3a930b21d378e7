/- Walks of surtitleref3: New, Add, Sub, Neg, Mul, Div, over what they call. -/
import Derived.Test.YtipnefaggpigfaaRefA5
import Derived.Test.YtipnefaggpigfaaRefA6
namespace Go.Proofs.Ytipnefaggpigfaa
open Go.RowKit Go.Shelf
attribute [local go_sem] Oper.semAt_some

theorem Two.put1 {V : World} {R S i : Nat} {x y v : Value} (h : Two V R x y) (n : S ≠ R) : Two (V.setCell ⟨S, i, none⟩ v) R x y := by
  obtain ⟨z, c0, c1, f0, f1⟩ := h
  have n2 : R ≠ S := fun e => n e.symm
  exact ⟨by simpa using z, by go_simp, by go_simp, by go_simp, by go_simp⟩

set_option maxRecDepth 100000 in
set_option maxHeartbeats 1000000 in
theorem radd_not (an ad bn bd : Int)
    (HB : ∀ w, Calls Try.prog 62 #[.agg #[.int .i64 an, .int .i64 ad], .agg #[.int .i64 bn, .int .i64 bd]] w fun e w' => e = .returned (.bool false) ∧ Below w.heap.size w w') (w : World) :
    Calls Try.prog 32 #[.agg #[.int .i64 an, .int .i64 ad], .agg #[.int .i64 bn, .int .i64 bd]] w fun e w' => e = .returned (.tuple #[.agg #[.int .i64 0, .int .i64 0], .int .i64 12]) ∧ Below w.heap.size w w' := by
  have HB := hideR HB
  go_enter Try.func32, Try.ntmps32
  go_wp2_with fail
  go_at_call 62
  refine Calls.mono (HB.out _) ?_
  rintro e w1 ⟨rfl, b1⟩
  have S1 := (Three.new w an ad bn bd 0 0 42).keep b1
  have B1 := bup (bel3 w _ _ _) b1
  clear b1
  obtain ⟨⟨_, a0, a1, _, _⟩, ⟨_, p0, p1, _, _⟩, ⟨_, c0, c1, cf0, cf1⟩⟩ := id S1
  go_wp2_with fail
  exact bodyPost_ret (v := .tuple #[.agg #[.int .i64 0, .int .i64 0], .int .i64 12]) (by simp [results, Try.results32, go_sem, c0, c1]) rfl ⟨rfl, (B1.setCell (by simp; omega) _).setCell (by simp; omega) _⟩

set_option maxRecDepth 100000 in
set_option maxHeartbeats 1000000 in
theorem rsub_not (an ad bn bd : Int)
    (HB : ∀ w, Calls Try.prog 62 #[.agg #[.int .i64 an, .int .i64 ad], .agg #[.int .i64 bn, .int .i64 bd]] w fun e w' => e = .returned (.bool false) ∧ Below w.heap.size w w') (w : World) :
    Calls Try.prog 31 #[.agg #[.int .i64 an, .int .i64 ad], .agg #[.int .i64 bn, .int .i64 bd]] w fun e w' => e = .returned (.tuple #[.agg #[.int .i64 0, .int .i64 0], .int .i64 12]) ∧ Below w.heap.size w w' := by
  have HB := hideR HB
  go_enter Try.func31, Try.ntmps31
  go_wp2_with fail
  go_at_call 62
  refine Calls.mono (HB.out _) ?_
  rintro e w1 ⟨rfl, b1⟩
  have S1 := (Three.new w an ad bn bd 0 0 42).keep b1
  have B1 := bup (bel3 w _ _ _) b1
  clear b1
  obtain ⟨⟨_, a0, a1, _, _⟩, ⟨_, p0, p1, _, _⟩, ⟨_, c0, c1, cf0, cf1⟩⟩ := id S1
  go_wp2_with fail
  exact bodyPost_ret (v := .tuple #[.agg #[.int .i64 0, .int .i64 0], .int .i64 12]) (by simp [results, Try.results31, go_sem, c0, c1]) rfl ⟨rfl, (B1.setCell (by simp; omega) _).setCell (by simp; omega) _⟩

set_option maxRecDepth 100000 in
set_option maxHeartbeats 1000000 in
theorem rmul_not (an ad bn bd : Int)
    (HB : ∀ w, Calls Try.prog 62 #[.agg #[.int .i64 an, .int .i64 ad], .agg #[.int .i64 bn, .int .i64 bd]] w fun e w' => e = .returned (.bool false) ∧ Below w.heap.size w w') (w : World) :
    Calls Try.prog 82 #[.agg #[.int .i64 an, .int .i64 ad], .agg #[.int .i64 bn, .int .i64 bd]] w fun e w' => e = .returned (.tuple #[.agg #[.int .i64 0, .int .i64 0], .int .i64 12]) ∧ Below w.heap.size w w' := by
  have HB := hideR HB
  go_enter Try.func82, Try.ntmps82
  go_wp2_with fail
  go_at_call 62
  refine Calls.mono (HB.out _) ?_
  rintro e w1 ⟨rfl, b1⟩
  have S1 := (Three.new w an ad bn bd 0 0 42).keep b1
  have B1 := bup (bel3 w _ _ _) b1
  clear b1
  obtain ⟨⟨_, a0, a1, _, _⟩, ⟨_, p0, p1, _, _⟩, ⟨_, c0, c1, cf0, cf1⟩⟩ := id S1
  go_wp2_with fail
  exact bodyPost_ret (v := .tuple #[.agg #[.int .i64 0, .int .i64 0], .int .i64 12]) (by simp [results, Try.results82, go_sem, c0, c1]) rfl ⟨rfl, (B1.setCell (by simp; omega) _).setCell (by simp; omega) _⟩

set_option maxRecDepth 100000 in
set_option maxHeartbeats 1000000 in
theorem rdiv_not (an ad bn bd : Int)
    (HB : ∀ w, Calls Try.prog 62 #[.agg #[.int .i64 an, .int .i64 ad], .agg #[.int .i64 bn, .int .i64 bd]] w fun e w' => e = .returned (.bool false) ∧ Below w.heap.size w w') (w : World) :
    Calls Try.prog 60 #[.agg #[.int .i64 an, .int .i64 ad], .agg #[.int .i64 bn, .int .i64 bd]] w fun e w' => e = .returned (.tuple #[.agg #[.int .i64 0, .int .i64 0], .int .i64 12]) ∧ Below w.heap.size w w' := by
  have HB := hideR HB
  go_enter Try.func60, Try.ntmps60
  go_wp2_with fail
  go_at_call 62
  refine Calls.mono (HB.out _) ?_
  rintro e w1 ⟨rfl, b1⟩
  have S1 := (Three.new w an ad bn bd 0 0 42).keep b1
  have B1 := bup (bel3 w _ _ _) b1
  clear b1
  obtain ⟨⟨_, a0, a1, _, _⟩, ⟨_, p0, p1, _, _⟩, ⟨_, c0, c1, cf0, cf1⟩⟩ := id S1
  go_wp2_with fail
  exact bodyPost_ret (v := .tuple #[.agg #[.int .i64 0, .int .i64 0], .int .i64 12]) (by simp [results, Try.results60, go_sem, c0, c1]) rfl ⟨rfl, (B1.setCell (by simp; omega) _).setCell (by simp; omega) _⟩

set_option maxRecDepth 100000 in
set_option maxHeartbeats 1000000 in
theorem rsub_walk (an ad bn bd nb : Int) (r : Rt × Int) (hn : IntKind.i64.wrap (-bn) = nb)
    (HB : ∀ w, Calls Try.prog 62 #[.agg #[.int .i64 an, .int .i64 ad], .agg #[.int .i64 bn, .int .i64 bd]] w fun e w' => e = .returned (.bool true) ∧ Below w.heap.size w w')
    (HA : ∀ w, Calls Try.prog 32 #[.agg #[.int .i64 an, .int .i64 ad], .agg #[.int .i64 nb, .int .i64 bd]] w fun e w' => e = .returned (.tuple #[rtv r.1, .int .i64 r.2]) ∧ Below w.heap.size w w') (w : World) :
    Calls Try.prog 31 #[.agg #[.int .i64 an, .int .i64 ad], .agg #[.int .i64 bn, .int .i64 bd]] w fun e w' => e = .returned (.tuple #[rtv r.1, .int .i64 r.2]) ∧ Below w.heap.size w w' := by
  simp only [rtv] at *
  have HB := hideR HB
  have HA := hideR HA
  go_enter Try.func31, Try.ntmps31
  go_wp2_with fail
  go_at_call 62
  refine Calls.mono (HB.out _) ?_
  rintro e w1 ⟨rfl, b1⟩
  have S1 := (Three.new w an ad bn bd 0 0 42).keep b1
  have B1 := bup (bel3 w _ _ _) b1
  clear b1
  obtain ⟨⟨_, a0, a1, _, _⟩, ⟨_, p0, p1, _, _⟩, ⟨_, c0, c1, cf0, cf1⟩⟩ := id S1
  go_wp2_with fail
  go_at_call 32
  refine Calls.mono (HA.out _) ?_
  rintro e w2 ⟨rfl, b2⟩
  have S2 := S1.keep b2
  have B2 := bup B1 b2
  clear a0 a1 p0 p1 c0 c1 cf0 cf1 S1 B1 b2
  obtain ⟨⟨_, a0, a1, _, _⟩, ⟨_, p0, p1, _, _⟩, ⟨_, c0, c1, cf0, cf1⟩⟩ := id S2
  go_wp2_with fail
  exact bodyPost_ret (v := .tuple #[.agg #[.int .i64 r.1.N, .int .i64 r.1.D], .int .i64 r.2]) (by simp [results, Try.results31, go_sem, c0, c1]) rfl ⟨rfl, (B2.setCell (by simp; omega) _).setCell (by simp; omega) _⟩

set_option maxRecDepth 100000 in
set_option maxHeartbeats 1000000 in
theorem radd_walk (an ad bn bd : Int) (pn qn sn dn : Bool) (ph pl qh ql sh sl dh dl : Int) (r : Rt × Int)
    (HB : ∀ w, Calls Try.prog 62 #[.agg #[.int .i64 an, .int .i64 ad], .agg #[.int .i64 bn, .int .i64 bd]] w fun e w' => e = .returned (.bool true) ∧ Below w.heap.size w w')
    (HP : ∀ w, Calls Try.prog 65 #[.int .i64 an, .int .i64 bd] w fun e w' => e = .returned (.agg #[.bool pn, .int .u64 ph, .int .u64 pl]) ∧ Below w.heap.size w w')
    (HQ : ∀ w, Calls Try.prog 65 #[.int .i64 bn, .int .i64 ad] w fun e w' => e = .returned (.agg #[.bool qn, .int .u64 qh, .int .u64 ql]) ∧ Below w.heap.size w w')
    (HS : ∀ w, Calls Try.prog 64 #[.agg #[.bool pn, .int .u64 ph, .int .u64 pl], .agg #[.bool qn, .int .u64 qh, .int .u64 ql]] w fun e w' => e = .returned (.agg #[.bool sn, .int .u64 sh, .int .u64 sl]) ∧ Below w.heap.size w w')
    (HD : ∀ w, Calls Try.prog 65 #[.int .i64 ad, .int .i64 bd] w fun e w' => e = .returned (.agg #[.bool dn, .int .u64 dh, .int .u64 dl]) ∧ Below w.heap.size w w')
    (HL : ∀ w, Calls Try.prog 63 #[.agg #[.bool sn, .int .u64 sh, .int .u64 sl], .agg #[.bool dn, .int .u64 dh, .int .u64 dl]] w fun e w' => e = .returned (.tuple #[rtv r.1, .int .i64 r.2]) ∧ Below w.heap.size w w') (w : World) :
    Calls Try.prog 32 #[.agg #[.int .i64 an, .int .i64 ad], .agg #[.int .i64 bn, .int .i64 bd]] w fun e w' => e = .returned (.tuple #[rtv r.1, .int .i64 r.2]) ∧ Below w.heap.size w w' := by
  simp only [rtv] at *
  have HB := hideR HB
  have HP := hideR HP
  have HQ := hideR HQ
  have HS := hideR HS
  have HD := hideR HD
  have HL := hideR HL
  go_enter Try.func32, Try.ntmps32
  go_wp2_with fail
  go_at_call 62
  refine Calls.mono (HB.out _) ?_
  rintro e w1 ⟨rfl, b1⟩
  have S1 := (Three.new w an ad bn bd 0 0 42).keep b1
  have B1 := bup (bel3 w _ _ _) b1
  clear b1
  obtain ⟨⟨_, a0, a1, _, _⟩, ⟨_, p0, p1, _, _⟩, ⟨_, c0, c1, cf0, cf1⟩⟩ := id S1
  go_wp2_with fail
  have z2 : w.heap.size + 1 + 1 < w1.heap.size := S1.2.2.1
  have SC : w1.cell? ⟨w.heap.size, 0, none⟩ = some (.int .i64 an) ∧ w1.cell? ⟨w.heap.size, 1, none⟩ = some (.int .i64 ad) ∧ w1.cell? ⟨w.heap.size + 1, 0, none⟩ = some (.int .i64 bn) ∧ w1.cell? ⟨w.heap.size + 1, 1, none⟩ = some (.int .i64 bd) := ⟨a0, a1, p0, p1⟩
  have zA : w.heap.size < w1.heap.size := by omega
  have zB : w.heap.size + 1 < w1.heap.size := by omega
  clear S1 HB
  go_region_held3 (fun w' => w'.cell? ⟨w.heap.size, 0, none⟩ = some (.int .i64 an) ∧ w'.cell? ⟨w.heap.size, 1, none⟩ = some (.int .i64 ad) ∧ w'.cell? ⟨w.heap.size + 1, 0, none⟩ = some (.int .i64 bn) ∧ w'.cell? ⟨w.heap.size + 1, 1, none⟩ = some (.int .i64 bd)) (first | assumption | exact keep4s S6 | go_keep)
    (first | (go_at_call_of 65 an; refine (HP.out _).mono ?_; rintro e w2 ⟨rfl, b2⟩; have S2 := keep4 b2 zA zB SC) | (go_at_call_of 65 bn; refine (HQ.out _).mono ?_; rintro e w3 ⟨rfl, b3⟩; have D3 := bup b2 b3; have S3 := keep4 D3 zA zB SC) | (go_at_call 64; refine (HS.out _).mono ?_; rintro e w4 ⟨rfl, b4⟩; have D4 := bup D3 b4; have S4 := keep4 D4 zA zB SC) | (go_at_call_of 65 ad; refine (HD.out _).mono ?_; rintro e w5 ⟨rfl, b5⟩; have D5 := bup D4 b5; have S5 := keep4 D5 zA zB SC) | (go_at_call 63; refine (HL.out _).mono ?_; rintro e w6 ⟨rfl, b6⟩; have D6 := bup D5 b6; have S6 := keep4 D6 zA zB SC; obtain ⟨k0, k1, k2, k3⟩ := two_keep D6 z2 c0 c1 cf0 cf1))
  all_goals (try go_wp2_with fail)
  all_goals exact bodyPost_ret (v := .tuple #[.agg #[.int .i64 r.1.N, .int .i64 r.1.D], .int .i64 r.2]) (by simp [results, Try.results32, go_sem, k0, k1]) rfl ⟨rfl, ((bup B1.drew D6).setCell (by simp; omega) _).setCell (by simp; omega) _⟩

set_option maxRecDepth 100000 in
set_option maxHeartbeats 1000000 in
theorem rmul_walk (an ad bn bd : Int) (pn dn : Bool) (ph pl dh dl : Int) (r : Rt × Int)
    (HB : ∀ w, Calls Try.prog 62 #[.agg #[.int .i64 an, .int .i64 ad], .agg #[.int .i64 bn, .int .i64 bd]] w fun e w' => e = .returned (.bool true) ∧ Below w.heap.size w w')
    (HP : ∀ w, Calls Try.prog 65 #[.int .i64 an, .int .i64 bn] w fun e w' => e = .returned (.agg #[.bool pn, .int .u64 ph, .int .u64 pl]) ∧ Below w.heap.size w w')
    (HD : ∀ w, Calls Try.prog 65 #[.int .i64 ad, .int .i64 bd] w fun e w' => e = .returned (.agg #[.bool dn, .int .u64 dh, .int .u64 dl]) ∧ Below w.heap.size w w')
    (HL : ∀ w, Calls Try.prog 63 #[.agg #[.bool pn, .int .u64 ph, .int .u64 pl], .agg #[.bool dn, .int .u64 dh, .int .u64 dl]] w fun e w' => e = .returned (.tuple #[rtv r.1, .int .i64 r.2]) ∧ Below w.heap.size w w') (w : World) :
    Calls Try.prog 82 #[.agg #[.int .i64 an, .int .i64 ad], .agg #[.int .i64 bn, .int .i64 bd]] w fun e w' => e = .returned (.tuple #[rtv r.1, .int .i64 r.2]) ∧ Below w.heap.size w w' := by
  simp only [rtv] at *
  have HB := hideR HB
  have HP := hideR HP
  have HD := hideR HD
  have HL := hideR HL
  go_enter Try.func82, Try.ntmps82
  go_wp2_with fail
  go_at_call 62
  refine Calls.mono (HB.out _) ?_
  rintro e w1 ⟨rfl, b1⟩
  have S1 := (Three.new w an ad bn bd 0 0 42).keep b1
  have B1 := bup (bel3 w _ _ _) b1
  clear b1
  obtain ⟨⟨_, a0, a1, _, _⟩, ⟨_, p0, p1, _, _⟩, ⟨_, c0, c1, cf0, cf1⟩⟩ := id S1
  go_wp2_with fail
  have z2 : w.heap.size + 1 + 1 < w1.heap.size := S1.2.2.1
  have SC : w1.cell? ⟨w.heap.size, 0, none⟩ = some (.int .i64 an) ∧ w1.cell? ⟨w.heap.size, 1, none⟩ = some (.int .i64 ad) ∧ w1.cell? ⟨w.heap.size + 1, 0, none⟩ = some (.int .i64 bn) ∧ w1.cell? ⟨w.heap.size + 1, 1, none⟩ = some (.int .i64 bd) := ⟨a0, a1, p0, p1⟩
  have zA : w.heap.size < w1.heap.size := by omega
  have zB : w.heap.size + 1 < w1.heap.size := by omega
  clear S1 HB
  go_region_held3 (fun w' => w'.cell? ⟨w.heap.size, 0, none⟩ = some (.int .i64 an) ∧ w'.cell? ⟨w.heap.size, 1, none⟩ = some (.int .i64 ad) ∧ w'.cell? ⟨w.heap.size + 1, 0, none⟩ = some (.int .i64 bn) ∧ w'.cell? ⟨w.heap.size + 1, 1, none⟩ = some (.int .i64 bd)) (first | assumption | exact keep4s S4 | go_keep)
    (first | (go_at_call_of 65 an; refine (HP.out _).mono ?_; rintro e w2 ⟨rfl, b2⟩; have S2 := keep4 b2 zA zB SC) | (go_at_call_of 65 ad; refine (HD.out _).mono ?_; rintro e w3 ⟨rfl, b3⟩; have D3 := bup b2 b3; have S3 := keep4 D3 zA zB SC) | (go_at_call 63; refine (HL.out _).mono ?_; rintro e w4 ⟨rfl, b4⟩; have D4 := bup D3 b4; have S4 := keep4 D4 zA zB SC; obtain ⟨k0, k1, k2, k3⟩ := two_keep D4 z2 c0 c1 cf0 cf1))
  all_goals (try go_wp2_with fail)
  all_goals exact bodyPost_ret (v := .tuple #[.agg #[.int .i64 r.1.N, .int .i64 r.1.D], .int .i64 r.2]) (by simp [results, Try.results82, go_sem, k0, k1]) rfl ⟨rfl, ((bup B1.drew D4).setCell (by simp; omega) _).setCell (by simp; omega) _⟩
end Go.Proofs.Ytipnefaggpigfaa
