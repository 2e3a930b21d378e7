/- Walks of surtitleref3: New, Add, Sub, Neg, Mul, Div, over what they call. -/
import Derived.Test.YthhhglfcacoejaaGreatDoorRefA5
import Derived.Test.YthhhglfcacoejaaGreatDoorRefA6
namespace Go.Proofs.YthhhglfcacoejaaGreatDoor
open Go.RowKit Go.Shelf
attribute [local go_sem] Oper.semAt_some

theorem Two.put1 {V : World} {R S i : Nat} {x y v : Value} (h : Two V R x y) (n : S ≠ R) : Two (V.setCell ⟨S, i, none⟩ v) R x y := by
  obtain ⟨z, c0, c1, f0, f1⟩ := h
  have n2 : R ≠ S := fun e => n e.symm
  exact ⟨by simpa using z, by go_simp, by go_simp, by go_simp, by go_simp⟩

set_option maxRecDepth 100000 in
set_option maxHeartbeats 1000000 in
theorem radd_not (an ad bn bd : Int)
    (HB : ∀ w, Calls Tryz.prog 73 #[.agg #[.int .i64 an, .int .i64 ad], .agg #[.int .i64 bn, .int .i64 bd]] w fun e w' => e = .returned (.bool false) ∧ Below w.heap.size w w') (w : World) :
    Calls Tryz.prog 79 #[.agg #[.int .i64 an, .int .i64 ad], .agg #[.int .i64 bn, .int .i64 bd]] w fun e w' => e = .returned (.tuple #[.agg #[.int .i64 0, .int .i64 0], .int .i64 12]) ∧ Below w.heap.size w w' := by
  have HB := hideR HB
  go_enter Tryz.func79, Tryz.ntmps79
  go_wp2_with fail
  go_at_call 73
  refine Calls.mono (HB.out _) ?_
  rintro e w1 ⟨rfl, b1⟩
  have S1 := (Three.new w an ad bn bd 0 0 26).keep b1
  have B1 := bup (bel3 w _ _ _) b1
  clear b1
  obtain ⟨⟨_, a0, a1, _, _⟩, ⟨_, p0, p1, _, _⟩, ⟨_, c0, c1, cf0, cf1⟩⟩ := id S1
  go_wp2_with fail
  exact bodyPost_ret (v := .tuple #[.agg #[.int .i64 0, .int .i64 0], .int .i64 12]) (by simp [results, Tryz.results79, go_sem, c0, c1]) rfl ⟨rfl, (B1.setCell (by simp; omega) _).setCell (by simp; omega) _⟩

set_option maxRecDepth 100000 in
set_option maxHeartbeats 1000000 in
theorem rsub_not (an ad bn bd : Int)
    (HB : ∀ w, Calls Tryz.prog 73 #[.agg #[.int .i64 an, .int .i64 ad], .agg #[.int .i64 bn, .int .i64 bd]] w fun e w' => e = .returned (.bool false) ∧ Below w.heap.size w w') (w : World) :
    Calls Tryz.prog 45 #[.agg #[.int .i64 an, .int .i64 ad], .agg #[.int .i64 bn, .int .i64 bd]] w fun e w' => e = .returned (.tuple #[.agg #[.int .i64 0, .int .i64 0], .int .i64 12]) ∧ Below w.heap.size w w' := by
  have HB := hideR HB
  go_enter Tryz.func45, Tryz.ntmps45
  go_wp2_with fail
  go_at_call 73
  refine Calls.mono (HB.out _) ?_
  rintro e w1 ⟨rfl, b1⟩
  have S1 := (Three.new w an ad bn bd 0 0 26).keep b1
  have B1 := bup (bel3 w _ _ _) b1
  clear b1
  obtain ⟨⟨_, a0, a1, _, _⟩, ⟨_, p0, p1, _, _⟩, ⟨_, c0, c1, cf0, cf1⟩⟩ := id S1
  go_wp2_with fail
  exact bodyPost_ret (v := .tuple #[.agg #[.int .i64 0, .int .i64 0], .int .i64 12]) (by simp [results, Tryz.results45, go_sem, c0, c1]) rfl ⟨rfl, (B1.setCell (by simp; omega) _).setCell (by simp; omega) _⟩

set_option maxRecDepth 100000 in
set_option maxHeartbeats 1000000 in
theorem rdiv_not (an ad bn bd : Int)
    (HB : ∀ w, Calls Tryz.prog 73 #[.agg #[.int .i64 an, .int .i64 ad], .agg #[.int .i64 bn, .int .i64 bd]] w fun e w' => e = .returned (.bool false) ∧ Below w.heap.size w w') (w : World) :
    Calls Tryz.prog 42 #[.agg #[.int .i64 an, .int .i64 ad], .agg #[.int .i64 bn, .int .i64 bd]] w fun e w' => e = .returned (.tuple #[.agg #[.int .i64 0, .int .i64 0], .int .i64 12]) ∧ Below w.heap.size w w' := by
  have HB := hideR HB
  go_enter Tryz.func42, Tryz.ntmps42
  go_wp2_with fail
  go_at_call 73
  refine Calls.mono (HB.out _) ?_
  rintro e w1 ⟨rfl, b1⟩
  have S1 := (Three.new w an ad bn bd 0 0 26).keep b1
  have B1 := bup (bel3 w _ _ _) b1
  clear b1
  obtain ⟨⟨_, a0, a1, _, _⟩, ⟨_, p0, p1, _, _⟩, ⟨_, c0, c1, cf0, cf1⟩⟩ := id S1
  go_wp2_with fail
  exact bodyPost_ret (v := .tuple #[.agg #[.int .i64 0, .int .i64 0], .int .i64 12]) (by simp [results, Tryz.results42, go_sem, c0, c1]) rfl ⟨rfl, (B1.setCell (by simp; omega) _).setCell (by simp; omega) _⟩

set_option maxRecDepth 100000 in
set_option maxHeartbeats 1000000 in
theorem rsub_walk (an ad bn bd nb : Int) (r : Rt × Int) (hn : IntKind.i64.wrap (-bn) = nb)
    (HB : ∀ w, Calls Tryz.prog 73 #[.agg #[.int .i64 an, .int .i64 ad], .agg #[.int .i64 bn, .int .i64 bd]] w fun e w' => e = .returned (.bool true) ∧ Below w.heap.size w w')
    (HA : ∀ w, Calls Tryz.prog 79 #[.agg #[.int .i64 an, .int .i64 ad], .agg #[.int .i64 nb, .int .i64 bd]] w fun e w' => e = .returned (.tuple #[rtv r.1, .int .i64 r.2]) ∧ Below w.heap.size w w') (w : World) :
    Calls Tryz.prog 45 #[.agg #[.int .i64 an, .int .i64 ad], .agg #[.int .i64 bn, .int .i64 bd]] w fun e w' => e = .returned (.tuple #[rtv r.1, .int .i64 r.2]) ∧ Below w.heap.size w w' := by
  simp only [rtv] at *
  have HB := hideR HB
  have HA := hideR HA
  go_enter Tryz.func45, Tryz.ntmps45
  go_wp2_with fail
  go_at_call 73
  refine Calls.mono (HB.out _) ?_
  rintro e w1 ⟨rfl, b1⟩
  have S1 := (Three.new w an ad bn bd 0 0 26).keep b1
  have B1 := bup (bel3 w _ _ _) b1
  clear b1
  obtain ⟨⟨_, a0, a1, _, _⟩, ⟨_, p0, p1, _, _⟩, ⟨_, c0, c1, cf0, cf1⟩⟩ := id S1
  go_wp2_with fail
  go_at_call 79
  refine Calls.mono (HA.out _) ?_
  rintro e w2 ⟨rfl, b2⟩
  have S2 := S1.keep b2
  have B2 := bup B1 b2
  clear a0 a1 p0 p1 c0 c1 cf0 cf1 S1 B1 b2
  obtain ⟨⟨_, a0, a1, _, _⟩, ⟨_, p0, p1, _, _⟩, ⟨_, c0, c1, cf0, cf1⟩⟩ := id S2
  go_wp2_with fail
  exact bodyPost_ret (v := .tuple #[.agg #[.int .i64 r.1.N, .int .i64 r.1.D], .int .i64 r.2]) (by simp [results, Tryz.results45, go_sem, c0, c1]) rfl ⟨rfl, (B2.setCell (by simp; omega) _).setCell (by simp; omega) _⟩

set_option maxRecDepth 100000 in
set_option maxHeartbeats 1000000 in
theorem radd_walk (an ad bn bd : Int) (pn qn sn dn : Bool) (ph pl qh ql sh sl dh dl : Int) (r : Rt × Int)
    (HB : ∀ w, Calls Tryz.prog 73 #[.agg #[.int .i64 an, .int .i64 ad], .agg #[.int .i64 bn, .int .i64 bd]] w fun e w' => e = .returned (.bool true) ∧ Below w.heap.size w w')
    (HP : ∀ w, Calls Tryz.prog 74 #[.int .i64 an, .int .i64 bd] w fun e w' => e = .returned (.agg #[.bool pn, .int .u64 ph, .int .u64 pl]) ∧ Below w.heap.size w w')
    (HQ : ∀ w, Calls Tryz.prog 74 #[.int .i64 bn, .int .i64 ad] w fun e w' => e = .returned (.agg #[.bool qn, .int .u64 qh, .int .u64 ql]) ∧ Below w.heap.size w w')
    (HS : ∀ w, Calls Tryz.prog 103 #[.agg #[.bool pn, .int .u64 ph, .int .u64 pl], .agg #[.bool qn, .int .u64 qh, .int .u64 ql]] w fun e w' => e = .returned (.agg #[.bool sn, .int .u64 sh, .int .u64 sl]) ∧ Below w.heap.size w w')
    (HD : ∀ w, Calls Tryz.prog 74 #[.int .i64 ad, .int .i64 bd] w fun e w' => e = .returned (.agg #[.bool dn, .int .u64 dh, .int .u64 dl]) ∧ Below w.heap.size w w')
    (HL : ∀ w, Calls Tryz.prog 75 #[.agg #[.bool sn, .int .u64 sh, .int .u64 sl], .agg #[.bool dn, .int .u64 dh, .int .u64 dl]] w fun e w' => e = .returned (.tuple #[rtv r.1, .int .i64 r.2]) ∧ Below w.heap.size w w') (w : World) :
    Calls Tryz.prog 79 #[.agg #[.int .i64 an, .int .i64 ad], .agg #[.int .i64 bn, .int .i64 bd]] w fun e w' => e = .returned (.tuple #[rtv r.1, .int .i64 r.2]) ∧ Below w.heap.size w w' := by
  simp only [rtv] at *
  have HB := hideR HB
  have HP := hideR HP
  have HQ := hideR HQ
  have HS := hideR HS
  have HD := hideR HD
  have HL := hideR HL
  go_enter Tryz.func79, Tryz.ntmps79
  go_wp2_with fail
  go_at_call 73
  refine Calls.mono (HB.out _) ?_
  rintro e w1 ⟨rfl, b1⟩
  have S1 := (Three.new w an ad bn bd 0 0 26).keep b1
  have B1 := bup (bel3 w _ _ _) b1
  clear b1
  obtain ⟨⟨_, a0, a1, _, _⟩, ⟨_, p0, p1, _, _⟩, ⟨_, c0, c1, cf0, cf1⟩⟩ := id S1
  go_wp2_with fail
  have z2 : w.heap.size + 1 + 1 < w1.heap.size := S1.2.2.1
  have SC : w1.cell? ⟨w.heap.size, 0, none⟩ = some (.int .i64 an) ∧ w1.cell? ⟨w.heap.size, 1, none⟩ = some (.int .i64 ad) ∧ w1.cell? ⟨w.heap.size + 1, 0, none⟩ = some (.int .i64 bn) ∧ w1.cell? ⟨w.heap.size + 1, 1, none⟩ = some (.int .i64 bd) := ⟨a0, a1, p0, p1⟩
  have zA : w.heap.size < w1.heap.size := by omega
  have zB : w.heap.size + 1 < w1.heap.size := by omega
  clear S1 HB
  go_region_held3 (fun w' => w'.cell? ⟨w.heap.size, 0, none⟩ = some (.int .i64 an) ∧ w'.cell? ⟨w.heap.size, 1, none⟩ = some (.int .i64 ad) ∧ w'.cell? ⟨w.heap.size + 1, 0, none⟩ = some (.int .i64 bn) ∧ w'.cell? ⟨w.heap.size + 1, 1, none⟩ = some (.int .i64 bd)) (first | assumption | exact keep4s S6 | go_keep)
    (first | (go_at_call_of 74 an; refine (HP.out _).mono ?_; rintro e w2 ⟨rfl, b2⟩; have S2 := keep4 b2 zA zB SC) | (go_at_call_of 74 bn; refine (HQ.out _).mono ?_; rintro e w3 ⟨rfl, b3⟩; have D3 := bup b2 b3; have S3 := keep4 D3 zA zB SC) | (go_at_call 103; refine (HS.out _).mono ?_; rintro e w4 ⟨rfl, b4⟩; have D4 := bup D3 b4; have S4 := keep4 D4 zA zB SC) | (go_at_call_of 74 ad; refine (HD.out _).mono ?_; rintro e w5 ⟨rfl, b5⟩; have D5 := bup D4 b5; have S5 := keep4 D5 zA zB SC) | (go_at_call 75; refine (HL.out _).mono ?_; rintro e w6 ⟨rfl, b6⟩; have D6 := bup D5 b6; have S6 := keep4 D6 zA zB SC; obtain ⟨k0, k1, k2, k3⟩ := two_keep D6 z2 c0 c1 cf0 cf1))
  all_goals (try go_wp2_with fail)
  all_goals exact bodyPost_ret (v := .tuple #[.agg #[.int .i64 r.1.N, .int .i64 r.1.D], .int .i64 r.2]) (by simp [results, Tryz.results79, go_sem, k0, k1]) rfl ⟨rfl, ((bup B1.drew D6).setCell (by simp; omega) _).setCell (by simp; omega) _⟩

end Go.Proofs.YthhhglfcacoejaaGreatDoor
