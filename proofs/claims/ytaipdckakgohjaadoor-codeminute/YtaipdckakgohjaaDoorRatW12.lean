/- Contracts of package ratio: made, Whole. -/
import Derived.Test.YtaipdckakgohjaaDoorRatT
namespace Go.Proofs.YtaipdckakgohjaaDoor
open Go.RowKit Go.Shelf
attribute [local go_sem] Oper.semAt_some

theorem Two.two {V : World} {R : Nat} {x y : Value} (h : Two V R x y) : V.cell? ⟨R, 0, none⟩ = some x ∧ V.cell? ⟨R, 1, none⟩ = some y := ⟨h.2.1, h.2.2.1⟩
theorem set_apart2 {V : World} {A B i j : Nat} {x : Value} (h : A ≠ B) : (V.setCell ⟨A, i, none⟩ x).cell? ⟨B, j, none⟩ = V.cell? ⟨B, j, none⟩ :=
  World.cell?_setCell_other _ _ _ _ (fun e => h (congrArg Addr.block e))

set_option maxRecDepth 100000 in
set_option maxHeartbeats 1000000 in
theorem made1 (z d more p q tv : Int) (ok : Bool) (r : Int × Int)
    (H0 : ∀ w, Calls Tryd.prog 89 #[wv z, .int .u64 d] w fun e w' => e = .returned (wv p) ∧ Below w.heap.size w w')
    (H1 : ∀ w, Calls Tryd.prog 89 #[wv p, .int .u64 more] w fun e w' => e = .returned (wv q) ∧ Below w.heap.size w w')
    (HN : ∀ w, Calls Tryd.prog 90 #[wv q] w fun e w' => e = .returned (.tuple #[.int .i64 tv, .bool ok]) ∧ Below w.heap.size w w')
    (hr : (ok = true ∧ r = (tv, 0)) ∨ (ok = false ∧ r = (0, 12))) (w : World) :
    Calls Tryd.prog 79 #[wv z, .int .u64 d, .int .u64 more, .int .i64 1] w fun e w' => e = .returned (.tuple #[.int .i64 r.1, .int .i64 r.2]) ∧ Below w.heap.size w w' := by
  have H0 := hideR H0
  have H1 := hideR H1
  have HN := hideR HN
  unfold wv at *
  rcases hr with ⟨rfl, rfl⟩ | ⟨rfl, rfl⟩
  all_goals (
    go_enter Tryd.func79, Tryd.ntmps79
    have Tt := Two.new w (.int .u64 (hiZ z)) (.int .u64 (loZ z)) 101
    have BB := bel1 w (.cells #[.int .u64 (hiZ z), .int .u64 (loZ z)] 101)
    obtain ⟨_, t0, t1, t2, t3⟩ := id Tt
    go_wp2_with fail
    go_at_call 89
    refine Calls.mono (H0.out _) ?_
    rintro e w1 ⟨rfl, b1⟩
    clear t0 t1 t2 t3
    replace Tt := Tt.keep b1
    replace BB := bup BB b1
    clear b1
    obtain ⟨_, t0, t1, t2, t3⟩ := id Tt
    go_wp2_with fail
    go_at_call 89
    refine Calls.mono (H1.out _) ?_
    rintro e w2 ⟨rfl, b2⟩
    clear t0 t1 t2 t3
    replace Tt := Tt.keep b2
    replace BB := bup BB b2
    clear b2
    obtain ⟨_, t0, t1, t2, t3⟩ := id Tt
    go_wp2_with fail
    have BV : Below w.heap.size w ((w2.setCell ⟨w.heap.size, 0, none⟩ (.int .u64 (hiZ q))).setCell ⟨w.heap.size, 1, none⟩ (.int .u64 (loZ q))) := (BB.setCell (Nat.le_refl _) _).setCell (Nat.le_refl _) _
    go_at_call 90
    refine Calls.mono (HN.out _) ?_
    rintro e w20 ⟨rfl, b20⟩
    go_wp2_with fail
    go_ret2
    exact ⟨rfl, bup BV b20⟩)

set_option maxRecDepth 100000 in
set_option maxHeartbeats 1000000 in
theorem made2 (z d more p q u x y tv : Int) (ok : Bool) (r : Int × Int)
    (H0 : ∀ w, Calls Tryd.prog 97 #[wv z, wv z] w fun e w' => e = .returned (wv y) ∧ Below w.heap.size w w')
    (H1 : ∀ w, Calls Tryd.prog 89 #[wv y, .int .u64 d] w fun e w' => e = .returned (wv p) ∧ Below w.heap.size w w')
    (H2 : ∀ w, Calls Tryd.prog 89 #[wv p, .int .u64 more] w fun e w' => e = .returned (wv q) ∧ Below w.heap.size w w')
    (H3 : ∀ w, Calls Tryd.prog 98 #[.int .i64 1] w fun e w' => e = .returned (wv 1) ∧ Below w.heap.size w w')
    (H4 : ∀ w, Calls Tryd.prog 97 #[wv q, wv 1] w fun e w' => e = .returned (wv x) ∧ Below w.heap.size w w')
    (H5 : ∀ w, Calls Tryd.prog 89 #[wv x, .int .u64 2] w fun e w' => e = .returned (wv u) ∧ Below w.heap.size w w')
    (HN : ∀ w, Calls Tryd.prog 90 #[wv u] w fun e w' => e = .returned (.tuple #[.int .i64 tv, .bool ok]) ∧ Below w.heap.size w w')
    (hr : (ok = true ∧ r = (tv, 0)) ∨ (ok = false ∧ r = (0, 12))) (w : World) :
    Calls Tryd.prog 79 #[wv z, .int .u64 d, .int .u64 more, .int .i64 2] w fun e w' => e = .returned (.tuple #[.int .i64 r.1, .int .i64 r.2]) ∧ Below w.heap.size w w' := by
  have H0 := hideR H0
  have H1 := hideR H1
  have H2 := hideR H2
  have H3 := hideR H3
  have H4 := hideR H4
  have H5 := hideR H5
  have HN := hideR HN
  unfold wv at *
  rcases hr with ⟨rfl, rfl⟩ | ⟨rfl, rfl⟩
  all_goals (
    go_enter Tryd.func79, Tryd.ntmps79
    have Tt := Two.new w (.int .u64 (hiZ z)) (.int .u64 (loZ z)) 101
    have BB := bel1 w (.cells #[.int .u64 (hiZ z), .int .u64 (loZ z)] 101)
    obtain ⟨_, t0, t1, t2, t3⟩ := id Tt
    go_wp2_with fail
    go_at_call 97
    refine Calls.mono (H0.out _) ?_
    rintro e w1 ⟨rfl, b1⟩
    clear t0 t1 t2 t3
    replace Tt := Tt.keep b1
    replace BB := bup BB b1
    clear b1
    obtain ⟨_, t0, t1, t2, t3⟩ := id Tt
    go_wp2_with fail
    go_at_call 89
    refine Calls.mono (H1.out _) ?_
    rintro e w2 ⟨rfl, b2⟩
    clear t0 t1 t2 t3
    replace Tt := Tt.keep b2
    replace BB := bup BB b2
    clear b2
    obtain ⟨_, t0, t1, t2, t3⟩ := id Tt
    go_wp2_with fail
    go_at_call 89
    refine Calls.mono (H2.out _) ?_
    rintro e w3 ⟨rfl, b3⟩
    clear t0 t1 t2 t3
    have z3 := (Tt.keep b3).1
    replace Tt := (Tt.keep b3).alloc (.cells #[.int .u64 (hiZ q), .int .u64 (loZ q)] 101)
    have Th := Two.new w3 (.int .u64 (hiZ q)) (.int .u64 (loZ q)) 101
    replace BB := bup (bup BB b3) (bel1 w3 (.cells #[.int .u64 (hiZ q), .int .u64 (loZ q)] 101))
    clear b3
    obtain ⟨_, t0, t1, t2, t3⟩ := id Tt
    obtain ⟨_, h0, h1, h2, h3⟩ := id Th
    go_wp2_with fail
    have nn : w.heap.size ≠ w3.heap.size := by omega
    generalize w3.alloc (.cells #[.int .u64 (hiZ q), .int .u64 (loZ q)] 101) = V at *
    go_region_held3 (fun w' => w'.cell? ⟨w3.heap.size, 0, none⟩ = some (.int .u64 (hiZ q)) ∧ w'.cell? ⟨w3.heap.size, 1, none⟩ = some (.int .u64 (loZ q))) (first | assumption | (simp only [set_apart2 nn]; assumption) | go_keep) (first | (go_at_call 98; refine Calls.mono (H3.out _) ?_; rintro e w4 ⟨rfl, b4⟩; have B4 : Below V.heap.size V w4 := bup (Below.refl _ _).drew b4; have S4 := (Th.keep B4).two) | (go_at_call 97; refine Calls.mono (H4.out _) ?_; rintro e w5 ⟨rfl, b5⟩; have B5 : Below V.heap.size V w5 := bup B4 b5; have S5 := (Th.keep B5).two) | (go_at_call 89; refine Calls.mono (H5.out _) ?_; rintro e w6 ⟨rfl, b6⟩; have B6 : Below V.heap.size V w6 := bup B5 b6; have S6 := (Th.keep B6).two; obtain ⟨_, k0, k1, k2, k3⟩ := Tt.keep B6))
    all_goals (try go_wp2_with fail)
    replace BB := bup BB B6
    have BV : Below w.heap.size w ((w6.setCell ⟨w.heap.size, 0, none⟩ (.int .u64 (hiZ u))).setCell ⟨w.heap.size, 1, none⟩ (.int .u64 (loZ u))) := (BB.setCell (Nat.le_refl _) _).setCell (Nat.le_refl _) _
    go_at_call 90
    refine Calls.mono (HN.out _) ?_
    rintro e w20 ⟨rfl, b20⟩
    go_wp2_with fail
    go_ret2
    exact ⟨rfl, bup BV b20⟩)

set_option maxRecDepth 100000 in
set_option maxHeartbeats 1000000 in
theorem made3 (z d more p q u y tv : Int) (ok : Bool) (r : Int × Int)
    (H0 : ∀ w, Calls Tryd.prog 92 #[wv z] w fun e w' => e = .returned (wv y) ∧ Below w.heap.size w w')
    (H1 : ∀ w, Calls Tryd.prog 89 #[wv y, .int .u64 d] w fun e w' => e = .returned (wv p) ∧ Below w.heap.size w w')
    (H2 : ∀ w, Calls Tryd.prog 89 #[wv p, .int .u64 more] w fun e w' => e = .returned (wv q) ∧ Below w.heap.size w w')
    (H3 : ∀ w, Calls Tryd.prog 92 #[wv q] w fun e w' => e = .returned (wv u) ∧ Below w.heap.size w w')
    (HN : ∀ w, Calls Tryd.prog 90 #[wv u] w fun e w' => e = .returned (.tuple #[.int .i64 tv, .bool ok]) ∧ Below w.heap.size w w')
    (hr : (ok = true ∧ r = (tv, 0)) ∨ (ok = false ∧ r = (0, 12))) (w : World) :
    Calls Tryd.prog 79 #[wv z, .int .u64 d, .int .u64 more, .int .i64 3] w fun e w' => e = .returned (.tuple #[.int .i64 r.1, .int .i64 r.2]) ∧ Below w.heap.size w w' := by
  have H0 := hideR H0
  have H1 := hideR H1
  have H2 := hideR H2
  have H3 := hideR H3
  have HN := hideR HN
  unfold wv at *
  rcases hr with ⟨rfl, rfl⟩ | ⟨rfl, rfl⟩
  all_goals (
    go_enter Tryd.func79, Tryd.ntmps79
    have Tt := Two.new w (.int .u64 (hiZ z)) (.int .u64 (loZ z)) 101
    have BB := bel1 w (.cells #[.int .u64 (hiZ z), .int .u64 (loZ z)] 101)
    obtain ⟨_, t0, t1, t2, t3⟩ := id Tt
    go_wp2_with fail
    go_at_call 92
    refine Calls.mono (H0.out _) ?_
    rintro e w1 ⟨rfl, b1⟩
    clear t0 t1 t2 t3
    replace Tt := Tt.keep b1
    replace BB := bup BB b1
    clear b1
    obtain ⟨_, t0, t1, t2, t3⟩ := id Tt
    go_wp2_with fail
    go_at_call 89
    refine Calls.mono (H1.out _) ?_
    rintro e w2 ⟨rfl, b2⟩
    clear t0 t1 t2 t3
    replace Tt := Tt.keep b2
    replace BB := bup BB b2
    clear b2
    obtain ⟨_, t0, t1, t2, t3⟩ := id Tt
    go_wp2_with fail
    go_at_call 89
    refine Calls.mono (H2.out _) ?_
    rintro e w3 ⟨rfl, b3⟩
    clear t0 t1 t2 t3
    replace Tt := Tt.keep b3
    replace BB := bup BB b3
    clear b3
    obtain ⟨_, t0, t1, t2, t3⟩ := id Tt
    go_wp2_with fail
    go_at_call 92
    refine Calls.mono (H3.out _) ?_
    rintro e w4 ⟨rfl, b4⟩
    clear t0 t1 t2 t3
    replace Tt := Tt.keep b4
    replace BB := bup BB b4
    clear b4
    obtain ⟨_, t0, t1, t2, t3⟩ := id Tt
    go_wp2_with fail
    have BV : Below w.heap.size w ((w4.setCell ⟨w.heap.size, 0, none⟩ (.int .u64 (hiZ u))).setCell ⟨w.heap.size, 1, none⟩ (.int .u64 (loZ u))) := (BB.setCell (Nat.le_refl _) _).setCell (Nat.le_refl _) _
    go_at_call 90
    refine Calls.mono (HN.out _) ?_
    rintro e w20 ⟨rfl, b20⟩
    go_wp2_with fail
    go_ret2
    exact ⟨rfl, bup BV b20⟩)

set_option maxRecDepth 100000 in
theorem made_not (z d more how : Int) (h1 : ¬ how = 1) (h2 : ¬ how = 2) (h3 : ¬ how = 3) (w : World) :
    Calls Tryd.prog 79 #[wv z, .int .u64 d, .int .u64 more, .int .i64 how] w fun e w' => e = .returned (.tuple #[.int .i64 0, .int .i64 1]) ∧ Below w.heap.size w w' := by
  unfold wv
  have e1 : (how == 1) = false := by simpa using h1
  have e2 : (how == 2) = false := by simpa using h2
  have e3 : (how == 3) = false := by simpa using h3
  go_enter Tryd.func79, Tryd.ntmps79
  go_wp2_with fail
  go_ret2
  exact ⟨rfl, bel1 _ _⟩

/-- what made tells -/
def madeA (z dd how : Int) : Int × Int := if howB how = true then (if inNum (wholeI how z dd) = true then (wholeI how z dd, 0) else (0, 12)) else (0, 1)
theorem madeA_in (z dd how : Int) (h : howB how = true) : (inNum (wholeI how z dd) = true ∧ madeA z dd how = (if inNum (wholeI how z dd) = true then wholeI how z dd else 0, 0)) ∨ (inNum (wholeI how z dd) = false ∧ madeA z dd how = (0, 12)) := by
  unfold madeA
  rw [if_pos h]
  cases hi : inNum (wholeI how z dd)
  · exact .inr ⟨rfl, if_neg (by simp)⟩
  · exact .inl ⟨rfl, by rw [if_pos rfl, if_pos rfl]⟩
theorem In128.add1 {a : Int} (h0 : -21267647932558653966460912964485513216 ≤ a) (h1 : a ≤ 21267647932558653966460912964485513216) : In128 (a + 1) := by unfold In128; omega
theorem ediv_bounds (a d B : Int) (hd : 0 < d) (hB : 0 ≤ B) (h0 : -B ≤ a) (h1 : a ≤ B) : -B ≤ a / d ∧ a / d ≤ B := by
  constructor
  · apply Int.le_ediv_of_mul_le hd
    have : -B * d ≤ -B * 1 := Int.mul_le_mul_of_nonpos_left (by omega) (by omega)
    omega
  · have : a / d ≤ B / d := Int.ediv_le_ediv hd h1
    have : B / d ≤ B := Int.ediv_le_self _ hB
    omega

theorem made_any (z d more how : Int) (hz0 : -42535295865117307932921825928971026432 ≤ z) (hz1 : z ≤ 42535295865117307932921825928971026432) (hd : 0 < d) (hd2 : d < 18446744073709551616) (hm : 0 < more) (hm2 : more < 18446744073709551616) (w : World) :
    Calls Tryd.prog 79 #[wv z, .int .u64 d, .int .u64 more, .int .i64 how] w fun e w' => e = .returned (.tuple #[.int .i64 (madeA z (d * more) how).1, .int .i64 (madeA z (d * more) how).2]) ∧ Below w.heap.size w w' := by
  have iz : In128 z := by unfold In128; omega
  by_cases h1 : how = 1
  · subst h1
    have e := made_floor z d more hd
    have n := narrow_any (z / d / more) ((iz.floor hd).floor hm)
    rw [e] at n
    refine made1 z d more (z / d) (z / d / more) _ _ _ (floor_any z d iz hd hd2) (floor_any (z / d) more (iz.floor hd) hm hm2) (by rw [e]; exact n) ?_ w
    rcases madeA_in z (d * more) 1 rfl with ⟨a, b⟩ | ⟨a, b⟩
    · exact .inl ⟨a, b⟩
    · exact .inr ⟨a, b⟩
  · by_cases h2 : how = 2
    · subst h2
      have i2 : In128 (z + z) := by unfold In128; omega
      have e := made_near z d more hd hm
      have b1 := ediv_bounds (z + z) d 85070591730234615865843651857942052864 hd (by omega) (by omega) (by omega)
      have b2 := ediv_bounds ((z + z) / d) more 85070591730234615865843651857942052864 hm (by omega) b1.1 b1.2
      have i3 : In128 ((z + z) / d / more + 1) := by unfold In128; omega
      have n := narrow_any (((z + z) / d / more + 1) / 2) (i3.floor (by omega))
      rw [e] at n
      refine made2 z d more ((z + z) / d) ((z + z) / d / more) (((z + z) / d / more + 1) / 2) ((z + z) / d / more + 1) (z + z) _ _ _ (plus_any z z) (floor_any _ d i2 hd hd2) (floor_any _ more (i2.floor hd) hm hm2) (widen_any 1 (by omega) (by omega)) (plus_any _ 1) (floor_any _ 2 i3 (by omega) (by omega)) (by rw [e]; exact n) ?_ w
      rcases madeA_in z (d * more) 2 rfl with ⟨a, b⟩ | ⟨a, b⟩
      · exact .inl ⟨a, b⟩
      · exact .inr ⟨a, b⟩
    · by_cases h3 : how = 3
      · subst h3
        have i2 : In128 (-z) := by unfold In128; omega
        have e := made_ceil z d more hd
        have b1 := ediv_bounds (-z) d 42535295865117307932921825928971026432 hd (by omega) (by omega) (by omega)
        have b2 := ediv_bounds (-z / d) more 42535295865117307932921825928971026432 hm (by omega) b1.1 b1.2
        have i3 : In128 (-(-z / d / more)) := by unfold In128; omega
        have n := narrow_any (-(-z / d / more)) i3
        rw [e] at n
        refine made3 z d more (-z / d) (-z / d / more) (-(-z / d / more)) (-z) _ _ _ (negative_any z) (floor_any _ d i2 hd hd2) (floor_any _ more (i2.floor hd) hm hm2) (negative_any _) (by rw [e]; exact n) ?_ w
        rcases madeA_in z (d * more) 3 rfl with ⟨a, b⟩ | ⟨a, b⟩
        · exact .inl ⟨a, b⟩
        · exact .inr ⟨a, b⟩
      · rw [show madeA z (d * more) how = (0, 1) by unfold madeA howB; rw [if_neg]; simp; omega]
        exact made_not z d more how h1 h2 h3 w
end Go.Proofs.YtaipdckakgohjaaDoor
