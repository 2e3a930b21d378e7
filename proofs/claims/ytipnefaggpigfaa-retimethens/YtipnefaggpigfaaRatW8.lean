/- Contracts of package ratio: Add, Sub, Mul, Neg, Cmp. -/
import Derived.Test.YtipnefaggpigfaaRatW7
namespace Go.Proofs.Ytipnefaggpigfaa
open Go.RowKit Go.Shelf
attribute [local go_sem] Oper.semAt_some

theorem keep8 {B : Nat} {V V2 : World} {a0 a1 b0 b1 r0 r1 : Value} (b : Below V.heap.size V V2)
    (h : B + 1 + 1 < V.heap.size ∧ V.cell? ⟨B, 0, none⟩ = some a0 ∧ V.cell? ⟨B, 1, none⟩ = some a1 ∧ V.cell? ⟨B + 1, 0, none⟩ = some b0 ∧ V.cell? ⟨B + 1, 1, none⟩ = some b1 ∧ V.cell? ⟨B + 1 + 1, 0, none⟩ = some r0 ∧ V.cell? ⟨B + 1 + 1, 1, none⟩ = some r1 ∧ V.frozen? ⟨B + 1 + 1, 0, none⟩ = false ∧ V.frozen? ⟨B + 1 + 1, 1, none⟩ = false) :
    B + 1 + 1 < V2.heap.size ∧ V2.cell? ⟨B, 0, none⟩ = some a0 ∧ V2.cell? ⟨B, 1, none⟩ = some a1 ∧ V2.cell? ⟨B + 1, 0, none⟩ = some b0 ∧ V2.cell? ⟨B + 1, 1, none⟩ = some b1 ∧ V2.cell? ⟨B + 1 + 1, 0, none⟩ = some r0 ∧ V2.cell? ⟨B + 1 + 1, 1, none⟩ = some r1 ∧ V2.frozen? ⟨B + 1 + 1, 0, none⟩ = false ∧ V2.frozen? ⟨B + 1 + 1, 1, none⟩ = false := by
  obtain ⟨z, h0, h1, h2, h3, h4, h5, h6, h7⟩ := h
  exact ⟨Nat.lt_of_lt_of_le z b.size, (b.cell (p := ⟨B, 0, none⟩) (by show B < _; omega)).trans h0, (b.cell (p := ⟨B, 1, none⟩) (by show B < _; omega)).trans h1, (b.cell (p := ⟨B + 1, 0, none⟩) (by show B + 1 < _; omega)).trans h2, (b.cell (p := ⟨B + 1, 1, none⟩) (by show B + 1 < _; omega)).trans h3, (b.cell (p := ⟨B + 1 + 1, 0, none⟩) z).trans h4, (b.cell (p := ⟨B + 1 + 1, 1, none⟩) z).trans h5, (b.frozen (p := ⟨B + 1 + 1, 0, none⟩) z).trans h6, (b.frozen (p := ⟨B + 1 + 1, 1, none⟩) z).trans h7⟩

theorem keep4 {A B : Nat} {V V2 : World} {a0 a1 b0 b1 : Value} (b : Below V.heap.size V V2) (zA : A < V.heap.size) (zB : B < V.heap.size)
    (h : V.cell? ⟨A, 0, none⟩ = some a0 ∧ V.cell? ⟨A, 1, none⟩ = some a1 ∧ V.cell? ⟨B, 0, none⟩ = some b0 ∧ V.cell? ⟨B, 1, none⟩ = some b1) :
    V2.cell? ⟨A, 0, none⟩ = some a0 ∧ V2.cell? ⟨A, 1, none⟩ = some a1 ∧ V2.cell? ⟨B, 0, none⟩ = some b0 ∧ V2.cell? ⟨B, 1, none⟩ = some b1 :=
  ⟨(b.cell (p := ⟨A, 0, none⟩) zA).trans h.1, (b.cell (p := ⟨A, 1, none⟩) zA).trans h.2.1, (b.cell (p := ⟨B, 0, none⟩) zB).trans h.2.2.1, (b.cell (p := ⟨B, 1, none⟩) zB).trans h.2.2.2⟩

theorem keep4s {B : Nat} {V : World} {a0 a1 b0 b1 x y : Value} (h : V.cell? ⟨B, 0, none⟩ = some a0 ∧ V.cell? ⟨B, 1, none⟩ = some a1 ∧ V.cell? ⟨B + 1, 0, none⟩ = some b0 ∧ V.cell? ⟨B + 1, 1, none⟩ = some b1) :
    ((V.setCell ⟨B + 1 + 1, 0, none⟩ x).setCell ⟨B + 1 + 1, 1, none⟩ y).cell? ⟨B, 0, none⟩ = some a0 ∧ ((V.setCell ⟨B + 1 + 1, 0, none⟩ x).setCell ⟨B + 1 + 1, 1, none⟩ y).cell? ⟨B, 1, none⟩ = some a1 ∧ ((V.setCell ⟨B + 1 + 1, 0, none⟩ x).setCell ⟨B + 1 + 1, 1, none⟩ y).cell? ⟨B + 1, 0, none⟩ = some b0 ∧ ((V.setCell ⟨B + 1 + 1, 0, none⟩ x).setCell ⟨B + 1 + 1, 1, none⟩ y).cell? ⟨B + 1, 1, none⟩ = some b1 := by
  have ne : ∀ (o j : Nat) (c : Nat), c < B + 1 + 1 → (⟨B + 1 + 1, o, none⟩ : Addr) ≠ ⟨c, j, none⟩ := fun o j c hc e => by
    have := congrArg Addr.block e
    simp only at this
    omega
  obtain ⟨h0, h1, h2, h3⟩ := h
  refine ⟨?_, ?_, ?_, ?_⟩
  · rw [World.cell?_setCell_other _ _ _ _ (ne _ _ _ (by omega)), World.cell?_setCell_other _ _ _ _ (ne _ _ _ (by omega)), h0]
  · rw [World.cell?_setCell_other _ _ _ _ (ne _ _ _ (by omega)), World.cell?_setCell_other _ _ _ _ (ne _ _ _ (by omega)), h1]
  · rw [World.cell?_setCell_other _ _ _ _ (ne _ _ _ (by omega)), World.cell?_setCell_other _ _ _ _ (ne _ _ _ (by omega)), h2]
  · rw [World.cell?_setCell_other _ _ _ _ (ne _ _ _ (by omega)), World.cell?_setCell_other _ _ _ _ (ne _ _ _ (by omega)), h3]

set_option maxRecDepth 100000 in
set_option maxHeartbeats 300000 in
theorem add_walk (an ad bn bd p q s dd : Int) (r : Rt × Int) (h0 : 1 ≤ dd) (h1 : dd ≤ 4611686018427387904) (hm : ad * bd = dd)
    (HA : ∀ w, Calls Try.prog 43 #[.agg #[.int .i64 an, .int .i64 ad]] w fun e w' => e = .returned (.bool true) ∧ Below w.heap.size w w')
    (HB : ∀ w, Calls Try.prog 43 #[.agg #[.int .i64 bn, .int .i64 bd]] w fun e w' => e = .returned (.bool true) ∧ Below w.heap.size w w')
    (HP1 : ∀ w, Calls Try.prog 66 #[.int .i64 an, .int .i64 bd] w fun e w' => e = .returned (wv p) ∧ Below w.heap.size w w')
    (HP2 : ∀ w, Calls Try.prog 66 #[.int .i64 bn, .int .i64 ad] w fun e w' => e = .returned (wv q) ∧ Below w.heap.size w w')
    (HQ : ∀ w, Calls Try.prog 77 #[wv p, wv q] w fun e w' => e = .returned (wv s) ∧ Below w.heap.size w w')
    (HL : ∀ w, Calls Try.prog 74 #[wv s, .int .u64 dd] w fun e w' => e = .returned (.tuple #[rtv r.1, .int .i64 r.2]) ∧ Below w.heap.size w w') (w : World) :
    Calls Try.prog 56 #[.agg #[.int .i64 an, .int .i64 ad], .agg #[.int .i64 bn, .int .i64 bd]] w fun e w' => e = .returned (.tuple #[rtv r.1, .int .i64 r.2]) ∧ Below w.heap.size w w' := by
  simp only [rtv] at *
  have HA := hideR HA
  have HB := hideR HB
  have HP1 := hideR HP1
  have HP2 := hideR HP2
  have HQ := hideR HQ
  have HL := hideR HL
  go_enter Try.func56, Try.ntmps56
  go_wp2_with fail
  go_at_call 43
  refine (HA.out _).mono ?_
  rintro e w1 ⟨rfl, b1⟩
  have S0 : w.heap.size + 1 + 1 < (((w.alloc (.cells #[.int .i64 an, .int .i64 ad] 42)).alloc (.cells #[.int .i64 bn, .int .i64 bd] 42)).alloc (.cells #[.int .i64 0, .int .i64 0] 42)).heap.size ∧ (((w.alloc (.cells #[.int .i64 an, .int .i64 ad] 42)).alloc (.cells #[.int .i64 bn, .int .i64 bd] 42)).alloc (.cells #[.int .i64 0, .int .i64 0] 42)).cell? ⟨w.heap.size, 0, none⟩ = some (.int .i64 an) ∧ (((w.alloc (.cells #[.int .i64 an, .int .i64 ad] 42)).alloc (.cells #[.int .i64 bn, .int .i64 bd] 42)).alloc (.cells #[.int .i64 0, .int .i64 0] 42)).cell? ⟨w.heap.size, 1, none⟩ = some (.int .i64 ad) ∧ (((w.alloc (.cells #[.int .i64 an, .int .i64 ad] 42)).alloc (.cells #[.int .i64 bn, .int .i64 bd] 42)).alloc (.cells #[.int .i64 0, .int .i64 0] 42)).cell? ⟨w.heap.size + 1, 0, none⟩ = some (.int .i64 bn) ∧ (((w.alloc (.cells #[.int .i64 an, .int .i64 ad] 42)).alloc (.cells #[.int .i64 bn, .int .i64 bd] 42)).alloc (.cells #[.int .i64 0, .int .i64 0] 42)).cell? ⟨w.heap.size + 1, 1, none⟩ = some (.int .i64 bd) ∧ (((w.alloc (.cells #[.int .i64 an, .int .i64 ad] 42)).alloc (.cells #[.int .i64 bn, .int .i64 bd] 42)).alloc (.cells #[.int .i64 0, .int .i64 0] 42)).cell? ⟨w.heap.size + 1 + 1, 0, none⟩ = some (.int .i64 0) ∧ (((w.alloc (.cells #[.int .i64 an, .int .i64 ad] 42)).alloc (.cells #[.int .i64 bn, .int .i64 bd] 42)).alloc (.cells #[.int .i64 0, .int .i64 0] 42)).cell? ⟨w.heap.size + 1 + 1, 1, none⟩ = some (.int .i64 0) ∧ (((w.alloc (.cells #[.int .i64 an, .int .i64 ad] 42)).alloc (.cells #[.int .i64 bn, .int .i64 bd] 42)).alloc (.cells #[.int .i64 0, .int .i64 0] 42)).frozen? ⟨w.heap.size + 1 + 1, 0, none⟩ = false ∧ (((w.alloc (.cells #[.int .i64 an, .int .i64 ad] 42)).alloc (.cells #[.int .i64 bn, .int .i64 bd] 42)).alloc (.cells #[.int .i64 0, .int .i64 0] 42)).frozen? ⟨w.heap.size + 1 + 1, 1, none⟩ = false := ⟨by simp, by go_simp, by go_simp, by go_simp, by go_simp, by go_simp, by go_simp, by go_simp, by go_simp⟩
  have S1 := keep8 b1 S0
  have B1 := bup (bel3 w _ _ _) b1
  clear S0 b1
  obtain ⟨z1, d0, d1, d2, d3, d4, d5, d6, d7⟩ := id S1
  go_wp2_with fail
  go_at_call 43
  refine (HB.out _).mono ?_
  rintro e V ⟨rfl, b2⟩
  have SV := keep8 b2 S1
  have BV := bup B1 b2
  clear S1 b2 B1 z1 d0 d1 d2 d3 d4 d5 d6 d7
  go_wp2_with fail
  obtain ⟨z2, c0, c1, c2, c3, c4, c5, c6, c7⟩ := id SV
  clear HA HB SV
  have HD : Hid (IntKind.u64.wrap (IntKind.i64.wrap dd) = dd) := by rw [Hid, IntKind.wrap_i64, IntKind.wrap_u64]; omega
  have SC : V.cell? ⟨w.heap.size, 0, none⟩ = some (.int .i64 an) ∧ V.cell? ⟨w.heap.size, 1, none⟩ = some (.int .i64 ad) ∧ V.cell? ⟨w.heap.size + 1, 0, none⟩ = some (.int .i64 bn) ∧ V.cell? ⟨w.heap.size + 1, 1, none⟩ = some (.int .i64 bd) := ⟨c0, c1, c2, c3⟩
  have zA : w.heap.size < V.heap.size := by omega
  have zB : w.heap.size + 1 < V.heap.size := by omega
  go_region_held3 (fun w' => w'.cell? ⟨w.heap.size, 0, none⟩ = some (.int .i64 an) ∧ w'.cell? ⟨w.heap.size, 1, none⟩ = some (.int .i64 ad) ∧ w'.cell? ⟨w.heap.size + 1, 0, none⟩ = some (.int .i64 bn) ∧ w'.cell? ⟨w.heap.size + 1, 1, none⟩ = some (.int .i64 bd)) (first | assumption | exact keep4s S6 | go_keep)
    (first | (go_at_call_of 66 an; refine (HP1.out _).mono ?_; rintro e w3 ⟨rfl, b3⟩; have S3 := keep4 b3 zA zB SC) | (go_at_call_of 66 bn; refine (HP2.out _).mono ?_; rintro e w4 ⟨rfl, b4⟩; have B4 := bup b3 b4; have S4 := keep4 B4 zA zB SC) | (go_at_call 77; refine (HQ.out _).mono ?_; rintro e w5 ⟨rfl, b5⟩; have B5 := bup B4 b5; have S5 := keep4 B5 zA zB SC) | (go_at_call 74; rw [HD.out]; refine (HL.out _).mono ?_; rintro e w6 ⟨rfl, b6⟩; have B6 := bup B5 b6; have S6 := keep4 B6 zA zB SC; obtain ⟨k0, k1, k2, k3⟩ := two_keep B6 z2 c4 c5 c6 c7))
  all_goals (try go_wp2_with fail)
  all_goals exact bodyPost_ret (v := .tuple #[.agg #[.int .i64 r.1.N, .int .i64 r.1.D], .int .i64 r.2]) (by simp [results, Try.results56, go_sem, k0, k1]) rfl ⟨rfl, ((bup BV.drew B6).setCell (by simp; omega) _).setCell (by simp; omega) _⟩

set_option maxRecDepth 100000 in
set_option maxHeartbeats 300000 in
theorem mul_walk (an ad bn bd s dd : Int) (r : Rt × Int) (h0 : 1 ≤ dd) (h1 : dd ≤ 4611686018427387904) (hm : ad * bd = dd)
    (HA : ∀ w, Calls Try.prog 43 #[.agg #[.int .i64 an, .int .i64 ad]] w fun e w' => e = .returned (.bool true) ∧ Below w.heap.size w w')
    (HB : ∀ w, Calls Try.prog 43 #[.agg #[.int .i64 bn, .int .i64 bd]] w fun e w' => e = .returned (.bool true) ∧ Below w.heap.size w w')
    (HP1 : ∀ w, Calls Try.prog 66 #[.int .i64 an, .int .i64 bn] w fun e w' => e = .returned (wv s) ∧ Below w.heap.size w w')
    (HL : ∀ w, Calls Try.prog 74 #[wv s, .int .u64 dd] w fun e w' => e = .returned (.tuple #[rtv r.1, .int .i64 r.2]) ∧ Below w.heap.size w w') (w : World) :
    Calls Try.prog 47 #[.agg #[.int .i64 an, .int .i64 ad], .agg #[.int .i64 bn, .int .i64 bd]] w fun e w' => e = .returned (.tuple #[rtv r.1, .int .i64 r.2]) ∧ Below w.heap.size w w' := by
  simp only [rtv] at *
  have HA := hideR HA
  have HB := hideR HB
  have HP1 := hideR HP1
  have HL := hideR HL
  go_enter Try.func47, Try.ntmps47
  go_wp2_with fail
  go_at_call 43
  refine (HA.out _).mono ?_
  rintro e w1 ⟨rfl, b1⟩
  have S0 : w.heap.size + 1 + 1 < (((w.alloc (.cells #[.int .i64 an, .int .i64 ad] 42)).alloc (.cells #[.int .i64 bn, .int .i64 bd] 42)).alloc (.cells #[.int .i64 0, .int .i64 0] 42)).heap.size ∧ (((w.alloc (.cells #[.int .i64 an, .int .i64 ad] 42)).alloc (.cells #[.int .i64 bn, .int .i64 bd] 42)).alloc (.cells #[.int .i64 0, .int .i64 0] 42)).cell? ⟨w.heap.size, 0, none⟩ = some (.int .i64 an) ∧ (((w.alloc (.cells #[.int .i64 an, .int .i64 ad] 42)).alloc (.cells #[.int .i64 bn, .int .i64 bd] 42)).alloc (.cells #[.int .i64 0, .int .i64 0] 42)).cell? ⟨w.heap.size, 1, none⟩ = some (.int .i64 ad) ∧ (((w.alloc (.cells #[.int .i64 an, .int .i64 ad] 42)).alloc (.cells #[.int .i64 bn, .int .i64 bd] 42)).alloc (.cells #[.int .i64 0, .int .i64 0] 42)).cell? ⟨w.heap.size + 1, 0, none⟩ = some (.int .i64 bn) ∧ (((w.alloc (.cells #[.int .i64 an, .int .i64 ad] 42)).alloc (.cells #[.int .i64 bn, .int .i64 bd] 42)).alloc (.cells #[.int .i64 0, .int .i64 0] 42)).cell? ⟨w.heap.size + 1, 1, none⟩ = some (.int .i64 bd) ∧ (((w.alloc (.cells #[.int .i64 an, .int .i64 ad] 42)).alloc (.cells #[.int .i64 bn, .int .i64 bd] 42)).alloc (.cells #[.int .i64 0, .int .i64 0] 42)).cell? ⟨w.heap.size + 1 + 1, 0, none⟩ = some (.int .i64 0) ∧ (((w.alloc (.cells #[.int .i64 an, .int .i64 ad] 42)).alloc (.cells #[.int .i64 bn, .int .i64 bd] 42)).alloc (.cells #[.int .i64 0, .int .i64 0] 42)).cell? ⟨w.heap.size + 1 + 1, 1, none⟩ = some (.int .i64 0) ∧ (((w.alloc (.cells #[.int .i64 an, .int .i64 ad] 42)).alloc (.cells #[.int .i64 bn, .int .i64 bd] 42)).alloc (.cells #[.int .i64 0, .int .i64 0] 42)).frozen? ⟨w.heap.size + 1 + 1, 0, none⟩ = false ∧ (((w.alloc (.cells #[.int .i64 an, .int .i64 ad] 42)).alloc (.cells #[.int .i64 bn, .int .i64 bd] 42)).alloc (.cells #[.int .i64 0, .int .i64 0] 42)).frozen? ⟨w.heap.size + 1 + 1, 1, none⟩ = false := ⟨by simp, by go_simp, by go_simp, by go_simp, by go_simp, by go_simp, by go_simp, by go_simp, by go_simp⟩
  have S1 := keep8 b1 S0
  have B1 := bup (bel3 w _ _ _) b1
  clear S0 b1
  obtain ⟨z1, d0, d1, d2, d3, d4, d5, d6, d7⟩ := id S1
  go_wp2_with fail
  go_at_call 43
  refine (HB.out _).mono ?_
  rintro e V ⟨rfl, b2⟩
  have SV := keep8 b2 S1
  have BV := bup B1 b2
  clear S1 b2 B1 z1 d0 d1 d2 d3 d4 d5 d6 d7
  go_wp2_with fail
  obtain ⟨z2, c0, c1, c2, c3, c4, c5, c6, c7⟩ := id SV
  clear HA HB SV
  have HD : Hid (IntKind.u64.wrap (IntKind.i64.wrap dd) = dd) := by rw [Hid, IntKind.wrap_i64, IntKind.wrap_u64]; omega
  have SC : V.cell? ⟨w.heap.size, 0, none⟩ = some (.int .i64 an) ∧ V.cell? ⟨w.heap.size, 1, none⟩ = some (.int .i64 ad) ∧ V.cell? ⟨w.heap.size + 1, 0, none⟩ = some (.int .i64 bn) ∧ V.cell? ⟨w.heap.size + 1, 1, none⟩ = some (.int .i64 bd) := ⟨c0, c1, c2, c3⟩
  have zA : w.heap.size < V.heap.size := by omega
  have zB : w.heap.size + 1 < V.heap.size := by omega
  go_region_held3 (fun w' => w'.cell? ⟨w.heap.size, 0, none⟩ = some (.int .i64 an) ∧ w'.cell? ⟨w.heap.size, 1, none⟩ = some (.int .i64 ad) ∧ w'.cell? ⟨w.heap.size + 1, 0, none⟩ = some (.int .i64 bn) ∧ w'.cell? ⟨w.heap.size + 1, 1, none⟩ = some (.int .i64 bd)) (first | assumption | exact keep4s S6 | go_keep)
    (first | (go_at_call_of 66 an; refine (HP1.out _).mono ?_; rintro e w3 ⟨rfl, b3⟩; have S3 := keep4 b3 zA zB SC) | (go_at_call 74; rw [HD.out]; refine (HL.out _).mono ?_; rintro e w6 ⟨rfl, b6⟩; have B6 := bup b3 b6; have S6 := keep4 B6 zA zB SC; obtain ⟨k0, k1, k2, k3⟩ := two_keep B6 z2 c4 c5 c6 c7))
  all_goals (try go_wp2_with fail)
  all_goals exact bodyPost_ret (v := .tuple #[.agg #[.int .i64 r.1.N, .int .i64 r.1.D], .int .i64 r.2]) (by simp [results, Try.results47, go_sem, k0, k1]) rfl ⟨rfl, ((bup BV.drew B6).setCell (by simp; omega) _).setCell (by simp; omega) _⟩

set_option maxRecDepth 100000 in
set_option maxHeartbeats 300000 in
theorem add_not (an ad bn bd : Int) (ok : Bool)
    (HA : ∀ w, Calls Try.prog 43 #[.agg #[.int .i64 an, .int .i64 ad]] w fun e w' => e = .returned (.bool ok) ∧ Below w.heap.size w w')
    (HB : ok = true → ∀ w, Calls Try.prog 43 #[.agg #[.int .i64 bn, .int .i64 bd]] w fun e w' => e = .returned (.bool false) ∧ Below w.heap.size w w') (w : World) :
    Calls Try.prog 56 #[.agg #[.int .i64 an, .int .i64 ad], .agg #[.int .i64 bn, .int .i64 bd]] w fun e w' => e = .returned (.tuple #[.agg #[.int .i64 0, .int .i64 0], .int .i64 12]) ∧ Below w.heap.size w w' := by
  have HA := hideR HA
  cases ok
  all_goals (
    go_enter Try.func56, Try.ntmps56
    go_wp2_with fail
    go_at_call 43
    refine (HA.out _).mono ?_
    rintro e w1 ⟨rfl, b1⟩
    obtain ⟨hc, hf⟩ := bcell b1
    have z1 := b1.size
    simp at z1)
  · go_wp2_with fail
    exact bodyPost_ret (v := .tuple #[.agg #[.int .i64 0, .int .i64 0], .int .i64 12]) (by simp [results, Try.results56, go_sem, hc]) rfl ⟨rfl, ((bup (bel3 w _ _ _) b1).setCell (by simp; omega) _).setCell (by simp; omega) _⟩
  · have HB := hideR (HB (by trivial))
    go_wp2_with fail
    go_at_call 43
    refine (HB.out _).mono ?_
    rintro e w2 ⟨rfl, b2⟩
    have B2 := bup b1 b2
    clear hc hf b1 b2 z1
    obtain ⟨hc, hf⟩ := bcell B2
    have z1 := B2.size
    simp at z1
    go_wp2_with fail
    exact bodyPost_ret (v := .tuple #[.agg #[.int .i64 0, .int .i64 0], .int .i64 12]) (by simp [results, Try.results56, go_sem, hc]) rfl ⟨rfl, ((bup (bel3 w _ _ _) B2).setCell (by simp; omega) _).setCell (by simp; omega) _⟩

set_option maxRecDepth 100000 in
set_option maxHeartbeats 300000 in
theorem mul_not (an ad bn bd : Int) (ok : Bool)
    (HA : ∀ w, Calls Try.prog 43 #[.agg #[.int .i64 an, .int .i64 ad]] w fun e w' => e = .returned (.bool ok) ∧ Below w.heap.size w w')
    (HB : ok = true → ∀ w, Calls Try.prog 43 #[.agg #[.int .i64 bn, .int .i64 bd]] w fun e w' => e = .returned (.bool false) ∧ Below w.heap.size w w') (w : World) :
    Calls Try.prog 47 #[.agg #[.int .i64 an, .int .i64 ad], .agg #[.int .i64 bn, .int .i64 bd]] w fun e w' => e = .returned (.tuple #[.agg #[.int .i64 0, .int .i64 0], .int .i64 12]) ∧ Below w.heap.size w w' := by
  have HA := hideR HA
  cases ok
  all_goals (
    go_enter Try.func47, Try.ntmps47
    go_wp2_with fail
    go_at_call 43
    refine (HA.out _).mono ?_
    rintro e w1 ⟨rfl, b1⟩
    obtain ⟨hc, hf⟩ := bcell b1
    have z1 := b1.size
    simp at z1)
  · go_wp2_with fail
    exact bodyPost_ret (v := .tuple #[.agg #[.int .i64 0, .int .i64 0], .int .i64 12]) (by simp [results, Try.results47, go_sem, hc]) rfl ⟨rfl, ((bup (bel3 w _ _ _) b1).setCell (by simp; omega) _).setCell (by simp; omega) _⟩
  · have HB := hideR (HB (by trivial))
    go_wp2_with fail
    go_at_call 43
    refine (HB.out _).mono ?_
    rintro e w2 ⟨rfl, b2⟩
    have B2 := bup b1 b2
    clear hc hf b1 b2 z1
    obtain ⟨hc, hf⟩ := bcell B2
    have z1 := B2.size
    simp at z1
    go_wp2_with fail
    exact bodyPost_ret (v := .tuple #[.agg #[.int .i64 0, .int .i64 0], .int .i64 12]) (by simp [results, Try.results47, go_sem, hc]) rfl ⟨rfl, ((bup (bel3 w _ _ _) B2).setCell (by simp; omega) _).setCell (by simp; omega) _⟩

theorem den_bounds {a b : Rt} (ha : rightB a = true) (hb : rightB b = true) : 1 ≤ a.D * b.D ∧ a.D * b.D ≤ 4611686018427387904 := by
  have h1 := (right_iff a).1 ha
  have h2 := (right_iff b).1 hb
  constructor
  · have := Int.mul_le_mul h1.1 h2.1 (by omega) (by omega); omega
  · have := Int.mul_le_mul h1.2.1 h2.2.1 (by omega) (by omega); omega
theorem mul_bounds {x y X Y : Int} (hx : -X ≤ x ∧ x ≤ X) (hy : -Y ≤ y ∧ y ≤ Y) : -(X * Y) ≤ x * y ∧ x * y ≤ X * Y := by
  have h1 : (x * y).natAbs ≤ X.natAbs * Y.natAbs := by rw [Int.natAbs_mul]; exact Nat.mul_le_mul (by omega) (by omega)
  have h2 : ((X.natAbs * Y.natAbs : Nat) : Int) = X * Y := by rw [Int.natCast_mul, show (X.natAbs : Int) = X by omega, show (Y.natAbs : Int) = Y by omega]
  omega
theorem top_bounds {a b : Rt} (ha : rightB a = true) (hb : rightB b = true) : -9903520314283042199192993792 ≤ a.N * b.D ∧ a.N * b.D ≤ 9903520314283042199192993792 := by
  have h1 := (right_iff a).1 ha
  have h2 := (right_iff b).1 hb
  have := mul_bounds (x := a.N) (y := b.D) (X := 4611686018427387904) (Y := 2147483648) ⟨by omega, by omega⟩ ⟨by omega, by omega⟩
  omega
theorem nums_bounds {a b : Rt} (ha : rightB a = true) (hb : rightB b = true) : -21267647932558653966460912964485513216 ≤ a.N * b.N ∧ a.N * b.N ≤ 21267647932558653966460912964485513216 := by
  have h1 := (right_iff a).1 ha
  have h2 := (right_iff b).1 hb
  have := mul_bounds (x := a.N) (y := b.N) (X := 4611686018427387904) (Y := 4611686018427387904) ⟨by omega, by omega⟩ ⟨by omega, by omega⟩
  omega

theorem add_any (a b : Rt) (ha : RtIn a) (hb : RtIn b) (w : World) :
    Calls Try.prog 56 #[rtv a, rtv b] w fun e w' => e = .returned (.tuple #[rtv (addA a b).1, .int .i64 (addA a b).2]) ∧ Below w.heap.size w w' := by
  have HA := right_any a ha
  have HB := right_any b hb
  cases h1 : rightB a
  · rw [show addA a b = (⟨0, 0⟩, 12) by unfold addA; rw [if_neg (by simp [h1])]; rfl]
    rw [h1] at HA
    exact add_not a.N a.D b.N b.D false HA (fun h => by cases h) w
  · rw [h1] at HA
    cases h2 : rightB b
    · rw [show addA a b = (⟨0, 0⟩, 12) by unfold addA; rw [if_neg (by simp [h2])]; rfl]
      rw [h2] at HB
      exact add_not a.N a.D b.N b.D true HA (fun _ => HB) w
    · rw [h2] at HB
      have hd := den_bounds h1 h2
      have t1 := top_bounds h1 h2
      have t2 := top_bounds h2 h1
      rw [addA_right h1 h2, val_add a b h1 h2]
      exact add_walk a.N a.D b.N b.D _ _ (a.N * b.D + b.N * a.D) _ _ hd.1 hd.2 rfl HA HB (product_any _ _ ha.1 hb.2) (product_any _ _ hb.1 ha.2) (plus_any _ _) (lowest_any _ _ (by unfold In128; omega) (by omega) (by omega)) w
theorem mul_any (a b : Rt) (ha : RtIn a) (hb : RtIn b) (w : World) :
    Calls Try.prog 47 #[rtv a, rtv b] w fun e w' => e = .returned (.tuple #[rtv (mulA a b).1, .int .i64 (mulA a b).2]) ∧ Below w.heap.size w w' := by
  have HA := right_any a ha
  have HB := right_any b hb
  cases h1 : rightB a
  · rw [show mulA a b = (⟨0, 0⟩, 12) by unfold mulA; rw [if_neg (by simp [h1])]; rfl]
    rw [h1] at HA
    exact mul_not a.N a.D b.N b.D false HA (fun h => by cases h) w
  · rw [h1] at HA
    cases h2 : rightB b
    · rw [show mulA a b = (⟨0, 0⟩, 12) by unfold mulA; rw [if_neg (by simp [h2])]; rfl]
      rw [h2] at HB
      exact mul_not a.N a.D b.N b.D true HA (fun _ => HB) w
    · rw [h2] at HB
      have hd := den_bounds h1 h2
      have t1 := nums_bounds h1 h2
      rw [mulA_right h1 h2, val_mul a b]
      exact mul_walk a.N a.D b.N b.D (a.N * b.N) _ _ hd.1 hd.2 rfl HA HB (product_any _ _ ha.1 hb.1) (lowest_any _ _ (by unfold In128; omega) (by omega) (by omega)) w
end Go.Proofs.Ytipnefaggpigfaa
