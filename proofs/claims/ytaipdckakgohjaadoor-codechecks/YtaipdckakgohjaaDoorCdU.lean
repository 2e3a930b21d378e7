/- Package code, surtitleref5: RateText; surtitleref5.Grid. -/
import Derived.Test.YtaipdckakgohjaaDoorCdT
import Derived.Test.YtaipdckakgohjaaDoorCRefA
import Derived.Test.YtaipdckakgohjaaDoorCRefD
namespace Go.Proofs.YtaipdckakgohjaaDoor
open Go.RowKit Go.Shelf
attribute [local go_sem] Oper.semAt_some bs_toList

set_option maxRecDepth 100000 in
set_option maxHeartbeats 1000000 in
theorem rt_bad (n d c : Int) (dr : Bool) (hc : (c == 0) = false) (w : World)
    (HC : ∀ w, Calls Tryd.prog 16 #[.agg #[.int .i64 n, .int .i64 d, .bool dr]] w fun e w' => e = .returned (.int .i64 c) ∧ Below w.heap.size w w') :
    Calls Tryd.prog 18 #[.agg #[.int .i64 n, .int .i64 d, .bool dr]] w fun e w' => e = .returned (.tuple #[.string ⟨#[]⟩, .int .i64 c]) ∧ Below w.heap.size w w' := by
  have HC := hideR HC
  go_enter Tryd.func18, Tryd.ntmps18
  go_wp2_with fail
  go_at_call 16
  refine (HC.out _).mono ?_
  rintro e w1 ⟨rfl, b1⟩
  have A1 := ((RateAt.new w n d dr).keep b1)
  have B1 := bup (bel1 w _) b1
  clear b1
  obtain ⟨_, a0, a1, a2⟩ := id A1
  go_wp2_with fail
  exact bodyPost_ret (v := .tuple #[.string ⟨#[]⟩, .int .i64 c]) (by simp [results, Tryd.results18, go_sem]) rfl ⟨rfl, by first | exact B1 | exact (B1.setCell (by simp) _).setCell (by simp) _⟩
set_option maxRecDepth 100000 in
set_option maxHeartbeats 1000000 in
theorem rt_onef (n : Int) (a : List UInt8) (w : World)
    (HC : ∀ w, Calls Tryd.prog 16 #[.agg #[.int .i64 n, .int .i64 1, .bool false]] w fun e w' => e = .returned (.int .i64 0) ∧ Below w.heap.size w w')
    (H1 : ∀ w0, Below w.heap.size w w0 → Calls Tryd.prog 40 #[.int .i64 n] w0 fun e w' => e = .returned (.string (bs a)) ∧ Below w0.heap.size w0 w') :
    Calls Tryd.prog 18 #[.agg #[.int .i64 n, .int .i64 1, .bool false]] w fun e w' => e = .returned (.tuple #[.string (bs a), .int .i64 0]) ∧ Below w.heap.size w w' := by
  have HC := hideR HC
  have H1 := hideR H1
  go_enter Tryd.func18, Tryd.ntmps18
  go_wp2_with fail
  go_at_call 16
  refine (HC.out _).mono ?_
  rintro e w1 ⟨rfl, b1⟩
  have A1 := ((RateAt.new w n 1 false).keep b1)
  have B1 := bup (bel1 w _) b1
  clear b1
  obtain ⟨_, a0, a1, a2⟩ := id A1
  go_wp2_with fail
  go_at_call 40
  refine (H1.out _ B1).mono ?_
  rintro e w2 ⟨rfl, b2⟩
  have A2 := (A1.keep b2)
  have B2 := bup B1 b2
  clear A1 B1 a0 a1 a2
  clear b2
  obtain ⟨_, a0, a1, a2⟩ := id A2
  go_wp2_with fail
  skip
  all_goals (go_ret2; exact ⟨rfl, B2⟩)
set_option maxRecDepth 100000 in
set_option maxHeartbeats 1000000 in
theorem rt_twof (n d : Int) (a : List UInt8) (la : a.length ≤ 100) (b : List UInt8) (lb : b.length ≤ 100) (hd2 : (d != 1) = true) (w : World)
    (HC : ∀ w, Calls Tryd.prog 16 #[.agg #[.int .i64 n, .int .i64 d, .bool false]] w fun e w' => e = .returned (.int .i64 0) ∧ Below w.heap.size w w')
    (H1 : ∀ w0, Below w.heap.size w w0 → Calls Tryd.prog 40 #[.int .i64 n] w0 fun e w' => e = .returned (.string (bs a)) ∧ Below w0.heap.size w0 w')
    (H2 : ∀ w0, Below w.heap.size w w0 → Calls Tryd.prog 40 #[.int .i64 d] w0 fun e w' => e = .returned (.string (bs b)) ∧ Below w0.heap.size w0 w') :
    Calls Tryd.prog 18 #[.agg #[.int .i64 n, .int .i64 d, .bool false]] w fun e w' => e = .returned (.tuple #[.string (bs (a ++ [47] ++ b)), .int .i64 0]) ∧ Below w.heap.size w w' := by
  have HC := hideR HC
  have H1 := hideR H1
  have H2 := hideR H2
  have ad1 : ∀ w, (Op.stringOp .add ⟨#[47]⟩ (bs b)).run Tryd.prog w = .ok (.string (bs ([47] ++ b))) w := fun w => by
    have := run_string_add_sum (P := Tryd.prog) w (bs [47]) (bs b) (by rw [bs_size, bs_size]; simp; omega)
    rw [bs_append] at this
    exact this
  have ad2 : ∀ w, (Op.stringOp .add (bs a) (bs ([47] ++ b))).run Tryd.prog w = .ok (.string (bs (a ++ ([47] ++ b)))) w := fun w => by
    have := run_string_add_sum (P := Tryd.prog) w (bs a) (bs ([47] ++ b)) (by rw [bs_size, bs_size]; simp; omega)
    rw [bs_append] at this
    exact this
  rw [← List.append_assoc] at ad2
  generalize bs (a ++ [47] ++ b) = y2 at *
  generalize bs ([47] ++ b) = y1 at *
  go_enter Tryd.func18, Tryd.ntmps18
  go_wp2_with fail
  go_at_call 16
  refine (HC.out _).mono ?_
  rintro e w1 ⟨rfl, b1⟩
  have A1 := ((RateAt.new w n d false).keep b1)
  have B1 := bup (bel1 w _) b1
  clear b1
  obtain ⟨_, a0, a1, a2⟩ := id A1
  go_wp2_with fail
  go_at_call 40
  refine (H1.out _ B1).mono ?_
  rintro e w2 ⟨rfl, b2⟩
  have A2 := (A1.keep b2)
  have B2 := bup B1 b2
  clear A1 B1 a0 a1 a2
  clear b2
  obtain ⟨_, a0, a1, a2⟩ := id A2
  go_wp2_with fail
  first
  | (go_at_call 40; refine (H2.out _ B2).mono ?_; rintro e w3 ⟨rfl, b3⟩; have A3 := A2.keep b3; have B3 := bup B2 b3; clear a0 a1 a2; obtain ⟨_, a0, a1, a2⟩ := id A3; go_wp2_with fail)
  | (have S2 := And.intro A2.2.1 (And.intro A2.2.2.1 A2.2.2.2); go_region_held3 (fun w' => w'.cell? ⟨w.heap.size, 0, none⟩ = some (.int .i64 n) ∧ w'.cell? ⟨w.heap.size, 1, none⟩ = some (.int .i64 d) ∧ w'.cell? ⟨w.heap.size, 2, none⟩ = some (.bool false)) (first | assumption | go_keep) (first | (go_at_call 40; refine (H2.out _ B2.drew).mono ?_; rintro e w3 ⟨rfl, b3⟩; have A3 := A2.drew.keep b3; have B3 := bup B2.drew b3; have S3 := And.intro A3.2.1 (And.intro A3.2.2.1 A3.2.2.2))); all_goals (clear a0 a1 a2; obtain ⟨_, a0, a1, a2⟩ := id A3; try go_wp2_with fail))
  skip
  all_goals (go_ret2; exact ⟨rfl, B3⟩)
set_option maxRecDepth 100000 in
set_option maxHeartbeats 1000000 in
theorem rt_twot (n d : Int) (a : List UInt8) (la : a.length ≤ 100) (b : List UInt8) (lb : b.length ≤ 100) (hd2 : (d != 1) = true) (w : World)
    (HC : ∀ w, Calls Tryd.prog 16 #[.agg #[.int .i64 n, .int .i64 d, .bool true]] w fun e w' => e = .returned (.int .i64 0) ∧ Below w.heap.size w w')
    (H1 : ∀ w0, Below w.heap.size w w0 → Calls Tryd.prog 40 #[.int .i64 n] w0 fun e w' => e = .returned (.string (bs a)) ∧ Below w0.heap.size w0 w')
    (H2 : ∀ w0, Below w.heap.size w w0 → Calls Tryd.prog 40 #[.int .i64 d] w0 fun e w' => e = .returned (.string (bs b)) ∧ Below w0.heap.size w0 w') :
    Calls Tryd.prog 18 #[.agg #[.int .i64 n, .int .i64 d, .bool true]] w fun e w' => e = .returned (.tuple #[.string (bs ((a ++ [47] ++ b) ++ [100])), .int .i64 0]) ∧ Below w.heap.size w w' := by
  have HC := hideR HC
  have H1 := hideR H1
  have H2 := hideR H2
  have ad1 : ∀ w, (Op.stringOp .add ⟨#[47]⟩ (bs b)).run Tryd.prog w = .ok (.string (bs ([47] ++ b))) w := fun w => by
    have := run_string_add_sum (P := Tryd.prog) w (bs [47]) (bs b) (by rw [bs_size, bs_size]; simp; omega)
    rw [bs_append] at this
    exact this
  have ad2 : ∀ w, (Op.stringOp .add (bs a) (bs ([47] ++ b))).run Tryd.prog w = .ok (.string (bs (a ++ ([47] ++ b)))) w := fun w => by
    have := run_string_add_sum (P := Tryd.prog) w (bs a) (bs ([47] ++ b)) (by rw [bs_size, bs_size]; simp; omega)
    rw [bs_append] at this
    exact this
  rw [← List.append_assoc] at ad2
  have ad3 : ∀ w, (Op.stringOp .add (bs (a ++ [47] ++ b)) ⟨#[100]⟩).run Tryd.prog w = .ok (.string (bs (a ++ [47] ++ b ++ [100]))) w := fun w => by
    have := run_string_add_sum (P := Tryd.prog) w (bs (a ++ [47] ++ b)) (bs [100]) (by rw [bs_size, bs_size]; simp; omega)
    rw [bs_append] at this
    exact this
  generalize bs (a ++ [47] ++ b ++ [100]) = y3 at *
  generalize bs (a ++ [47] ++ b) = y2 at *
  generalize bs ([47] ++ b) = y1 at *
  go_enter Tryd.func18, Tryd.ntmps18
  go_wp2_with fail
  go_at_call 16
  refine (HC.out _).mono ?_
  rintro e w1 ⟨rfl, b1⟩
  have A1 := ((RateAt.new w n d true).keep b1)
  have B1 := bup (bel1 w _) b1
  clear b1
  obtain ⟨_, a0, a1, a2⟩ := id A1
  go_wp2_with fail
  go_at_call 40
  refine (H1.out _ B1).mono ?_
  rintro e w2 ⟨rfl, b2⟩
  have A2 := (A1.keep b2)
  have B2 := bup B1 b2
  clear A1 B1 a0 a1 a2
  clear b2
  obtain ⟨_, a0, a1, a2⟩ := id A2
  go_wp2_with fail
  first
  | (go_at_call 40; refine (H2.out _ B2).mono ?_; rintro e w3 ⟨rfl, b3⟩; have A3 := A2.keep b3; have B3 := bup B2 b3; clear a0 a1 a2; obtain ⟨_, a0, a1, a2⟩ := id A3; go_wp2_with fail)
  | (have S2 := And.intro A2.2.1 (And.intro A2.2.2.1 A2.2.2.2); go_region_held3 (fun w' => w'.cell? ⟨w.heap.size, 0, none⟩ = some (.int .i64 n) ∧ w'.cell? ⟨w.heap.size, 1, none⟩ = some (.int .i64 d) ∧ w'.cell? ⟨w.heap.size, 2, none⟩ = some (.bool true)) (first | assumption | go_keep) (first | (go_at_call 40; refine (H2.out _ B2.drew).mono ?_; rintro e w3 ⟨rfl, b3⟩; have A3 := A2.drew.keep b3; have B3 := bup B2.drew b3; have S3 := And.intro A3.2.1 (And.intro A3.2.2.1 A3.2.2.2))); all_goals (clear a0 a1 a2; obtain ⟨_, a0, a1, a2⟩ := id A3; try go_wp2_with fail))
  skip
  all_goals (go_ret2; exact ⟨rfl, B3⟩)
set_option maxRecDepth 100000 in
set_option maxHeartbeats 1000000 in
theorem rrt_onef (n : Int) (a : List UInt8) (w : World)
    (HC : ∀ w, Calls Tryd.prog 21 #[.agg #[.int .i64 n, .int .i64 1, .bool false]] w fun e w' => e = .returned (.int .i64 0) ∧ Below w.heap.size w w')
    (H1 : ∀ w, Calls Tryd.prog 41 #[.int .i64 n, .int .i64 1] w fun e w' => e = .returned (.string (bs a)) ∧ Below w.heap.size w w') :
    Calls Tryd.prog 20 #[.agg #[.int .i64 n, .int .i64 1, .bool false]] w fun e w' => e = .returned (.tuple #[.string (bs a), .int .i64 0]) ∧ Below w.heap.size w w' := by
  have HC := hideR HC
  have H1 := hideR H1
  go_enter Tryd.func20, Tryd.ntmps20
  go_wp2_with fail
  go_at_call 21
  refine (HC.out _).mono ?_
  rintro e w1 ⟨rfl, b1⟩
  have A1 := ((RateAt.new w n 1 false).keep b1)
  have B1 := bup (bel1 w _) b1
  clear b1
  obtain ⟨_, a0, a1, a2⟩ := id A1
  go_wp2_with fail
  go_at_call 41
  refine (H1.out _).mono ?_
  rintro e w2 ⟨rfl, b2⟩
  have A2 := (A1.keep b2)
  have B2 := bup B1 b2
  clear A1 B1 a0 a1 a2
  clear b2
  obtain ⟨_, a0, a1, a2⟩ := id A2
  go_wp2_with fail
  skip
  all_goals (go_ret2; exact ⟨rfl, B2⟩)
set_option maxRecDepth 100000 in
set_option maxHeartbeats 1000000 in
theorem rrt_twof (n d : Int) (a : List UInt8) (la : a.length ≤ 100) (b : List UInt8) (lb : b.length ≤ 100) (hd2 : (d != 1) = true) (w : World)
    (HC : ∀ w, Calls Tryd.prog 21 #[.agg #[.int .i64 n, .int .i64 d, .bool false]] w fun e w' => e = .returned (.int .i64 0) ∧ Below w.heap.size w w')
    (H1 : ∀ w, Calls Tryd.prog 41 #[.int .i64 n, .int .i64 1] w fun e w' => e = .returned (.string (bs a)) ∧ Below w.heap.size w w')
    (H2 : ∀ w, Calls Tryd.prog 41 #[.int .i64 d, .int .i64 1] w fun e w' => e = .returned (.string (bs b)) ∧ Below w.heap.size w w') :
    Calls Tryd.prog 20 #[.agg #[.int .i64 n, .int .i64 d, .bool false]] w fun e w' => e = .returned (.tuple #[.string (bs (a ++ [47] ++ b)), .int .i64 0]) ∧ Below w.heap.size w w' := by
  have HC := hideR HC
  have H1 := hideR H1
  have H2 := hideR H2
  have ad1 : ∀ w, (Op.stringOp .add (bs a) ⟨#[47]⟩).run Tryd.prog w = .ok (.string (bs (a ++ [47]))) w := fun w => by
    have := run_string_add_sum (P := Tryd.prog) w (bs a) (bs [47]) (by rw [bs_size, bs_size]; simp; omega)
    rw [bs_append] at this
    exact this
  have ad2 : ∀ w, (Op.stringOp .add (bs (a ++ [47])) (bs b)).run Tryd.prog w = .ok (.string (bs (a ++ [47] ++ b))) w := fun w => by
    have := run_string_add_sum (P := Tryd.prog) w (bs (a ++ [47])) (bs b) (by rw [bs_size, bs_size]; simp; omega)
    rw [bs_append] at this
    exact this
  generalize bs (a ++ [47] ++ b) = y2 at *
  generalize bs (a ++ [47]) = y1 at *
  go_enter Tryd.func20, Tryd.ntmps20
  go_wp2_with fail
  go_at_call 21
  refine (HC.out _).mono ?_
  rintro e w1 ⟨rfl, b1⟩
  have A1 := ((RateAt.new w n d false).keep b1)
  have B1 := bup (bel1 w _) b1
  clear b1
  obtain ⟨_, a0, a1, a2⟩ := id A1
  go_wp2_with fail
  go_at_call 41
  refine (H1.out _).mono ?_
  rintro e w2 ⟨rfl, b2⟩
  have A2 := (A1.keep b2)
  have B2 := bup B1 b2
  clear A1 B1 a0 a1 a2
  clear b2
  obtain ⟨_, a0, a1, a2⟩ := id A2
  go_wp2_with fail
  first
  | (go_at_call 41; refine (H2.out _).mono ?_; rintro e w3 ⟨rfl, b3⟩; have A3 := A2.keep b3; have B3 := bup B2 b3; clear a0 a1 a2; obtain ⟨_, a0, a1, a2⟩ := id A3; go_wp2_with fail)
  | (have S2 := And.intro A2.2.1 (And.intro A2.2.2.1 A2.2.2.2); go_region_held3 (fun w' => w'.cell? ⟨w.heap.size, 0, none⟩ = some (.int .i64 n) ∧ w'.cell? ⟨w.heap.size, 1, none⟩ = some (.int .i64 d) ∧ w'.cell? ⟨w.heap.size, 2, none⟩ = some (.bool false)) (first | assumption | go_keep) (first | (go_at_call 41; refine (H2.out _).mono ?_; rintro e w3 ⟨rfl, b3⟩; have A3 := A2.drew.keep b3; have B3 := bup B2.drew b3; have S3 := And.intro A3.2.1 (And.intro A3.2.2.1 A3.2.2.2))); all_goals (clear a0 a1 a2; obtain ⟨_, a0, a1, a2⟩ := id A3; try go_wp2_with fail))
  skip
  all_goals (go_ret2; exact ⟨rfl, B3⟩)
set_option maxRecDepth 100000 in
set_option maxHeartbeats 1000000 in
theorem rrt_twot (n d : Int) (a : List UInt8) (la : a.length ≤ 100) (b : List UInt8) (lb : b.length ≤ 100) (hd2 : (d != 1) = true) (w : World)
    (HC : ∀ w, Calls Tryd.prog 21 #[.agg #[.int .i64 n, .int .i64 d, .bool true]] w fun e w' => e = .returned (.int .i64 0) ∧ Below w.heap.size w w')
    (H1 : ∀ w, Calls Tryd.prog 41 #[.int .i64 n, .int .i64 1] w fun e w' => e = .returned (.string (bs a)) ∧ Below w.heap.size w w')
    (H2 : ∀ w, Calls Tryd.prog 41 #[.int .i64 d, .int .i64 1] w fun e w' => e = .returned (.string (bs b)) ∧ Below w.heap.size w w') :
    Calls Tryd.prog 20 #[.agg #[.int .i64 n, .int .i64 d, .bool true]] w fun e w' => e = .returned (.tuple #[.string (bs ((a ++ [47] ++ b) ++ [100])), .int .i64 0]) ∧ Below w.heap.size w w' := by
  have HC := hideR HC
  have H1 := hideR H1
  have H2 := hideR H2
  have ad1 : ∀ w, (Op.stringOp .add (bs a) ⟨#[47]⟩).run Tryd.prog w = .ok (.string (bs (a ++ [47]))) w := fun w => by
    have := run_string_add_sum (P := Tryd.prog) w (bs a) (bs [47]) (by rw [bs_size, bs_size]; simp; omega)
    rw [bs_append] at this
    exact this
  have ad2 : ∀ w, (Op.stringOp .add (bs (a ++ [47])) (bs b)).run Tryd.prog w = .ok (.string (bs (a ++ [47] ++ b))) w := fun w => by
    have := run_string_add_sum (P := Tryd.prog) w (bs (a ++ [47])) (bs b) (by rw [bs_size, bs_size]; simp; omega)
    rw [bs_append] at this
    exact this
  have ad3 : ∀ w, (Op.stringOp .add (bs (a ++ [47] ++ b)) ⟨#[100]⟩).run Tryd.prog w = .ok (.string (bs (a ++ [47] ++ b ++ [100]))) w := fun w => by
    have := run_string_add_sum (P := Tryd.prog) w (bs (a ++ [47] ++ b)) (bs [100]) (by rw [bs_size, bs_size]; simp; omega)
    rw [bs_append] at this
    exact this
  generalize bs (a ++ [47] ++ b ++ [100]) = y3 at *
  generalize bs (a ++ [47] ++ b) = y2 at *
  generalize bs (a ++ [47]) = y1 at *
  go_enter Tryd.func20, Tryd.ntmps20
  go_wp2_with fail
  go_at_call 21
  refine (HC.out _).mono ?_
  rintro e w1 ⟨rfl, b1⟩
  have A1 := ((RateAt.new w n d true).keep b1)
  have B1 := bup (bel1 w _) b1
  clear b1
  obtain ⟨_, a0, a1, a2⟩ := id A1
  go_wp2_with fail
  go_at_call 41
  refine (H1.out _).mono ?_
  rintro e w2 ⟨rfl, b2⟩
  have A2 := (A1.keep b2)
  have B2 := bup B1 b2
  clear A1 B1 a0 a1 a2
  clear b2
  obtain ⟨_, a0, a1, a2⟩ := id A2
  go_wp2_with fail
  first
  | (go_at_call 41; refine (H2.out _).mono ?_; rintro e w3 ⟨rfl, b3⟩; have A3 := A2.keep b3; have B3 := bup B2 b3; clear a0 a1 a2; obtain ⟨_, a0, a1, a2⟩ := id A3; go_wp2_with fail)
  | (have S2 := And.intro A2.2.1 (And.intro A2.2.2.1 A2.2.2.2); go_region_held3 (fun w' => w'.cell? ⟨w.heap.size, 0, none⟩ = some (.int .i64 n) ∧ w'.cell? ⟨w.heap.size, 1, none⟩ = some (.int .i64 d) ∧ w'.cell? ⟨w.heap.size, 2, none⟩ = some (.bool true)) (first | assumption | go_keep) (first | (go_at_call 41; refine (H2.out _).mono ?_; rintro e w3 ⟨rfl, b3⟩; have A3 := A2.drew.keep b3; have B3 := bup B2.drew b3; have S3 := And.intro A3.2.1 (And.intro A3.2.2.1 A3.2.2.2))); all_goals (clear a0 a1 a2; obtain ⟨_, a0, a1, a2⟩ := id A3; try go_wp2_with fail))
  skip
  all_goals (go_ret2; exact ⟨rfl, B3⟩)
set_option maxRecDepth 100000 in
set_option maxHeartbeats 1000000 in
theorem rrt_bad (n d c : Int) (dr : Bool) (hc : (c == 0) = false) (w : World)
    (HC : ∀ w, Calls Tryd.prog 21 #[.agg #[.int .i64 n, .int .i64 d, .bool dr]] w fun e w' => e = .returned (.int .i64 c) ∧ Below w.heap.size w w') :
    Calls Tryd.prog 20 #[.agg #[.int .i64 n, .int .i64 d, .bool dr]] w fun e w' => e = .returned (.tuple #[.string ⟨#[]⟩, .int .i64 14]) ∧ Below w.heap.size w w' := by
  have HC := hideR HC
  go_enter Tryd.func20, Tryd.ntmps20
  go_wp2_with fail
  go_at_call 21
  refine (HC.out _).mono ?_
  rintro e w1 ⟨rfl, b1⟩
  have A1 := ((RateAt.new w n d dr).keep b1)
  have B1 := bup (bel1 w _) b1
  clear b1
  obtain ⟨_, a0, a1, a2⟩ := id A1
  go_wp2_with fail
  exact bodyPost_ret (v := .tuple #[.string ⟨#[]⟩, .int .i64 14]) (by simp [results, Tryd.results20, go_sem]) rfl ⟨rfl, by first | exact B1 | exact (B1.setCell (by simp) _).setCell (by simp) _⟩
set_option maxRecDepth 100000 in
set_option maxHeartbeats 1000000 in
theorem rgr_bad (n d c : Int) (dr : Bool) (hc : (c == 0) = false) (w : World)
    (HC : ∀ w, Calls Tryd.prog 21 #[.agg #[.int .i64 n, .int .i64 d, .bool dr]] w fun e w' => e = .returned (.int .i64 c) ∧ Below w.heap.size w w') :
    Calls Tryd.prog 19 #[.agg #[.int .i64 n, .int .i64 d, .bool dr]] w fun e w' => e = .returned (.tuple #[.agg #[.int .i64 0, .int .i64 0], .int .i64 14]) ∧ Below w.heap.size w w' := by
  have HC := hideR HC
  go_enter Tryd.func19, Tryd.ntmps19
  go_wp2_with fail
  go_at_call 21
  refine (HC.out _).mono ?_
  rintro e w1 ⟨rfl, b1⟩
  have A1 := (((RateAt.new w n d dr).alloc (.cells #[.int .i64 0, .int .i64 0] 28)).keep b1)
  have T1 := (((Two.new (w.alloc (.cells #[.int .i64 n, .int .i64 d, .bool dr] 24)) (.int .i64 0) (.int .i64 0) 28).keep b1).at (R2 := w.heap.size + 1) (by simp))
  have B1 := bup (bel2 w _ _) b1
  clear b1
  obtain ⟨_, a0, a1, a2⟩ := id A1
  obtain ⟨_, t0, t1, t2, t3⟩ := id T1
  go_wp2_with fail
  exact bodyPost_ret (v := .tuple #[.agg #[.int .i64 0, .int .i64 0], .int .i64 14]) (by simp [results, Tryd.results19, go_sem, t0, t1]) rfl ⟨rfl, by first | exact B1 | exact (B1.setCell (by simp) _).setCell (by simp) _⟩
set_option maxRecDepth 100000 in
set_option maxHeartbeats 1000000 in
theorem rgr_ok (n d : Int) (dr : Bool) (w : World)
    (HC : ∀ w, Calls Tryd.prog 21 #[.agg #[.int .i64 n, .int .i64 d, .bool dr]] w fun e w' => e = .returned (.int .i64 0) ∧ Below w.heap.size w w') :
    Calls Tryd.prog 19 #[.agg #[.int .i64 n, .int .i64 d, .bool dr]] w fun e w' => e = .returned (.tuple #[.agg #[.int .i64 d, .int .i64 n], .int .i64 0]) ∧ Below w.heap.size w w' := by
  have HC := hideR HC
  go_enter Tryd.func19, Tryd.ntmps19
  go_wp2_with fail
  go_at_call 21
  refine (HC.out _).mono ?_
  rintro e w1 ⟨rfl, b1⟩
  have A1 := (((RateAt.new w n d dr).alloc (.cells #[.int .i64 0, .int .i64 0] 28)).keep b1)
  have T1 := (((Two.new (w.alloc (.cells #[.int .i64 n, .int .i64 d, .bool dr] 24)) (.int .i64 0) (.int .i64 0) 28).keep b1).at (R2 := w.heap.size + 1) (by simp))
  have B1 := bup (bel2 w _ _) b1
  clear b1
  obtain ⟨_, a0, a1, a2⟩ := id A1
  obtain ⟨_, t0, t1, t2, t3⟩ := id T1
  go_wp2_with fail
  exact bodyPost_ret (v := .tuple #[.agg #[.int .i64 d, .int .i64 n], .int .i64 0]) (by simp [results, Tryd.results19, go_sem, t0, t1]) rfl ⟨rfl, by first | exact B1 | exact (B1.setCell (by simp) _).setCell (by simp) _⟩
end Go.Proofs.YtaipdckakgohjaaDoor
