/- surtitleref5: grid, Clock. -/
import Derived.Test.YtaipdckakgohjaaDoorCRefB
import Derived.Test.YtaipdckakgohjaaDoorCRefD
namespace Go.Proofs.YtaipdckakgohjaaDoor
open Go.RowKit Go.Shelf
attribute [local go_sem] Oper.semAt_some bs_toList

def gridG (fm : Int) : Int := if fm = 1 ∨ fm = 2 then 1000 else if fm = 4 then 100 else 0
set_option maxRecDepth 100000 in
theorem rgrid_any (fm : Int) (w : World) :
    Calls Tryd.prog 65 #[.int .i64 fm] w fun e w' => e = .returned (.int .i64 (gridG fm)) ∧ w' = w := by
  unfold gridG
  by_cases h1 : fm = 1
  · subst h1
    rw [if_pos (.inl rfl)]
    go_enter Tryd.func65, Tryd.ntmps65
    go_wp2_with fail
    go_ret
    exact ⟨rfl, rfl⟩
  · by_cases h2 : fm = 2
    · subst h2
      rw [if_pos (.inr rfl)]
      go_enter Tryd.func65, Tryd.ntmps65
      go_wp2_with fail
      go_ret
      exact ⟨rfl, rfl⟩
    · rw [if_neg (by omega)]
      by_cases h4 : fm = 4
      · subst h4
        rw [if_pos rfl]
        go_enter Tryd.func65, Tryd.ntmps65
        go_wp2_with fail
        go_ret
        exact ⟨rfl, rfl⟩
      · rw [if_neg h4]
        have x1 : (fm == 1) = false := by simpa using h1
        have x2 : (fm == 2) = false := by simpa using h2
        have x4 : (fm == 4) = false := by simpa using h4
        go_enter Tryd.func65, Tryd.ntmps65
        go_wp2_with fail
        go_ret
        exact ⟨rfl, rfl⟩
theorem rgridB (fm : Int) (w : World) :
    Calls Tryd.prog 65 #[.int .i64 fm] w fun e w' => e = .returned (.int .i64 (gridG fm)) ∧ Below w.heap.size w w' :=
  (rgrid_any fm w).mono fun _ _ ⟨he, hw⟩ => ⟨he, hw ▸ Below.refl _ _⟩
set_option maxRecDepth 100000 in
set_option maxHeartbeats 2000000 in
theorem rclock_kind (fm N D : Int) (w : World)
    (HG : ∀ w, Calls Tryd.prog 65 #[.int .i64 fm] w fun e w' => e = .returned (.int .i64 0) ∧ Below w.heap.size w w') :
    Calls Tryd.prog 31 #[.int .i64 fm, .agg #[.int .i64 N, .int .i64 D]] w fun e w' => e = .returned (.tuple #[.string ⟨#[]⟩, .int .i64 5]) ∧ Below w.heap.size w w' := by
  have HG := hideR HG
  go_enter Tryd.func31, Tryd.ntmps31
  go_wp2_with fail
  go_at_call 65
  refine (HG.out _).mono ?_
  rintro e w1 ⟨rfl, b1⟩
  have X1 := ((Two.new w (.int .i64 N) (.int .i64 D) 28).keep b1)
  have B1 := bup (bel1 w _) b1
  clear b1
  obtain ⟨_, x0, x1, x2, x3⟩ := id X1
  go_wp2_with fail
  exact bodyPost_ret (v := .tuple #[.string ⟨#[]⟩, .int .i64 5]) (by simp [results, Tryd.results31, go_sem]) rfl ⟨rfl, by first | exact B1 | exact (B1.setCell (by simp) _).setCell (by simp) _⟩
set_option maxRecDepth 100000 in
set_option maxHeartbeats 2000000 in
theorem rclock_out (fm N D g te : Int) (hg : (g == 0) = false) (ht : (te == 0) = false) (w : World)
    (HG : ∀ w, Calls Tryd.prog 65 #[.int .i64 fm] w fun e w' => e = .returned (.int .i64 g) ∧ Below w.heap.size w w')
    (HT : ∀ w, Calls Tryd.prog 56 #[.agg #[.int .i64 N, .int .i64 D]] w fun e w' => e = .returned (.int .i64 te) ∧ Below w.heap.size w w') :
    Calls Tryd.prog 31 #[.int .i64 fm, .agg #[.int .i64 N, .int .i64 D]] w fun e w' => e = .returned (.tuple #[.string ⟨#[]⟩, .int .i64 te]) ∧ Below w.heap.size w w' := by
  have HG := hideR HG
  have HT := hideR HT
  go_enter Tryd.func31, Tryd.ntmps31
  go_wp2_with fail
  go_at_call 65
  refine (HG.out _).mono ?_
  rintro e w1 ⟨rfl, b1⟩
  have X1 := ((Two.new w (.int .i64 N) (.int .i64 D) 28).keep b1)
  have B1 := bup (bel1 w _) b1
  clear b1
  obtain ⟨_, x0, x1, x2, x3⟩ := id X1
  go_wp2_with fail
  go_at_call 56
  refine (HT.out _).mono ?_
  rintro e w2 ⟨rfl, b2⟩
  have X2 := (X1.keep b2)
  have B2 := bup B1 b2
  clear X1 B1 x0 x1 x2 x3
  clear b2
  obtain ⟨_, x0, x1, x2, x3⟩ := id X2
  go_wp2_with fail
  exact bodyPost_ret (v := .tuple #[.string ⟨#[]⟩, .int .i64 te]) (by simp [results, Tryd.results31, go_sem]) rfl ⟨rfl, by first | exact B2 | exact (B2.setCell (by simp) _).setCell (by simp) _⟩
set_option maxRecDepth 100000 in
set_option maxHeartbeats 2000000 in
theorem rclock_arg (fm N D g q : Int) (hg : (g == 0) = false) (hg0 : 0 ≤ g ∧ g ≤ 1000) (hD : 1 ≤ D ∧ D ≤ 1048576) (hq : g % D = q) (hq2 : (q != 0) = true) (w : World)
    (HG : ∀ w, Calls Tryd.prog 65 #[.int .i64 fm] w fun e w' => e = .returned (.int .i64 g) ∧ Below w.heap.size w w')
    (HT : ∀ w, Calls Tryd.prog 56 #[.agg #[.int .i64 N, .int .i64 D]] w fun e w' => e = .returned (.int .i64 0) ∧ Below w.heap.size w w') :
    Calls Tryd.prog 31 #[.int .i64 fm, .agg #[.int .i64 N, .int .i64 D]] w fun e w' => e = .returned (.tuple #[.string ⟨#[]⟩, .int .i64 1]) ∧ Below w.heap.size w w' := by
  have HG := hideR HG
  have HT := hideR HT
  go_enter Tryd.func31, Tryd.ntmps31
  go_wp2_with fail
  go_at_call 65
  refine (HG.out _).mono ?_
  rintro e w1 ⟨rfl, b1⟩
  have X1 := ((Two.new w (.int .i64 N) (.int .i64 D) 28).keep b1)
  have B1 := bup (bel1 w _) b1
  clear b1
  obtain ⟨_, x0, x1, x2, x3⟩ := id X1
  go_wp2_with fail
  go_at_call 56
  refine (HT.out _).mono ?_
  rintro e w2 ⟨rfl, b2⟩
  have X2 := (X1.keep b2)
  have B2 := bup B1 b2
  clear X1 B1 x0 x1 x2 x3
  clear b2
  obtain ⟨_, x0, x1, x2, x3⟩ := id X2
  go_wp2_with fail
  exact bodyPost_ret (v := .tuple #[.string ⟨#[]⟩, .int .i64 1]) (by simp [results, Tryd.results31, go_sem]) rfl ⟨rfl, by first | exact B2 | exact (B2.setCell (by simp) _).setCell (by simp) _⟩
set_option maxRecDepth 100000 in
set_option maxHeartbeats 2000000 in
theorem rclock_1 (N D n k s v h m c r : Nat) (a b t l : List UInt8) (la : a.length ≤ 100) (lb : b.length ≤ 100) (lt : t.length ≤ 100) (ll : l.length ≤ 100) (hD : 1 ≤ D ∧ D ≤ 1048576) (h0 : (1000 : Int) % (D : Int) = 0) (hk : (1000 : Int) / (D : Int) = (k : Int)) (hn : (N : Int) * (k : Int) = (n : Int)) (hn1 : n ≤ 1000000000000) (hs : (n : Int) / 1000 = (s : Int)) (hh : (s : Int) / 3600 = (h : Int)) (hv : (s : Int) / 60 = (v : Int)) (hm : (v : Int) % 60 = (m : Int)) (hc : (s : Int) % 60 = (c : Int)) (hr : (n : Int) % 1000 = (r : Int)) (w : World)
    (HG : ∀ w, Calls Tryd.prog 65 #[.int .i64 1] w fun e w' => e = .returned (.int .i64 1000) ∧ Below w.heap.size w w')
    (HT : ∀ w, Calls Tryd.prog 56 #[.agg #[.int .i64 N, .int .i64 D]] w fun e w' => e = .returned (.int .i64 0) ∧ Below w.heap.size w w')
    (D1 : ∀ w, Calls Tryd.prog 41 #[.int .i64 h, .int .i64 2] w fun e w' => e = .returned (.string (bs a)) ∧ Below w.heap.size w w')
    (D2 : ∀ w, Calls Tryd.prog 41 #[.int .i64 m, .int .i64 2] w fun e w' => e = .returned (.string (bs b)) ∧ Below w.heap.size w w')
    (D3 : ∀ w, Calls Tryd.prog 41 #[.int .i64 c, .int .i64 2] w fun e w' => e = .returned (.string (bs t)) ∧ Below w.heap.size w w')
    (D4 : ∀ w, Calls Tryd.prog 41 #[.int .i64 r, .int .i64 3] w fun e w' => e = .returned (.string (bs l)) ∧ Below w.heap.size w w') :
    Calls Tryd.prog 31 #[.int .i64 1, .agg #[.int .i64 N, .int .i64 D]] w fun e w' => e = .returned (.tuple #[.string (bs (a ++ [58] ++ b ++ [58] ++ t ++ [44] ++ l)), .int .i64 0]) ∧ Below w.heap.size w w' := by
  have HG := hideR HG
  have HT := hideR HT
  have D1 := hideR D1
  have D2 := hideR D2
  have D3 := hideR D3
  have D4 := hideR D4
  have zq : ∀ w, (Op.intDiv .quo .i64 1000 D).run Tryd.prog w = .ok (.int .i64 k) w := fun w => by
    unfold Op.intDiv
    rw [if_neg (by omega), Int.tdiv_eq_ediv_of_nonneg (by omega), hk]
    exact congrArg (fun z => Result.ok (Value.int .i64 z) w) (by rw [IntKind.wrap_i64]; have : (1000 : Int) / (D : Int) ≤ 1000 := Int.ediv_le_self _ (by omega); omega)
  have wn : IntKind.i64.wrap ((N : Int) * (k : Int)) = (n : Int) := by rw [hn, IntKind.wrap_i64]; omega
  have zv : (s : Int).tdiv 60 = (v : Int) := by rw [Int.tdiv_eq_ediv_of_nonneg (by omega), hv]
  have zw : IntKind.i64.wrap (v : Int) = (v : Int) := by rw [IntKind.wrap_i64]; omega
  have zm : (v : Int).tmod 60 = (m : Int) := by rw [Int.tmod_eq_emod_of_nonneg (by omega), hm]
  have zc : (s : Int).tmod 60 = (c : Int) := by rw [Int.tmod_eq_emod_of_nonneg (by omega), hc]
  have zr : (n : Int).tmod 1000 = (r : Int) := by rw [Int.tmod_eq_emod_of_nonneg (by omega), hr]
  have ad0 : ∀ w, (Op.stringOp .add (bs a) ⟨#[58]⟩).run Tryd.prog w = .ok (.string (bs (a ++ [58]))) w := fun w => by
    have := run_string_add_sum (P := Tryd.prog) w (bs a) (bs [58]) (by rw [bs_size, bs_size]; simp; omega)
    rw [bs_append] at this
    exact this
  have ad1 : ∀ w, (Op.stringOp .add (bs (a ++ [58])) (bs b)).run Tryd.prog w = .ok (.string (bs ((a ++ [58]) ++ b))) w := fun w => by
    have := run_string_add_sum (P := Tryd.prog) w (bs (a ++ [58])) (bs b) (by rw [bs_size, bs_size]; simp; omega)
    rw [bs_append] at this
    exact this
  have ad2 : ∀ w, (Op.stringOp .add (bs (a ++ [58] ++ b)) ⟨#[58]⟩).run Tryd.prog w = .ok (.string (bs ((a ++ [58] ++ b) ++ [58]))) w := fun w => by
    have := run_string_add_sum (P := Tryd.prog) w (bs (a ++ [58] ++ b)) (bs [58]) (by rw [bs_size, bs_size]; simp; omega)
    rw [bs_append] at this
    exact this
  have ad3 : ∀ w, (Op.stringOp .add (bs (a ++ [58] ++ b ++ [58])) (bs t)).run Tryd.prog w = .ok (.string (bs ((a ++ [58] ++ b ++ [58]) ++ t))) w := fun w => by
    have := run_string_add_sum (P := Tryd.prog) w (bs (a ++ [58] ++ b ++ [58])) (bs t) (by rw [bs_size, bs_size]; simp; omega)
    rw [bs_append] at this
    exact this
  have ad4 : ∀ w, (Op.stringOp .add (bs (a ++ [58] ++ b ++ [58] ++ t)) ⟨#[44]⟩).run Tryd.prog w = .ok (.string (bs ((a ++ [58] ++ b ++ [58] ++ t) ++ [44]))) w := fun w => by
    have := run_string_add_sum (P := Tryd.prog) w (bs (a ++ [58] ++ b ++ [58] ++ t)) (bs [44]) (by rw [bs_size, bs_size]; simp; omega)
    rw [bs_append] at this
    exact this
  have ad5 : ∀ w, (Op.stringOp .add (bs (a ++ [58] ++ b ++ [58] ++ t ++ [44])) (bs l)).run Tryd.prog w = .ok (.string (bs ((a ++ [58] ++ b ++ [58] ++ t ++ [44]) ++ l))) w := fun w => by
    have := run_string_add_sum (P := Tryd.prog) w (bs (a ++ [58] ++ b ++ [58] ++ t ++ [44])) (bs l) (by rw [bs_size, bs_size]; simp; omega)
    rw [bs_append] at this
    exact this
  generalize bs (a ++ [58]) = y0 at *
  generalize bs ((a ++ [58]) ++ b) = y1 at *
  generalize bs ((a ++ [58] ++ b) ++ [58]) = y2 at *
  generalize bs ((a ++ [58] ++ b ++ [58]) ++ t) = y3 at *
  generalize bs ((a ++ [58] ++ b ++ [58] ++ t) ++ [44]) = y4 at *
  generalize bs ((a ++ [58] ++ b ++ [58] ++ t ++ [44]) ++ l) = y5 at *
  go_enter Tryd.func31, Tryd.ntmps31
  go_wp2_with fail
  go_at_call 65
  refine (HG.out _).mono ?_
  rintro e w1 ⟨rfl, b1⟩
  have X1 := ((Two.new w (.int .i64 N) (.int .i64 D) 28).keep b1)
  have B1 := bup (bel1 w _) b1
  clear b1
  obtain ⟨_, x0, x1, x2, x3⟩ := id X1
  go_wp2_with fail
  go_at_call 56
  refine (HT.out _).mono ?_
  rintro e w2 ⟨rfl, b2⟩
  have X2 := (X1.keep b2)
  have B2 := bup B1 b2
  clear X1 B1 x0 x1 x2 x3
  clear b2
  obtain ⟨_, x0, x1, x2, x3⟩ := id X2
  go_wp2_with fail
  go_quiet (fail)
  have B3 := below_drewN B2 nq
  clear B2 X2 x0 x1 x2 x3
  generalize w2.drewN nq = V at *
  go_wp2_with fail
  go_at_call 41
  refine (D1.out _).mono ?_
  rintro e w4 ⟨rfl, b4⟩
  have B4 := bup B3 b4
  clear b4
  go_wp2_with fail
  go_region_held3 (fun _ => True) (exact trivial)
    (first
    | (go_at_call_of 41 m; refine (D2.out _).mono ?_; rintro e w6 ⟨rfl, b6⟩; have B6 := bup B4.drew b6)
    | (go_at_call_of 41 c; refine (D3.out _).mono ?_; rintro e w7 ⟨rfl, b7⟩; have B7 := bup B6 b7)
    | (go_at_call_of 41 r; refine (D4.out _).mono ?_; rintro e w8 ⟨rfl, b8⟩; have B8 := bup B7 b8))
  all_goals (try go_wp2_with fail)
  all_goals (go_ret2; exact ⟨rfl, B8⟩)
set_option maxRecDepth 100000 in
set_option maxHeartbeats 2000000 in
theorem rclock_2 (N D n k s v h m c r : Nat) (a b t l : List UInt8) (la : a.length ≤ 100) (lb : b.length ≤ 100) (lt : t.length ≤ 100) (ll : l.length ≤ 100) (hD : 1 ≤ D ∧ D ≤ 1048576) (h0 : (1000 : Int) % (D : Int) = 0) (hk : (1000 : Int) / (D : Int) = (k : Int)) (hn : (N : Int) * (k : Int) = (n : Int)) (hn1 : n ≤ 1000000000000) (hs : (n : Int) / 1000 = (s : Int)) (hh : (s : Int) / 3600 = (h : Int)) (hv : (s : Int) / 60 = (v : Int)) (hm : (v : Int) % 60 = (m : Int)) (hc : (s : Int) % 60 = (c : Int)) (hr : (n : Int) % 1000 = (r : Int)) (w : World)
    (HG : ∀ w, Calls Tryd.prog 65 #[.int .i64 2] w fun e w' => e = .returned (.int .i64 1000) ∧ Below w.heap.size w w')
    (HT : ∀ w, Calls Tryd.prog 56 #[.agg #[.int .i64 N, .int .i64 D]] w fun e w' => e = .returned (.int .i64 0) ∧ Below w.heap.size w w')
    (D1 : ∀ w, Calls Tryd.prog 41 #[.int .i64 h, .int .i64 2] w fun e w' => e = .returned (.string (bs a)) ∧ Below w.heap.size w w')
    (D2 : ∀ w, Calls Tryd.prog 41 #[.int .i64 m, .int .i64 2] w fun e w' => e = .returned (.string (bs b)) ∧ Below w.heap.size w w')
    (D3 : ∀ w, Calls Tryd.prog 41 #[.int .i64 c, .int .i64 2] w fun e w' => e = .returned (.string (bs t)) ∧ Below w.heap.size w w')
    (D4 : ∀ w, Calls Tryd.prog 41 #[.int .i64 r, .int .i64 3] w fun e w' => e = .returned (.string (bs l)) ∧ Below w.heap.size w w') :
    Calls Tryd.prog 31 #[.int .i64 2, .agg #[.int .i64 N, .int .i64 D]] w fun e w' => e = .returned (.tuple #[.string (bs (a ++ [58] ++ b ++ [58] ++ t ++ [46] ++ l)), .int .i64 0]) ∧ Below w.heap.size w w' := by
  have HG := hideR HG
  have HT := hideR HT
  have D1 := hideR D1
  have D2 := hideR D2
  have D3 := hideR D3
  have D4 := hideR D4
  have zq : ∀ w, (Op.intDiv .quo .i64 1000 D).run Tryd.prog w = .ok (.int .i64 k) w := fun w => by
    unfold Op.intDiv
    rw [if_neg (by omega), Int.tdiv_eq_ediv_of_nonneg (by omega), hk]
    exact congrArg (fun z => Result.ok (Value.int .i64 z) w) (by rw [IntKind.wrap_i64]; have : (1000 : Int) / (D : Int) ≤ 1000 := Int.ediv_le_self _ (by omega); omega)
  have wn : IntKind.i64.wrap ((N : Int) * (k : Int)) = (n : Int) := by rw [hn, IntKind.wrap_i64]; omega
  have zv : (s : Int).tdiv 60 = (v : Int) := by rw [Int.tdiv_eq_ediv_of_nonneg (by omega), hv]
  have zw : IntKind.i64.wrap (v : Int) = (v : Int) := by rw [IntKind.wrap_i64]; omega
  have zm : (v : Int).tmod 60 = (m : Int) := by rw [Int.tmod_eq_emod_of_nonneg (by omega), hm]
  have zc : (s : Int).tmod 60 = (c : Int) := by rw [Int.tmod_eq_emod_of_nonneg (by omega), hc]
  have zr : (n : Int).tmod 1000 = (r : Int) := by rw [Int.tmod_eq_emod_of_nonneg (by omega), hr]
  have ad0 : ∀ w, (Op.stringOp .add (bs a) ⟨#[58]⟩).run Tryd.prog w = .ok (.string (bs (a ++ [58]))) w := fun w => by
    have := run_string_add_sum (P := Tryd.prog) w (bs a) (bs [58]) (by rw [bs_size, bs_size]; simp; omega)
    rw [bs_append] at this
    exact this
  have ad1 : ∀ w, (Op.stringOp .add (bs (a ++ [58])) (bs b)).run Tryd.prog w = .ok (.string (bs ((a ++ [58]) ++ b))) w := fun w => by
    have := run_string_add_sum (P := Tryd.prog) w (bs (a ++ [58])) (bs b) (by rw [bs_size, bs_size]; simp; omega)
    rw [bs_append] at this
    exact this
  have ad2 : ∀ w, (Op.stringOp .add (bs (a ++ [58] ++ b)) ⟨#[58]⟩).run Tryd.prog w = .ok (.string (bs ((a ++ [58] ++ b) ++ [58]))) w := fun w => by
    have := run_string_add_sum (P := Tryd.prog) w (bs (a ++ [58] ++ b)) (bs [58]) (by rw [bs_size, bs_size]; simp; omega)
    rw [bs_append] at this
    exact this
  have ad3 : ∀ w, (Op.stringOp .add (bs (a ++ [58] ++ b ++ [58])) (bs t)).run Tryd.prog w = .ok (.string (bs ((a ++ [58] ++ b ++ [58]) ++ t))) w := fun w => by
    have := run_string_add_sum (P := Tryd.prog) w (bs (a ++ [58] ++ b ++ [58])) (bs t) (by rw [bs_size, bs_size]; simp; omega)
    rw [bs_append] at this
    exact this
  have ad4 : ∀ w, (Op.stringOp .add (bs (a ++ [58] ++ b ++ [58] ++ t)) ⟨#[46]⟩).run Tryd.prog w = .ok (.string (bs ((a ++ [58] ++ b ++ [58] ++ t) ++ [46]))) w := fun w => by
    have := run_string_add_sum (P := Tryd.prog) w (bs (a ++ [58] ++ b ++ [58] ++ t)) (bs [46]) (by rw [bs_size, bs_size]; simp; omega)
    rw [bs_append] at this
    exact this
  have ad5 : ∀ w, (Op.stringOp .add (bs (a ++ [58] ++ b ++ [58] ++ t ++ [46])) (bs l)).run Tryd.prog w = .ok (.string (bs ((a ++ [58] ++ b ++ [58] ++ t ++ [46]) ++ l))) w := fun w => by
    have := run_string_add_sum (P := Tryd.prog) w (bs (a ++ [58] ++ b ++ [58] ++ t ++ [46])) (bs l) (by rw [bs_size, bs_size]; simp; omega)
    rw [bs_append] at this
    exact this
  generalize bs (a ++ [58]) = y0 at *
  generalize bs ((a ++ [58]) ++ b) = y1 at *
  generalize bs ((a ++ [58] ++ b) ++ [58]) = y2 at *
  generalize bs ((a ++ [58] ++ b ++ [58]) ++ t) = y3 at *
  generalize bs ((a ++ [58] ++ b ++ [58] ++ t) ++ [46]) = y4 at *
  generalize bs ((a ++ [58] ++ b ++ [58] ++ t ++ [46]) ++ l) = y5 at *
  go_enter Tryd.func31, Tryd.ntmps31
  go_wp2_with fail
  go_at_call 65
  refine (HG.out _).mono ?_
  rintro e w1 ⟨rfl, b1⟩
  have X1 := ((Two.new w (.int .i64 N) (.int .i64 D) 28).keep b1)
  have B1 := bup (bel1 w _) b1
  clear b1
  obtain ⟨_, x0, x1, x2, x3⟩ := id X1
  go_wp2_with fail
  go_at_call 56
  refine (HT.out _).mono ?_
  rintro e w2 ⟨rfl, b2⟩
  have X2 := (X1.keep b2)
  have B2 := bup B1 b2
  clear X1 B1 x0 x1 x2 x3
  clear b2
  obtain ⟨_, x0, x1, x2, x3⟩ := id X2
  go_wp2_with fail
  go_quiet (fail)
  have B3 := below_drewN B2 nq
  clear B2 X2 x0 x1 x2 x3
  generalize w2.drewN nq = V at *
  go_wp2_with fail
  go_at_call 41
  refine (D1.out _).mono ?_
  rintro e w4 ⟨rfl, b4⟩
  have B4 := bup B3 b4
  clear b4
  go_wp2_with fail
  go_region_held3 (fun _ => True) (exact trivial)
    (first
    | (go_at_call_of 41 m; refine (D2.out _).mono ?_; rintro e w6 ⟨rfl, b6⟩; have B6 := bup B4.drew b6)
    | (go_at_call_of 41 c; refine (D3.out _).mono ?_; rintro e w7 ⟨rfl, b7⟩; have B7 := bup B6 b7)
    | (go_at_call_of 41 r; refine (D4.out _).mono ?_; rintro e w8 ⟨rfl, b8⟩; have B8 := bup B7 b8))
  all_goals (try go_wp2_with fail)
  all_goals (go_ret2; exact ⟨rfl, B8⟩)
set_option maxRecDepth 100000 in
set_option maxHeartbeats 2000000 in
theorem rclock_4 (N D n k s v h m c r : Nat) (a b t l u : List UInt8) (lu : u.length ≤ 100) (lb : b.length ≤ 100) (lt : t.length ≤ 100) (ll : l.length ≤ 100) (hD : 1 ≤ D ∧ D ≤ 1048576) (h0 : (100 : Int) % (D : Int) = 0) (hk : (100 : Int) / (D : Int) = (k : Int)) (hn : (N : Int) * (k : Int) = (n : Int)) (hn1 : n ≤ 1000000000000) (hs : (n : Int) / 100 = (s : Int)) (hh : (s : Int) / 3600 = (h : Int)) (hv : (s : Int) / 60 = (v : Int)) (hm : (v : Int) % 60 = (m : Int)) (hc : (s : Int) % 60 = (c : Int)) (hr : (n : Int) % 100 = (r : Int)) (w : World)
    (HG : ∀ w, Calls Tryd.prog 65 #[.int .i64 4] w fun e w' => e = .returned (.int .i64 100) ∧ Below w.heap.size w w')
    (HT : ∀ w, Calls Tryd.prog 56 #[.agg #[.int .i64 N, .int .i64 D]] w fun e w' => e = .returned (.int .i64 0) ∧ Below w.heap.size w w')
    (D1 : ∀ w, Calls Tryd.prog 41 #[.int .i64 h, .int .i64 2] w fun e w' => e = .returned (.string (bs a)) ∧ Below w.heap.size w w')
    (D2 : ∀ w, Calls Tryd.prog 41 #[.int .i64 m, .int .i64 2] w fun e w' => e = .returned (.string (bs b)) ∧ Below w.heap.size w w')
    (D3 : ∀ w, Calls Tryd.prog 41 #[.int .i64 c, .int .i64 2] w fun e w' => e = .returned (.string (bs t)) ∧ Below w.heap.size w w')
    (D4 : ∀ w, Calls Tryd.prog 41 #[.int .i64 r, .int .i64 2] w fun e w' => e = .returned (.string (bs l)) ∧ Below w.heap.size w w')
    (D5 : ∀ w, Calls Tryd.prog 41 #[.int .i64 h, .int .i64 1] w fun e w' => e = .returned (.string (bs u)) ∧ Below w.heap.size w w') :
    Calls Tryd.prog 31 #[.int .i64 4, .agg #[.int .i64 N, .int .i64 D]] w fun e w' => e = .returned (.tuple #[.string (bs (u ++ [58] ++ b ++ [58] ++ t ++ [46] ++ l)), .int .i64 0]) ∧ Below w.heap.size w w' := by
  have HG := hideR HG
  have HT := hideR HT
  have D1 := hideR D1
  have D2 := hideR D2
  have D3 := hideR D3
  have D4 := hideR D4
  have D5 := hideR D5
  have zq : ∀ w, (Op.intDiv .quo .i64 100 D).run Tryd.prog w = .ok (.int .i64 k) w := fun w => by
    unfold Op.intDiv
    rw [if_neg (by omega), Int.tdiv_eq_ediv_of_nonneg (by omega), hk]
    exact congrArg (fun z => Result.ok (Value.int .i64 z) w) (by rw [IntKind.wrap_i64]; have : (100 : Int) / (D : Int) ≤ 100 := Int.ediv_le_self _ (by omega); omega)
  have wn : IntKind.i64.wrap ((N : Int) * (k : Int)) = (n : Int) := by rw [hn, IntKind.wrap_i64]; omega
  have zv : (s : Int).tdiv 60 = (v : Int) := by rw [Int.tdiv_eq_ediv_of_nonneg (by omega), hv]
  have zw : IntKind.i64.wrap (v : Int) = (v : Int) := by rw [IntKind.wrap_i64]; omega
  have zm : (v : Int).tmod 60 = (m : Int) := by rw [Int.tmod_eq_emod_of_nonneg (by omega), hm]
  have zc : (s : Int).tmod 60 = (c : Int) := by rw [Int.tmod_eq_emod_of_nonneg (by omega), hc]
  have zr : (n : Int).tmod 100 = (r : Int) := by rw [Int.tmod_eq_emod_of_nonneg (by omega), hr]
  have ad0 : ∀ w, (Op.stringOp .add (bs u) ⟨#[58]⟩).run Tryd.prog w = .ok (.string (bs (u ++ [58]))) w := fun w => by
    have := run_string_add_sum (P := Tryd.prog) w (bs u) (bs [58]) (by rw [bs_size, bs_size]; simp; omega)
    rw [bs_append] at this
    exact this
  have ad1 : ∀ w, (Op.stringOp .add (bs (u ++ [58])) (bs b)).run Tryd.prog w = .ok (.string (bs ((u ++ [58]) ++ b))) w := fun w => by
    have := run_string_add_sum (P := Tryd.prog) w (bs (u ++ [58])) (bs b) (by rw [bs_size, bs_size]; simp; omega)
    rw [bs_append] at this
    exact this
  have ad2 : ∀ w, (Op.stringOp .add (bs (u ++ [58] ++ b)) ⟨#[58]⟩).run Tryd.prog w = .ok (.string (bs ((u ++ [58] ++ b) ++ [58]))) w := fun w => by
    have := run_string_add_sum (P := Tryd.prog) w (bs (u ++ [58] ++ b)) (bs [58]) (by rw [bs_size, bs_size]; simp; omega)
    rw [bs_append] at this
    exact this
  have ad3 : ∀ w, (Op.stringOp .add (bs (u ++ [58] ++ b ++ [58])) (bs t)).run Tryd.prog w = .ok (.string (bs ((u ++ [58] ++ b ++ [58]) ++ t))) w := fun w => by
    have := run_string_add_sum (P := Tryd.prog) w (bs (u ++ [58] ++ b ++ [58])) (bs t) (by rw [bs_size, bs_size]; simp; omega)
    rw [bs_append] at this
    exact this
  have ad4 : ∀ w, (Op.stringOp .add (bs (u ++ [58] ++ b ++ [58] ++ t)) ⟨#[46]⟩).run Tryd.prog w = .ok (.string (bs ((u ++ [58] ++ b ++ [58] ++ t) ++ [46]))) w := fun w => by
    have := run_string_add_sum (P := Tryd.prog) w (bs (u ++ [58] ++ b ++ [58] ++ t)) (bs [46]) (by rw [bs_size, bs_size]; simp; omega)
    rw [bs_append] at this
    exact this
  have ad5 : ∀ w, (Op.stringOp .add (bs (u ++ [58] ++ b ++ [58] ++ t ++ [46])) (bs l)).run Tryd.prog w = .ok (.string (bs ((u ++ [58] ++ b ++ [58] ++ t ++ [46]) ++ l))) w := fun w => by
    have := run_string_add_sum (P := Tryd.prog) w (bs (u ++ [58] ++ b ++ [58] ++ t ++ [46])) (bs l) (by rw [bs_size, bs_size]; simp; omega)
    rw [bs_append] at this
    exact this
  generalize bs (u ++ [58]) = y0 at *
  generalize bs ((u ++ [58]) ++ b) = y1 at *
  generalize bs ((u ++ [58] ++ b) ++ [58]) = y2 at *
  generalize bs ((u ++ [58] ++ b ++ [58]) ++ t) = y3 at *
  generalize bs ((u ++ [58] ++ b ++ [58] ++ t) ++ [46]) = y4 at *
  generalize bs ((u ++ [58] ++ b ++ [58] ++ t ++ [46]) ++ l) = y5 at *
  go_enter Tryd.func31, Tryd.ntmps31
  go_wp2_with fail
  go_at_call 65
  refine (HG.out _).mono ?_
  rintro e w1 ⟨rfl, b1⟩
  have X1 := ((Two.new w (.int .i64 N) (.int .i64 D) 28).keep b1)
  have B1 := bup (bel1 w _) b1
  clear b1
  obtain ⟨_, x0, x1, x2, x3⟩ := id X1
  go_wp2_with fail
  go_at_call 56
  refine (HT.out _).mono ?_
  rintro e w2 ⟨rfl, b2⟩
  have X2 := (X1.keep b2)
  have B2 := bup B1 b2
  clear X1 B1 x0 x1 x2 x3
  clear b2
  obtain ⟨_, x0, x1, x2, x3⟩ := id X2
  go_wp2_with fail
  go_quiet (fail)
  have B3 := below_drewN B2 nq
  clear B2 X2 x0 x1 x2 x3
  generalize w2.drewN nq = V at *
  go_wp2_with fail
  go_at_call 41
  refine (D1.out _).mono ?_
  rintro e w4 ⟨rfl, b4⟩
  have B4 := bup B3 b4
  clear b4
  go_wp2_with fail
  go_at_call 41
  refine (D5.out _).mono ?_
  rintro e w5 ⟨rfl, b5⟩
  have B4 := bup B4 b5
  clear b5
  go_wp2_with fail
  go_region_held3 (fun _ => True) (exact trivial)
    (first
    | (go_at_call_of 41 m; refine (D2.out _).mono ?_; rintro e w6 ⟨rfl, b6⟩; have B6 := bup B4.drew b6)
    | (go_at_call_of 41 c; refine (D3.out _).mono ?_; rintro e w7 ⟨rfl, b7⟩; have B7 := bup B6 b7)
    | (go_at_call_of 41 r; refine (D4.out _).mono ?_; rintro e w8 ⟨rfl, b8⟩; have B8 := bup B7 b8))
  all_goals (try go_wp2_with fail)
  all_goals (go_ret2; exact ⟨rfl, B8⟩)
end Go.Proofs.YtaipdckakgohjaaDoor
