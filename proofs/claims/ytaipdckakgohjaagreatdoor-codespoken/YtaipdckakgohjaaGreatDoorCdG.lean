/- Package code: Label, Number, Clock: walks. -/
import Derived.Test.YtaipdckakgohjaaGreatDoorCdD
namespace Go.Proofs.YtaipdckakgohjaaGreatDoor
open Go.RowKit Go.Shelf
attribute [local go_sem] Oper.semAt_some bs_toList

/-- A dial in memory. -/
def DialAt (V : World) (B : Nat) (dh dm dp dg : Int) (ds : Bool) : Prop := B < V.heap.size ∧ V.cell? ⟨B, 0, none⟩ = some (.int .i64 dh) ∧ V.cell? ⟨B, 1, none⟩ = some (.int .u8 dm) ∧ V.cell? ⟨B, 2, none⟩ = some (.int .i64 dp) ∧ V.cell? ⟨B, 3, none⟩ = some (.int .i64 dg) ∧ V.cell? ⟨B, 4, none⟩ = some (.bool ds)
theorem DialAt.new (w : World) (dh dm dp dg : Int) (ds : Bool) : DialAt (w.alloc (.cells #[.int .i64 dh, .int .u8 dm, .int .i64 dp, .int .i64 dg, .bool ds] 56)) w.heap.size dh dm dp dg ds := ⟨by simp, by go_simp, by go_simp, by go_simp, by go_simp, by go_simp⟩
theorem DialAt.keep {V U : World} {B : Nat} {dh dm dp dg : Int} {ds : Bool} (h : DialAt V B dh dm dp dg ds) (k : Below V.heap.size V U) : DialAt U B dh dm dp dg ds :=
  ⟨Nat.lt_of_lt_of_le h.1 k.size, (k.cell (p := ⟨B, 0, none⟩) h.1).trans h.2.1, (k.cell (p := ⟨B, 1, none⟩) h.1).trans h.2.2.1, (k.cell (p := ⟨B, 2, none⟩) h.1).trans h.2.2.2.1, (k.cell (p := ⟨B, 3, none⟩) h.1).trans h.2.2.2.2.1, (k.cell (p := ⟨B, 4, none⟩) h.1).trans h.2.2.2.2.2⟩
theorem DialAt.alloc {V : World} {B : Nat} {dh dm dp dg : Int} {ds : Bool} (h : DialAt V B dh dm dp dg ds) (o : Obj) : DialAt (V.alloc o) B dh dm dp dg ds := h.keep (bel1 V o)
theorem DialAt.drew {V : World} {B : Nat} {dh dm dp dg : Int} {ds : Bool} (h : DialAt V B dh dm dp dg ds) : DialAt V.drew B dh dm dp dg ds := h
set_option maxRecDepth 100000 in
set_option maxHeartbeats 2000000 in
theorem label_bad (n d fr tn td te : Int) (dr : Bool) (ht : (te == 0) = false) (w : World)
    (HT : ∀ w, Calls Tryz.prog 21 #[.agg #[.int .i64 n, .int .i64 d, .bool dr], .int .i64 fr] w fun e w' => e = .returned (.tuple #[.agg #[.int .i64 tn, .int .i64 td], .int .i64 te]) ∧ Below w.heap.size w w') :
    Calls Tryz.prog 22 #[.agg #[.int .i64 n, .int .i64 d, .bool dr], .int .i64 fr] w fun e w' => e = .returned (.tuple #[.string ⟨#[]⟩, .int .i64 te]) ∧ Below w.heap.size w w' := by
  have HT := hideR HT
  go_enter Tryz.func22, Tryz.ntmps22
  go_wp2_with fail
  go_at_call 21
  refine (HT.out _).mono ?_
  rintro e w1 ⟨rfl, b1⟩
  have A1 := ((RateAt.new w n d dr).keep b1).alloc (.cells #[.int .i64 tn, .int .i64 td] 24)
  have B1 := bup (bup (bel1 w _) b1) (bel1 w1 (.cells #[.int .i64 tn, .int .i64 td] 24))
  clear b1
  have G1 := Two.new w1 (.int .i64 tn) (.int .i64 td) 24
  obtain ⟨_, a0, a1, a2⟩ := id A1
  obtain ⟨_, g0, g1, g2, g3⟩ := id G1
  go_wp2_with fail
  exact bodyPost_ret (v := .tuple #[.string ⟨#[]⟩, .int .i64 te]) (by simp [results, Tryz.results22, go_sem]) rfl ⟨rfl, by first | exact B1 | exact (B1.setCell (by simp) _).setCell (by simp) _⟩
set_option maxRecDepth 100000 in
set_option maxHeartbeats 2000000 in
theorem label_walk (n d fr tn td cf cl dh dm dp dg nu : Int) (dr ds : Bool) (l : List UInt8) (w : World)
    (HT : ∀ w, Calls Tryz.prog 21 #[.agg #[.int .i64 n, .int .i64 d, .bool dr], .int .i64 fr] w fun e w' => e = .returned (.tuple #[.agg #[.int .i64 tn, .int .i64 td], .int .i64 0]) ∧ Below w.heap.size w w')
    (HN : ∀ w, Calls Tryz.prog 55 #[.agg #[.int .i64 n, .int .i64 d, .bool dr]] w fun e w' => e = .returned (.agg #[.int .i64 cf, .int .i64 cl]) ∧ Below w.heap.size w w')
    (HD : ∀ w, Calls Tryz.prog 56 #[.agg #[.int .i64 cf, .int .i64 cl], .bool dr] w fun e w' => e = .returned (.agg #[.int .i64 dh, .int .u8 dm, .int .i64 dp, .int .i64 dg, .bool ds]) ∧ Below w.heap.size w w')
    (HB : ∀ w, Calls Tryz.prog 57 #[.agg #[.int .i64 cf, .int .i64 cl], .int .i64 fr] w fun e w' => e = .returned (.int .i64 nu) ∧ Below w.heap.size w w')
    (HW : ∀ w0, Below w.heap.size w w0 → Calls Tryz.prog 50 #[.agg #[.int .i64 dh, .int .u8 dm, .int .i64 dp, .int .i64 dg, .bool ds], .int .i64 nu] w0 fun e w' => e = .returned (.string (bs l)) ∧ Below w0.heap.size w0 w') :
    Calls Tryz.prog 22 #[.agg #[.int .i64 n, .int .i64 d, .bool dr], .int .i64 fr] w fun e w' => e = .returned (.tuple #[.string (bs l), .int .i64 0]) ∧ Below w.heap.size w w' := by
  have HT := hideR HT
  have HN := hideR HN
  have HD := hideR HD
  have HB := hideR HB
  have HW := hideR HW
  go_enter Tryz.func22, Tryz.ntmps22
  go_wp2_with fail
  go_at_call 21
  refine (HT.out _).mono ?_
  rintro e w1 ⟨rfl, b1⟩
  have A1 := ((RateAt.new w n d dr).keep b1).alloc (.cells #[.int .i64 tn, .int .i64 td] 24)
  have B1 := bup (bup (bel1 w _) b1) (bel1 w1 (.cells #[.int .i64 tn, .int .i64 td] 24))
  clear b1
  have G1 := Two.new w1 (.int .i64 tn) (.int .i64 td) 24
  obtain ⟨_, a0, a1, a2⟩ := id A1
  obtain ⟨_, g0, g1, g2, g3⟩ := id G1
  go_wp2_with fail
  go_at_call 55
  refine (HN.out _).mono ?_
  rintro e w2 ⟨rfl, b2⟩
  have A2 := (A1.keep b2).alloc (.cells #[.int .i64 cf, .int .i64 cl] 95)
  have G2 := (G1.keep b2).alloc (.cells #[.int .i64 cf, .int .i64 cl] 95)
  have B2 := bup (bup B1 b2) (bel1 w2 (.cells #[.int .i64 cf, .int .i64 cl] 95))
  clear A1 G1 B1 a0 a1 a2 g0 g1 g2 g3
  clear b2
  have C2 := Two.new w2 (.int .i64 cf) (.int .i64 cl) 95
  obtain ⟨_, a0, a1, a2⟩ := id A2
  obtain ⟨_, g0, g1, g2, g3⟩ := id G2
  obtain ⟨_, c0, c1, c2, c3⟩ := id C2
  go_wp2_with fail
  have S2 := And.intro A2.2.1 (And.intro A2.2.2.1 (And.intro A2.2.2.2 (And.intro C2.2.1 C2.2.2.1)))
  go_region_held3 (fun w' => w'.cell? ⟨w.heap.size, 0, none⟩ = some (.int .i64 n) ∧ w'.cell? ⟨w.heap.size, 1, none⟩ = some (.int .i64 d) ∧ w'.cell? ⟨w.heap.size, 2, none⟩ = some (.bool dr) ∧ w'.cell? ⟨w2.heap.size, 0, none⟩ = some (.int .i64 cf) ∧ w'.cell? ⟨w2.heap.size, 1, none⟩ = some (.int .i64 cl)) (first | assumption | go_keep)
    (first
    | (go_at_call 56; refine (HD.out _).mono ?_; rintro e w3 ⟨rfl, b3⟩; have A3 := A2.drew.keep b3; have G3 := G2.drew.keep b3; have C3 := C2.drew.keep b3; have B3 := bup B2.drew b3; have S3 := And.intro A3.2.1 (And.intro A3.2.2.1 (And.intro A3.2.2.2 (And.intro C3.2.1 C3.2.2.1))))
    | (go_at_call 57; refine (HB.out _).mono ?_; rintro e w4 ⟨rfl, b4⟩; have A4 := A3.keep b4; have G4 := G3.keep b4; have C4 := C3.keep b4; have B4 := bup B3 b4; have S4 := And.intro A4.2.1 (And.intro A4.2.2.1 (And.intro A4.2.2.2 (And.intro C4.2.1 C4.2.2.1))))
    | (go_at_call 50; refine (HW.out _ B4).mono ?_; rintro e w5 ⟨rfl, b5⟩; have A5 := A4.keep b5; have G5 := G4.keep b5; have C5 := C4.keep b5; have B5 := bup B4 b5; have S5 := And.intro A5.2.1 (And.intro A5.2.2.1 (And.intro A5.2.2.2 (And.intro C5.2.1 C5.2.2.1)))))
  all_goals (
    try go_wp2_with fail
    go_ret2
    exact ⟨rfl, B5⟩)
set_option maxRecDepth 100000 in
set_option maxHeartbeats 2000000 in
theorem clock_kind (fm tn td dh dm dp dg : Int) (ds : Bool) (w : World)
    (HO : ∀ w, Calls Tryz.prog 24 #[.int .i64 fm] w fun e w' => e = .returned (.tuple #[.agg #[.int .i64 dh, .int .u8 dm, .int .i64 dp, .int .i64 dg, .bool ds], .bool false]) ∧ Below w.heap.size w w') :
    Calls Tryz.prog 17 #[.int .i64 fm, .agg #[.int .i64 tn, .int .i64 td]] w fun e w' => e = .returned (.tuple #[.string ⟨#[]⟩, .int .i64 5]) ∧ Below w.heap.size w w' := by
  have HO := hideR HO
  go_enter Tryz.func17, Tryz.ntmps17
  go_wp2_with fail
  go_at_call 24
  refine (HO.out _).mono ?_
  rintro e w1 ⟨rfl, b1⟩
  have X1 := ((Two.new w (.int .i64 tn) (.int .i64 td) 24).keep b1).alloc (.cells #[.int .i64 dh, .int .u8 dm, .int .i64 dp, .int .i64 dg, .bool ds] 56)
  have B1 := bup (bup (bel1 w _) b1) (bel1 w1 (.cells #[.int .i64 dh, .int .u8 dm, .int .i64 dp, .int .i64 dg, .bool ds] 56))
  clear b1
  have D1 := DialAt.new w1 dh dm dp dg ds
  obtain ⟨_, x0, x1, x2, x3⟩ := id X1
  obtain ⟨_, d0, d1, d2, d3, d4⟩ := id D1
  go_wp2_with fail
  exact bodyPost_ret (v := .tuple #[.string ⟨#[]⟩, .int .i64 5]) (by simp [results, Tryz.results17, go_sem]) rfl ⟨rfl, by first | exact B1 | exact (B1.setCell (by simp) _).setCell (by simp) _⟩
set_option maxRecDepth 100000 in
set_option maxHeartbeats 2000000 in
theorem clock_out (fm tn td dh dm dp dg te : Int) (ds : Bool) (ht : (te == 0) = false) (w : World)
    (HO : ∀ w, Calls Tryz.prog 24 #[.int .i64 fm] w fun e w' => e = .returned (.tuple #[.agg #[.int .i64 dh, .int .u8 dm, .int .i64 dp, .int .i64 dg, .bool ds], .bool true]) ∧ Below w.heap.size w w')
    (HT : ∀ w, Calls Tryz.prog 27 #[.agg #[.int .i64 tn, .int .i64 td]] w fun e w' => e = .returned (.int .i64 te) ∧ Below w.heap.size w w') :
    Calls Tryz.prog 17 #[.int .i64 fm, .agg #[.int .i64 tn, .int .i64 td]] w fun e w' => e = .returned (.tuple #[.string ⟨#[]⟩, .int .i64 te]) ∧ Below w.heap.size w w' := by
  have HO := hideR HO
  have HT := hideR HT
  go_enter Tryz.func17, Tryz.ntmps17
  go_wp2_with fail
  go_at_call 24
  refine (HO.out _).mono ?_
  rintro e w1 ⟨rfl, b1⟩
  have X1 := ((Two.new w (.int .i64 tn) (.int .i64 td) 24).keep b1).alloc (.cells #[.int .i64 dh, .int .u8 dm, .int .i64 dp, .int .i64 dg, .bool ds] 56)
  have B1 := bup (bup (bel1 w _) b1) (bel1 w1 (.cells #[.int .i64 dh, .int .u8 dm, .int .i64 dp, .int .i64 dg, .bool ds] 56))
  clear b1
  have D1 := DialAt.new w1 dh dm dp dg ds
  obtain ⟨_, x0, x1, x2, x3⟩ := id X1
  obtain ⟨_, d0, d1, d2, d3, d4⟩ := id D1
  go_wp2_with fail
  go_at_call 27
  refine (HT.out _).mono ?_
  rintro e w2 ⟨rfl, b2⟩
  have X2 := (X1.keep b2)
  have D2 := (D1.keep b2)
  have B2 := bup B1 b2
  clear X1 D1 B1 x0 x1 x2 x3 d0 d1 d2 d3 d4
  clear b2
  obtain ⟨_, x0, x1, x2, x3⟩ := id X2
  obtain ⟨_, d0, d1, d2, d3, d4⟩ := id D2
  go_wp2_with fail
  exact bodyPost_ret (v := .tuple #[.string ⟨#[]⟩, .int .i64 te]) (by simp [results, Tryz.results17, go_sem]) rfl ⟨rfl, by first | exact B2 | exact (B2.setCell (by simp) _).setCell (by simp) _⟩
set_option maxRecDepth 100000 in
set_option maxHeartbeats 2000000 in
theorem clock_mul (fm tn td dh dm dp dg qn qd me : Int) (ds : Bool) (hm : (me != 0) = true) (w : World)
    (HO : ∀ w, Calls Tryz.prog 24 #[.int .i64 fm] w fun e w' => e = .returned (.tuple #[.agg #[.int .i64 dh, .int .u8 dm, .int .i64 dp, .int .i64 dg, .bool ds], .bool true]) ∧ Below w.heap.size w w')
    (HT : ∀ w, Calls Tryz.prog 27 #[.agg #[.int .i64 tn, .int .i64 td]] w fun e w' => e = .returned (.int .i64 0) ∧ Below w.heap.size w w')
    (HM : ∀ w, Calls Tryz.prog 49 #[.agg #[.int .i64 tn, .int .i64 td], .agg #[.int .i64 dp, .int .i64 1]] w fun e w' => e = .returned (.tuple #[.agg #[.int .i64 qn, .int .i64 qd], .int .i64 me]) ∧ Below w.heap.size w w') :
    Calls Tryz.prog 17 #[.int .i64 fm, .agg #[.int .i64 tn, .int .i64 td]] w fun e w' => e = .returned (.tuple #[.string ⟨#[]⟩, .int .i64 1]) ∧ Below w.heap.size w w' := by
  have HO := hideR HO
  have HT := hideR HT
  have HM := hideR HM
  go_enter Tryz.func17, Tryz.ntmps17
  go_wp2_with fail
  go_at_call 24
  refine (HO.out _).mono ?_
  rintro e w1 ⟨rfl, b1⟩
  have X1 := ((Two.new w (.int .i64 tn) (.int .i64 td) 24).keep b1).alloc (.cells #[.int .i64 dh, .int .u8 dm, .int .i64 dp, .int .i64 dg, .bool ds] 56)
  have B1 := bup (bup (bel1 w _) b1) (bel1 w1 (.cells #[.int .i64 dh, .int .u8 dm, .int .i64 dp, .int .i64 dg, .bool ds] 56))
  clear b1
  have D1 := DialAt.new w1 dh dm dp dg ds
  obtain ⟨_, x0, x1, x2, x3⟩ := id X1
  obtain ⟨_, d0, d1, d2, d3, d4⟩ := id D1
  go_wp2_with fail
  go_at_call 27
  refine (HT.out _).mono ?_
  rintro e w2 ⟨rfl, b2⟩
  have X2 := (X1.keep b2)
  have D2 := (D1.keep b2)
  have B2 := bup B1 b2
  clear X1 D1 B1 x0 x1 x2 x3 d0 d1 d2 d3 d4
  clear b2
  obtain ⟨_, x0, x1, x2, x3⟩ := id X2
  obtain ⟨_, d0, d1, d2, d3, d4⟩ := id D2
  go_wp2_with fail
  go_at_call 49
  refine (HM.out _).mono ?_
  rintro e w3 ⟨rfl, b3⟩
  have X3 := (X2.keep b3).alloc (.cells #[.int .i64 qn, .int .i64 qd] 24)
  have D3 := (D2.keep b3).alloc (.cells #[.int .i64 qn, .int .i64 qd] 24)
  have B3 := bup (bup B2 b3) (bel1 w3 (.cells #[.int .i64 qn, .int .i64 qd] 24))
  clear X2 D2 B2 x0 x1 x2 x3 d0 d1 d2 d3 d4
  clear b3
  have Q3 := Two.new w3 (.int .i64 qn) (.int .i64 qd) 24
  obtain ⟨_, x0, x1, x2, x3⟩ := id X3
  obtain ⟨_, d0, d1, d2, d3, d4⟩ := id D3
  obtain ⟨_, q0, q1, q2, q3⟩ := id Q3
  go_wp2_with fail
  exact bodyPost_ret (v := .tuple #[.string ⟨#[]⟩, .int .i64 1]) (by simp [results, Tryz.results17, go_sem]) rfl ⟨rfl, by first | exact B3 | exact (B3.setCell (by simp) _).setCell (by simp) _⟩
set_option maxRecDepth 100000 in
set_option maxHeartbeats 2000000 in
theorem clock_part (fm tn td dh dm dp dg qn qd : Int) (ds : Bool) (hq : (qd != 1) = true) (w : World)
    (HO : ∀ w, Calls Tryz.prog 24 #[.int .i64 fm] w fun e w' => e = .returned (.tuple #[.agg #[.int .i64 dh, .int .u8 dm, .int .i64 dp, .int .i64 dg, .bool ds], .bool true]) ∧ Below w.heap.size w w')
    (HT : ∀ w, Calls Tryz.prog 27 #[.agg #[.int .i64 tn, .int .i64 td]] w fun e w' => e = .returned (.int .i64 0) ∧ Below w.heap.size w w')
    (HM : ∀ w, Calls Tryz.prog 49 #[.agg #[.int .i64 tn, .int .i64 td], .agg #[.int .i64 dp, .int .i64 1]] w fun e w' => e = .returned (.tuple #[.agg #[.int .i64 qn, .int .i64 qd], .int .i64 0]) ∧ Below w.heap.size w w') :
    Calls Tryz.prog 17 #[.int .i64 fm, .agg #[.int .i64 tn, .int .i64 td]] w fun e w' => e = .returned (.tuple #[.string ⟨#[]⟩, .int .i64 1]) ∧ Below w.heap.size w w' := by
  have HO := hideR HO
  have HT := hideR HT
  have HM := hideR HM
  go_enter Tryz.func17, Tryz.ntmps17
  go_wp2_with fail
  go_at_call 24
  refine (HO.out _).mono ?_
  rintro e w1 ⟨rfl, b1⟩
  have X1 := ((Two.new w (.int .i64 tn) (.int .i64 td) 24).keep b1).alloc (.cells #[.int .i64 dh, .int .u8 dm, .int .i64 dp, .int .i64 dg, .bool ds] 56)
  have B1 := bup (bup (bel1 w _) b1) (bel1 w1 (.cells #[.int .i64 dh, .int .u8 dm, .int .i64 dp, .int .i64 dg, .bool ds] 56))
  clear b1
  have D1 := DialAt.new w1 dh dm dp dg ds
  obtain ⟨_, x0, x1, x2, x3⟩ := id X1
  obtain ⟨_, d0, d1, d2, d3, d4⟩ := id D1
  go_wp2_with fail
  go_at_call 27
  refine (HT.out _).mono ?_
  rintro e w2 ⟨rfl, b2⟩
  have X2 := (X1.keep b2)
  have D2 := (D1.keep b2)
  have B2 := bup B1 b2
  clear X1 D1 B1 x0 x1 x2 x3 d0 d1 d2 d3 d4
  clear b2
  obtain ⟨_, x0, x1, x2, x3⟩ := id X2
  obtain ⟨_, d0, d1, d2, d3, d4⟩ := id D2
  go_wp2_with fail
  go_at_call 49
  refine (HM.out _).mono ?_
  rintro e w3 ⟨rfl, b3⟩
  have X3 := (X2.keep b3).alloc (.cells #[.int .i64 qn, .int .i64 qd] 24)
  have D3 := (D2.keep b3).alloc (.cells #[.int .i64 qn, .int .i64 qd] 24)
  have B3 := bup (bup B2 b3) (bel1 w3 (.cells #[.int .i64 qn, .int .i64 qd] 24))
  clear X2 D2 B2 x0 x1 x2 x3 d0 d1 d2 d3 d4
  clear b3
  have Q3 := Two.new w3 (.int .i64 qn) (.int .i64 qd) 24
  obtain ⟨_, x0, x1, x2, x3⟩ := id X3
  obtain ⟨_, d0, d1, d2, d3, d4⟩ := id D3
  obtain ⟨_, q0, q1, q2, q3⟩ := id Q3
  go_wp2_with fail
  exact bodyPost_ret (v := .tuple #[.string ⟨#[]⟩, .int .i64 1]) (by simp [results, Tryz.results17, go_sem]) rfl ⟨rfl, by first | exact B3 | exact (B3.setCell (by simp) _).setCell (by simp) _⟩
set_option maxRecDepth 100000 in
set_option maxHeartbeats 2000000 in
theorem clock_walk (fm tn td dh dm dp dg qn : Int) (ds : Bool) (l : List UInt8) (w : World)
    (HO : ∀ w, Calls Tryz.prog 24 #[.int .i64 fm] w fun e w' => e = .returned (.tuple #[.agg #[.int .i64 dh, .int .u8 dm, .int .i64 dp, .int .i64 dg, .bool ds], .bool true]) ∧ Below w.heap.size w w')
    (HT : ∀ w, Calls Tryz.prog 27 #[.agg #[.int .i64 tn, .int .i64 td]] w fun e w' => e = .returned (.int .i64 0) ∧ Below w.heap.size w w')
    (HM : ∀ w, Calls Tryz.prog 49 #[.agg #[.int .i64 tn, .int .i64 td], .agg #[.int .i64 dp, .int .i64 1]] w fun e w' => e = .returned (.tuple #[.agg #[.int .i64 qn, .int .i64 1], .int .i64 0]) ∧ Below w.heap.size w w')
    (HW : ∀ w0, Below w.heap.size w w0 → Calls Tryz.prog 50 #[.agg #[.int .i64 dh, .int .u8 dm, .int .i64 dp, .int .i64 dg, .bool ds], .int .i64 qn] w0 fun e w' => e = .returned (.string (bs l)) ∧ Below w0.heap.size w0 w') :
    Calls Tryz.prog 17 #[.int .i64 fm, .agg #[.int .i64 tn, .int .i64 td]] w fun e w' => e = .returned (.tuple #[.string (bs l), .int .i64 0]) ∧ Below w.heap.size w w' := by
  have HO := hideR HO
  have HT := hideR HT
  have HM := hideR HM
  have HW := hideR HW
  go_enter Tryz.func17, Tryz.ntmps17
  go_wp2_with fail
  go_at_call 24
  refine (HO.out _).mono ?_
  rintro e w1 ⟨rfl, b1⟩
  have X1 := ((Two.new w (.int .i64 tn) (.int .i64 td) 24).keep b1).alloc (.cells #[.int .i64 dh, .int .u8 dm, .int .i64 dp, .int .i64 dg, .bool ds] 56)
  have B1 := bup (bup (bel1 w _) b1) (bel1 w1 (.cells #[.int .i64 dh, .int .u8 dm, .int .i64 dp, .int .i64 dg, .bool ds] 56))
  clear b1
  have D1 := DialAt.new w1 dh dm dp dg ds
  obtain ⟨_, x0, x1, x2, x3⟩ := id X1
  obtain ⟨_, d0, d1, d2, d3, d4⟩ := id D1
  go_wp2_with fail
  go_at_call 27
  refine (HT.out _).mono ?_
  rintro e w2 ⟨rfl, b2⟩
  have X2 := (X1.keep b2)
  have D2 := (D1.keep b2)
  have B2 := bup B1 b2
  clear X1 D1 B1 x0 x1 x2 x3 d0 d1 d2 d3 d4
  clear b2
  obtain ⟨_, x0, x1, x2, x3⟩ := id X2
  obtain ⟨_, d0, d1, d2, d3, d4⟩ := id D2
  go_wp2_with fail
  go_at_call 49
  refine (HM.out _).mono ?_
  rintro e w3 ⟨rfl, b3⟩
  have X3 := (X2.keep b3).alloc (.cells #[.int .i64 qn, .int .i64 1] 24)
  have D3 := (D2.keep b3).alloc (.cells #[.int .i64 qn, .int .i64 1] 24)
  have B3 := bup (bup B2 b3) (bel1 w3 (.cells #[.int .i64 qn, .int .i64 1] 24))
  clear X2 D2 B2 x0 x1 x2 x3 d0 d1 d2 d3 d4
  clear b3
  have Q3 := Two.new w3 (.int .i64 qn) (.int .i64 1) 24
  obtain ⟨_, x0, x1, x2, x3⟩ := id X3
  obtain ⟨_, d0, d1, d2, d3, d4⟩ := id D3
  obtain ⟨_, q0, q1, q2, q3⟩ := id Q3
  go_wp2_with fail
  go_at_call 50
  refine (HW.out _ B3).mono ?_
  rintro e w4 ⟨rfl, b4⟩
  have X4 := (X3.keep b4)
  have D4 := (D3.keep b4)
  have Q4 := (Q3.keep b4)
  have B4 := bup B3 b4
  clear X3 D3 Q3 B3 x0 x1 x2 x3 d0 d1 d2 d3 d4 q0 q1 q2 q3
  clear b4
  obtain ⟨_, x0, x1, x2, x3⟩ := id X4
  obtain ⟨_, d0, d1, d2, d3, d4⟩ := id D4
  obtain ⟨_, q0, q1, q2, q3⟩ := id Q4
  go_wp2_with fail
  exact bodyPost_ret (v := .tuple #[.string (bs l), .int .i64 0]) (by simp [results, Tryz.results17, go_sem]) rfl ⟨rfl, by first | exact B4 | exact (B4.setCell (by simp) _).setCell (by simp) _⟩
set_option maxRecDepth 100000 in
set_option maxHeartbeats 2000000 in
theorem number_bad (n d c : Int) (dr : Bool) (s : List UInt8) (hc : (c == 0) = false) (w : World)
    (HC : ∀ w, Calls Tryz.prog 35 #[.agg #[.int .i64 n, .int .i64 d, .bool dr]] w fun e w' => e = .returned (.int .i64 c) ∧ Below w.heap.size w w') :
    Calls Tryz.prog 23 #[.agg #[.int .i64 n, .int .i64 d, .bool dr], .string (bs s)] w fun e w' => e = .returned (.tuple #[.int .i64 0, .int .i64 c]) ∧ Below w.heap.size w w' := by
  have HC := hideR HC
  go_enter Tryz.func23, Tryz.ntmps23
  go_wp2_with fail
  go_at_call 35
  refine (HC.out _).mono ?_
  rintro e w1 ⟨rfl, b1⟩
  have A1 := ((RateAt.new w n d dr).keep b1)
  have B1 := bup (bel1 w _) b1
  clear b1
  obtain ⟨_, a0, a1, a2⟩ := id A1
  go_wp2_with fail
  exact bodyPost_ret (v := .tuple #[.int .i64 0, .int .i64 c]) (by simp [results, Tryz.results23, go_sem]) rfl ⟨rfl, by first | exact B1 | exact (B1.setCell (by simp) _).setCell (by simp) _⟩
set_option maxRecDepth 100000 in
set_option maxHeartbeats 2000000 in
theorem number_form (n d cf cl dh dm dp dg nu : Int) (dr ds : Bool) (s : List UInt8) (w : World)
    (HC : ∀ w, Calls Tryz.prog 35 #[.agg #[.int .i64 n, .int .i64 d, .bool dr]] w fun e w' => e = .returned (.int .i64 0) ∧ Below w.heap.size w w')
    (HN : ∀ w, Calls Tryz.prog 55 #[.agg #[.int .i64 n, .int .i64 d, .bool dr]] w fun e w' => e = .returned (.agg #[.int .i64 cf, .int .i64 cl]) ∧ Below w.heap.size w w')
    (HD : ∀ w, Calls Tryz.prog 56 #[.agg #[.int .i64 cf, .int .i64 cl], .bool dr] w fun e w' => e = .returned (.agg #[.int .i64 dh, .int .u8 dm, .int .i64 dp, .int .i64 dg, .bool ds]) ∧ Below w.heap.size w w')
    (HR : ∀ w, Calls Tryz.prog 25 #[.agg #[.int .i64 dh, .int .u8 dm, .int .i64 dp, .int .i64 dg, .bool ds], .string (bs s)] w fun e w' => e = .returned (.tuple #[.int .i64 nu, .bool false]) ∧ Below w.heap.size w w') :
    Calls Tryz.prog 23 #[.agg #[.int .i64 n, .int .i64 d, .bool dr], .string (bs s)] w fun e w' => e = .returned (.tuple #[.int .i64 0, .int .i64 13]) ∧ Below w.heap.size w w' := by
  have HC := hideR HC
  have HN := hideR HN
  have HD := hideR HD
  have HR := hideR HR
  go_enter Tryz.func23, Tryz.ntmps23
  go_wp2_with fail
  go_at_call 35
  refine (HC.out _).mono ?_
  rintro e w1 ⟨rfl, b1⟩
  have A1 := ((RateAt.new w n d dr).keep b1)
  have B1 := bup (bel1 w _) b1
  clear b1
  obtain ⟨_, a0, a1, a2⟩ := id A1
  go_wp2_with fail
  go_at_call 55
  refine (HN.out _).mono ?_
  rintro e w2 ⟨rfl, b2⟩
  have A2 := (A1.keep b2).alloc (.cells #[.int .i64 cf, .int .i64 cl] 95)
  have B2 := bup (bup B1 b2) (bel1 w2 (.cells #[.int .i64 cf, .int .i64 cl] 95))
  clear A1 B1 a0 a1 a2
  clear b2
  have C2 := Two.new w2 (.int .i64 cf) (.int .i64 cl) 95
  obtain ⟨_, a0, a1, a2⟩ := id A2
  obtain ⟨_, c0, c1, c2, c3⟩ := id C2
  go_wp2_with fail
  go_at_call 56
  refine (HD.out _).mono ?_
  rintro e w3 ⟨rfl, b3⟩
  have A3 := (A2.keep b3)
  have C3 := (C2.keep b3)
  have B3 := bup B2 b3
  clear A2 C2 B2 a0 a1 a2 c0 c1 c2 c3
  clear b3
  obtain ⟨_, a0, a1, a2⟩ := id A3
  obtain ⟨_, c0, c1, c2, c3⟩ := id C3
  go_wp2_with fail
  go_at_call 25
  refine (HR.out _).mono ?_
  rintro e w4 ⟨rfl, b4⟩
  have A4 := (A3.keep b4)
  have C4 := (C3.keep b4)
  have B4 := bup B3 b4
  clear A3 C3 B3 a0 a1 a2 c0 c1 c2 c3
  clear b4
  obtain ⟨_, a0, a1, a2⟩ := id A4
  obtain ⟨_, c0, c1, c2, c3⟩ := id C4
  go_wp2_with fail
  exact bodyPost_ret (v := .tuple #[.int .i64 0, .int .i64 13]) (by simp [results, Tryz.results23, go_sem]) rfl ⟨rfl, by first | exact B4 | exact (B4.setCell (by simp) _).setCell (by simp) _⟩
set_option maxRecDepth 100000 in
set_option maxHeartbeats 2000000 in
theorem number_drop (n d cf cl dh dm dp dg nu : Int) (dr ds : Bool) (s : List UInt8) (w : World)
    (HC : ∀ w, Calls Tryz.prog 35 #[.agg #[.int .i64 n, .int .i64 d, .bool dr]] w fun e w' => e = .returned (.int .i64 0) ∧ Below w.heap.size w w')
    (HN : ∀ w, Calls Tryz.prog 55 #[.agg #[.int .i64 n, .int .i64 d, .bool dr]] w fun e w' => e = .returned (.agg #[.int .i64 cf, .int .i64 cl]) ∧ Below w.heap.size w w')
    (HD : ∀ w, Calls Tryz.prog 56 #[.agg #[.int .i64 cf, .int .i64 cl], .bool dr] w fun e w' => e = .returned (.agg #[.int .i64 dh, .int .u8 dm, .int .i64 dp, .int .i64 dg, .bool ds]) ∧ Below w.heap.size w w')
    (HR : ∀ w, Calls Tryz.prog 25 #[.agg #[.int .i64 dh, .int .u8 dm, .int .i64 dp, .int .i64 dg, .bool ds], .string (bs s)] w fun e w' => e = .returned (.tuple #[.int .i64 nu, .bool true]) ∧ Below w.heap.size w w')
    (HK : ∀ w, Calls Tryz.prog 58 #[.agg #[.int .i64 cf, .int .i64 cl], .int .i64 nu] w fun e w' => e = .returned (.bool true) ∧ Below w.heap.size w w') :
    Calls Tryz.prog 23 #[.agg #[.int .i64 n, .int .i64 d, .bool dr], .string (bs s)] w fun e w' => e = .returned (.tuple #[.int .i64 0, .int .i64 15]) ∧ Below w.heap.size w w' := by
  have HC := hideR HC
  have HN := hideR HN
  have HD := hideR HD
  have HR := hideR HR
  have HK := hideR HK
  go_enter Tryz.func23, Tryz.ntmps23
  go_wp2_with fail
  go_at_call 35
  refine (HC.out _).mono ?_
  rintro e w1 ⟨rfl, b1⟩
  have A1 := ((RateAt.new w n d dr).keep b1)
  have B1 := bup (bel1 w _) b1
  clear b1
  obtain ⟨_, a0, a1, a2⟩ := id A1
  go_wp2_with fail
  go_at_call 55
  refine (HN.out _).mono ?_
  rintro e w2 ⟨rfl, b2⟩
  have A2 := (A1.keep b2).alloc (.cells #[.int .i64 cf, .int .i64 cl] 95)
  have B2 := bup (bup B1 b2) (bel1 w2 (.cells #[.int .i64 cf, .int .i64 cl] 95))
  clear A1 B1 a0 a1 a2
  clear b2
  have C2 := Two.new w2 (.int .i64 cf) (.int .i64 cl) 95
  obtain ⟨_, a0, a1, a2⟩ := id A2
  obtain ⟨_, c0, c1, c2, c3⟩ := id C2
  go_wp2_with fail
  go_at_call 56
  refine (HD.out _).mono ?_
  rintro e w3 ⟨rfl, b3⟩
  have A3 := (A2.keep b3)
  have C3 := (C2.keep b3)
  have B3 := bup B2 b3
  clear A2 C2 B2 a0 a1 a2 c0 c1 c2 c3
  clear b3
  obtain ⟨_, a0, a1, a2⟩ := id A3
  obtain ⟨_, c0, c1, c2, c3⟩ := id C3
  go_wp2_with fail
  go_at_call 25
  refine (HR.out _).mono ?_
  rintro e w4 ⟨rfl, b4⟩
  have A4 := (A3.keep b4)
  have C4 := (C3.keep b4)
  have B4 := bup B3 b4
  clear A3 C3 B3 a0 a1 a2 c0 c1 c2 c3
  clear b4
  obtain ⟨_, a0, a1, a2⟩ := id A4
  obtain ⟨_, c0, c1, c2, c3⟩ := id C4
  go_wp2_with fail
  go_at_call 58
  refine (HK.out _).mono ?_
  rintro e w5 ⟨rfl, b5⟩
  have A5 := (A4.keep b5)
  have C5 := (C4.keep b5)
  have B5 := bup B4 b5
  clear A4 C4 B4 a0 a1 a2 c0 c1 c2 c3
  clear b5
  obtain ⟨_, a0, a1, a2⟩ := id A5
  obtain ⟨_, c0, c1, c2, c3⟩ := id C5
  go_wp2_with fail
  exact bodyPost_ret (v := .tuple #[.int .i64 0, .int .i64 15]) (by simp [results, Tryz.results23, go_sem]) rfl ⟨rfl, by first | exact B5 | exact (B5.setCell (by simp) _).setCell (by simp) _⟩
set_option maxRecDepth 100000 in
set_option maxHeartbeats 2000000 in
theorem number_out (n d cf cl dh dm dp dg nu fr tn td te : Int) (dr ds : Bool) (s : List UInt8) (ht : (te == 0) = false) (w : World)
    (HC : ∀ w, Calls Tryz.prog 35 #[.agg #[.int .i64 n, .int .i64 d, .bool dr]] w fun e w' => e = .returned (.int .i64 0) ∧ Below w.heap.size w w')
    (HN : ∀ w, Calls Tryz.prog 55 #[.agg #[.int .i64 n, .int .i64 d, .bool dr]] w fun e w' => e = .returned (.agg #[.int .i64 cf, .int .i64 cl]) ∧ Below w.heap.size w w')
    (HD : ∀ w, Calls Tryz.prog 56 #[.agg #[.int .i64 cf, .int .i64 cl], .bool dr] w fun e w' => e = .returned (.agg #[.int .i64 dh, .int .u8 dm, .int .i64 dp, .int .i64 dg, .bool ds]) ∧ Below w.heap.size w w')
    (HR : ∀ w, Calls Tryz.prog 25 #[.agg #[.int .i64 dh, .int .u8 dm, .int .i64 dp, .int .i64 dg, .bool ds], .string (bs s)] w fun e w' => e = .returned (.tuple #[.int .i64 nu, .bool true]) ∧ Below w.heap.size w w')
    (HK : ∀ w, Calls Tryz.prog 58 #[.agg #[.int .i64 cf, .int .i64 cl], .int .i64 nu] w fun e w' => e = .returned (.bool false) ∧ Below w.heap.size w w')
    (HF : ∀ w, Calls Tryz.prog 59 #[.agg #[.int .i64 cf, .int .i64 cl], .int .i64 nu] w fun e w' => e = .returned (.int .i64 fr) ∧ Below w.heap.size w w')
    (HT : ∀ w, Calls Tryz.prog 21 #[.agg #[.int .i64 n, .int .i64 d, .bool dr], .int .i64 fr] w fun e w' => e = .returned (.tuple #[.agg #[.int .i64 tn, .int .i64 td], .int .i64 te]) ∧ Below w.heap.size w w') :
    Calls Tryz.prog 23 #[.agg #[.int .i64 n, .int .i64 d, .bool dr], .string (bs s)] w fun e w' => e = .returned (.tuple #[.int .i64 0, .int .i64 te]) ∧ Below w.heap.size w w' := by
  have HC := hideR HC
  have HN := hideR HN
  have HD := hideR HD
  have HR := hideR HR
  have HK := hideR HK
  have HF := hideR HF
  have HT := hideR HT
  go_enter Tryz.func23, Tryz.ntmps23
  go_wp2_with fail
  go_at_call 35
  refine (HC.out _).mono ?_
  rintro e w1 ⟨rfl, b1⟩
  have A1 := ((RateAt.new w n d dr).keep b1)
  have B1 := bup (bel1 w _) b1
  clear b1
  obtain ⟨_, a0, a1, a2⟩ := id A1
  go_wp2_with fail
  go_at_call 55
  refine (HN.out _).mono ?_
  rintro e w2 ⟨rfl, b2⟩
  have A2 := (A1.keep b2).alloc (.cells #[.int .i64 cf, .int .i64 cl] 95)
  have B2 := bup (bup B1 b2) (bel1 w2 (.cells #[.int .i64 cf, .int .i64 cl] 95))
  clear A1 B1 a0 a1 a2
  clear b2
  have C2 := Two.new w2 (.int .i64 cf) (.int .i64 cl) 95
  obtain ⟨_, a0, a1, a2⟩ := id A2
  obtain ⟨_, c0, c1, c2, c3⟩ := id C2
  go_wp2_with fail
  go_at_call 56
  refine (HD.out _).mono ?_
  rintro e w3 ⟨rfl, b3⟩
  have A3 := (A2.keep b3)
  have C3 := (C2.keep b3)
  have B3 := bup B2 b3
  clear A2 C2 B2 a0 a1 a2 c0 c1 c2 c3
  clear b3
  obtain ⟨_, a0, a1, a2⟩ := id A3
  obtain ⟨_, c0, c1, c2, c3⟩ := id C3
  go_wp2_with fail
  go_at_call 25
  refine (HR.out _).mono ?_
  rintro e w4 ⟨rfl, b4⟩
  have A4 := (A3.keep b4)
  have C4 := (C3.keep b4)
  have B4 := bup B3 b4
  clear A3 C3 B3 a0 a1 a2 c0 c1 c2 c3
  clear b4
  obtain ⟨_, a0, a1, a2⟩ := id A4
  obtain ⟨_, c0, c1, c2, c3⟩ := id C4
  go_wp2_with fail
  go_at_call 58
  refine (HK.out _).mono ?_
  rintro e w5 ⟨rfl, b5⟩
  have A5 := (A4.keep b5)
  have C5 := (C4.keep b5)
  have B5 := bup B4 b5
  clear A4 C4 B4 a0 a1 a2 c0 c1 c2 c3
  clear b5
  obtain ⟨_, a0, a1, a2⟩ := id A5
  obtain ⟨_, c0, c1, c2, c3⟩ := id C5
  go_wp2_with fail
  go_at_call 59
  refine (HF.out _).mono ?_
  rintro e w6 ⟨rfl, b6⟩
  have A6 := (A5.keep b6)
  have C6 := (C5.keep b6)
  have B6 := bup B5 b6
  clear A5 C5 B5 a0 a1 a2 c0 c1 c2 c3
  clear b6
  obtain ⟨_, a0, a1, a2⟩ := id A6
  obtain ⟨_, c0, c1, c2, c3⟩ := id C6
  go_wp2_with fail
  go_at_call 21
  refine (HT.out _).mono ?_
  rintro e w7 ⟨rfl, b7⟩
  have A7 := (A6.keep b7).alloc (.cells #[.int .i64 tn, .int .i64 td] 24)
  have C7 := (C6.keep b7).alloc (.cells #[.int .i64 tn, .int .i64 td] 24)
  have B7 := bup (bup B6 b7) (bel1 w7 (.cells #[.int .i64 tn, .int .i64 td] 24))
  clear A6 C6 B6 a0 a1 a2 c0 c1 c2 c3
  clear b7
  have G7 := Two.new w7 (.int .i64 tn) (.int .i64 td) 24
  obtain ⟨_, a0, a1, a2⟩ := id A7
  obtain ⟨_, c0, c1, c2, c3⟩ := id C7
  obtain ⟨_, g0, g1, g2, g3⟩ := id G7
  go_wp2_with fail
  exact bodyPost_ret (v := .tuple #[.int .i64 0, .int .i64 te]) (by simp [results, Tryz.results23, go_sem]) rfl ⟨rfl, by first | exact B7 | exact (B7.setCell (by simp) _).setCell (by simp) _⟩
set_option maxRecDepth 100000 in
set_option maxHeartbeats 2000000 in
theorem number_ok (n d cf cl dh dm dp dg nu fr tn td : Int) (dr ds : Bool) (s : List UInt8) (w : World)
    (HC : ∀ w, Calls Tryz.prog 35 #[.agg #[.int .i64 n, .int .i64 d, .bool dr]] w fun e w' => e = .returned (.int .i64 0) ∧ Below w.heap.size w w')
    (HN : ∀ w, Calls Tryz.prog 55 #[.agg #[.int .i64 n, .int .i64 d, .bool dr]] w fun e w' => e = .returned (.agg #[.int .i64 cf, .int .i64 cl]) ∧ Below w.heap.size w w')
    (HD : ∀ w, Calls Tryz.prog 56 #[.agg #[.int .i64 cf, .int .i64 cl], .bool dr] w fun e w' => e = .returned (.agg #[.int .i64 dh, .int .u8 dm, .int .i64 dp, .int .i64 dg, .bool ds]) ∧ Below w.heap.size w w')
    (HR : ∀ w, Calls Tryz.prog 25 #[.agg #[.int .i64 dh, .int .u8 dm, .int .i64 dp, .int .i64 dg, .bool ds], .string (bs s)] w fun e w' => e = .returned (.tuple #[.int .i64 nu, .bool true]) ∧ Below w.heap.size w w')
    (HK : ∀ w, Calls Tryz.prog 58 #[.agg #[.int .i64 cf, .int .i64 cl], .int .i64 nu] w fun e w' => e = .returned (.bool false) ∧ Below w.heap.size w w')
    (HF : ∀ w, Calls Tryz.prog 59 #[.agg #[.int .i64 cf, .int .i64 cl], .int .i64 nu] w fun e w' => e = .returned (.int .i64 fr) ∧ Below w.heap.size w w')
    (HT : ∀ w, Calls Tryz.prog 21 #[.agg #[.int .i64 n, .int .i64 d, .bool dr], .int .i64 fr] w fun e w' => e = .returned (.tuple #[.agg #[.int .i64 tn, .int .i64 td], .int .i64 0]) ∧ Below w.heap.size w w') :
    Calls Tryz.prog 23 #[.agg #[.int .i64 n, .int .i64 d, .bool dr], .string (bs s)] w fun e w' => e = .returned (.tuple #[.int .i64 fr, .int .i64 0]) ∧ Below w.heap.size w w' := by
  have HC := hideR HC
  have HN := hideR HN
  have HD := hideR HD
  have HR := hideR HR
  have HK := hideR HK
  have HF := hideR HF
  have HT := hideR HT
  go_enter Tryz.func23, Tryz.ntmps23
  go_wp2_with fail
  go_at_call 35
  refine (HC.out _).mono ?_
  rintro e w1 ⟨rfl, b1⟩
  have A1 := ((RateAt.new w n d dr).keep b1)
  have B1 := bup (bel1 w _) b1
  clear b1
  obtain ⟨_, a0, a1, a2⟩ := id A1
  go_wp2_with fail
  go_at_call 55
  refine (HN.out _).mono ?_
  rintro e w2 ⟨rfl, b2⟩
  have A2 := (A1.keep b2).alloc (.cells #[.int .i64 cf, .int .i64 cl] 95)
  have B2 := bup (bup B1 b2) (bel1 w2 (.cells #[.int .i64 cf, .int .i64 cl] 95))
  clear A1 B1 a0 a1 a2
  clear b2
  have C2 := Two.new w2 (.int .i64 cf) (.int .i64 cl) 95
  obtain ⟨_, a0, a1, a2⟩ := id A2
  obtain ⟨_, c0, c1, c2, c3⟩ := id C2
  go_wp2_with fail
  go_at_call 56
  refine (HD.out _).mono ?_
  rintro e w3 ⟨rfl, b3⟩
  have A3 := (A2.keep b3)
  have C3 := (C2.keep b3)
  have B3 := bup B2 b3
  clear A2 C2 B2 a0 a1 a2 c0 c1 c2 c3
  clear b3
  obtain ⟨_, a0, a1, a2⟩ := id A3
  obtain ⟨_, c0, c1, c2, c3⟩ := id C3
  go_wp2_with fail
  go_at_call 25
  refine (HR.out _).mono ?_
  rintro e w4 ⟨rfl, b4⟩
  have A4 := (A3.keep b4)
  have C4 := (C3.keep b4)
  have B4 := bup B3 b4
  clear A3 C3 B3 a0 a1 a2 c0 c1 c2 c3
  clear b4
  obtain ⟨_, a0, a1, a2⟩ := id A4
  obtain ⟨_, c0, c1, c2, c3⟩ := id C4
  go_wp2_with fail
  go_at_call 58
  refine (HK.out _).mono ?_
  rintro e w5 ⟨rfl, b5⟩
  have A5 := (A4.keep b5)
  have C5 := (C4.keep b5)
  have B5 := bup B4 b5
  clear A4 C4 B4 a0 a1 a2 c0 c1 c2 c3
  clear b5
  obtain ⟨_, a0, a1, a2⟩ := id A5
  obtain ⟨_, c0, c1, c2, c3⟩ := id C5
  go_wp2_with fail
  go_at_call 59
  refine (HF.out _).mono ?_
  rintro e w6 ⟨rfl, b6⟩
  have A6 := (A5.keep b6)
  have C6 := (C5.keep b6)
  have B6 := bup B5 b6
  clear A5 C5 B5 a0 a1 a2 c0 c1 c2 c3
  clear b6
  obtain ⟨_, a0, a1, a2⟩ := id A6
  obtain ⟨_, c0, c1, c2, c3⟩ := id C6
  go_wp2_with fail
  go_at_call 21
  refine (HT.out _).mono ?_
  rintro e w7 ⟨rfl, b7⟩
  have A7 := (A6.keep b7).alloc (.cells #[.int .i64 tn, .int .i64 td] 24)
  have C7 := (C6.keep b7).alloc (.cells #[.int .i64 tn, .int .i64 td] 24)
  have B7 := bup (bup B6 b7) (bel1 w7 (.cells #[.int .i64 tn, .int .i64 td] 24))
  clear A6 C6 B6 a0 a1 a2 c0 c1 c2 c3
  clear b7
  have G7 := Two.new w7 (.int .i64 tn) (.int .i64 td) 24
  obtain ⟨_, a0, a1, a2⟩ := id A7
  obtain ⟨_, c0, c1, c2, c3⟩ := id C7
  obtain ⟨_, g0, g1, g2, g3⟩ := id G7
  go_wp2_with fail
  exact bodyPost_ret (v := .tuple #[.int .i64 fr, .int .i64 0]) (by simp [results, Tryz.results23, go_sem]) rfl ⟨rfl, by first | exact B7 | exact (B7.setCell (by simp) _).setCell (by simp) _⟩
end Go.Proofs.YtaipdckakgohjaaGreatDoor
