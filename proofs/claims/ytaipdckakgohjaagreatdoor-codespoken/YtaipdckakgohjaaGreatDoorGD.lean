/- Several texts, one behind the other. -/
import Derived.Test.YtaipdckakgohjaaGreatDoorCRefG
import Derived.Test.YtaipdckakgohjaaGreatDoorCRefR2
import Derived.Test.YtaipdckakgohjaaGreatDoorGB
/- surtitleref5.Number: walks. -/
namespace Go.Proofs.YtaipdckakgohjaaGreatDoor
open Go.RowKit Go.Shelf
attribute [local go_sem] Oper.semAt_some

theorem RateAt.under {V U : World} {A B : Nat} {n d : Int} {dr : Bool} (h : RateAt V A n d dr) (k : Below B V U) (hAB : A < B) : RateAt U A n d dr :=
  ⟨Nat.lt_of_lt_of_le h.1 k.size, (k.cell (p := ⟨A, 0, none⟩) hAB).trans h.2.1, (k.cell (p := ⟨A, 1, none⟩) hAB).trans h.2.2.1, (k.cell (p := ⟨A, 2, none⟩) hAB).trans h.2.2.2⟩
set_option maxRecDepth 100000 in
set_option maxHeartbeats 2000000 in
theorem rnum_bad (n d c : Int) (dr : Bool) (l : List UInt8) (hc : (c != 0) = true) (w : World)
    (HC : ∀ w, Calls Tryz.prog 20 #[.agg #[.int .i64 n, .int .i64 d, .bool dr]] w fun e w' => e = .returned (.int .i64 c) ∧ Below w.heap.size w w') :
    Calls Tryz.prog 74 #[.agg #[.int .i64 n, .int .i64 d, .bool dr], .string (bs l)] w fun e w' => e = .returned (.tuple #[.int .i64 0, .int .i64 14]) ∧ Below w.heap.size w w' := by
  have HC := hideR HC
  go_enter Tryz.func74, Tryz.ntmps74
  go_wp2_with fail
  go_at_call 20
  refine (HC.out _).mono ?_
  rintro e w1 ⟨rfl, b1⟩
  have A1 := ((RateAt.new w n d dr).keep b1)
  have B1 := bup (bel1 w _) b1
  clear b1
  obtain ⟨_, a0, a1, a2⟩ := id A1
  go_wp2_with fail
  go_ret2
  exact ⟨rfl, B1⟩
set_option maxRecDepth 100000 in
set_option maxHeartbeats 2000000 in
theorem rnum_xf (n d f h m s x : Int) (l : List UInt8) (k1 k2 k3 k4 k5 k6 k7 wd : Nat) (b1 b2 b3 b4 b5 b6 : Bool) (w : World)
    (HC : ∀ w, Calls Tryz.prog 20 #[.agg #[.int .i64 n, .int .i64 d, .bool false]] w fun e w' => e = .returned (.int .i64 0) ∧ Below w.heap.size w w')
    (HF : ∀ w, Calls Tryz.prog 38 #[.agg #[.int .i64 n, .int .i64 d, .bool false]] w fun e w' => e = .returned (.int .i64 f) ∧ Below w.heap.size w w')
    (H1 : ∀ B w, RdAt w B l 0 false → Calls Tryz.prog 29 #[.pointer (some ⟨B, 0, none⟩), .int .i64 2] w fun e w' => e = .returned (.int .i64 h) ∧ RdAt w' B l k1 b1 ∧ Below B w w')
    (H2 : ∀ B w, RdAt w B l k1 b1 → Calls Tryz.prog 30 #[.pointer (some ⟨B, 0, none⟩), .int .u8 58] w fun e w' => e = .returned (.tuple #[]) ∧ RdAt w' B l k2 b2 ∧ Below B w w')
    (H3 : ∀ B w, RdAt w B l k2 b2 → Calls Tryz.prog 31 #[.pointer (some ⟨B, 0, none⟩)] w fun e w' => e = .returned (.int .i64 m) ∧ RdAt w' B l k3 b3 ∧ Below B w w')
    (H4 : ∀ B w, RdAt w B l k3 b3 → Calls Tryz.prog 30 #[.pointer (some ⟨B, 0, none⟩), .int .u8 58] w fun e w' => e = .returned (.tuple #[]) ∧ RdAt w' B l k4 b4 ∧ Below B w w')
    (H5 : ∀ B w, RdAt w B l k4 b4 → Calls Tryz.prog 31 #[.pointer (some ⟨B, 0, none⟩)] w fun e w' => e = .returned (.int .i64 s) ∧ RdAt w' B l k5 b5 ∧ Below B w w')
    (H6 : ∀ B w, RdAt w B l k5 b5 → Calls Tryz.prog 30 #[.pointer (some ⟨B, 0, none⟩), .int .u8 58] w fun e w' => e = .returned (.tuple #[]) ∧ RdAt w' B l k6 b6 ∧ Below B w w')
    (HV : ∀ w, Calls Tryz.prog 42 #[.int .i64 f] w fun e w' => e = .returned (.int .i64 (wd : Nat)) ∧ w' = w)
    (H7 : ∀ B w, RdAt w B l k6 b6 → Calls Tryz.prog 32 #[.pointer (some ⟨B, 0, none⟩), .int .i64 (wd : Nat)] w fun e w' => e = .returned (.int .i64 x) ∧ RdAt w' B l k7 true ∧ Below B w w') :
    Calls Tryz.prog 74 #[.agg #[.int .i64 n, .int .i64 d, .bool false], .string (bs l)] w fun e w' => e = .returned (.tuple #[.int .i64 0, .int .i64 13]) ∧ Below w.heap.size w w' := by
  have HC := hideR HC
  have HF := hideR HF
  have H1 := hideR H1
  have H2 := hideR H2
  have H3 := hideR H3
  have H4 := hideR H4
  have H5 := hideR H5
  have H6 := hideR H6
  have HV := hideR HV
  have H7 := hideR H7
  go_enter Tryz.func74, Tryz.ntmps74
  go_wp2_with fail
  go_at_call 20
  refine (HC.out _).mono ?_
  rintro e w1 ⟨rfl, b1⟩
  have A1 := ((RateAt.new w n d false).keep b1)
  have B1 := bup (bel1 w _) b1
  clear b1
  obtain ⟨_, a0, a1, a2⟩ := id A1
  go_wp2_with fail
  go_at_call 38
  refine (HF.out _).mono ?_
  rintro e w2 ⟨rfl, b2⟩
  have A2 := (A1.keep b2)
  have B2 := bup B1 b2
  clear A1 B1 a0 a1 a2
  clear b2
  obtain ⟨_, a0, a1, a2⟩ := id A2
  go_wp2_with fail
  have hAX := A2.1
  have X2 := RdAt.new w2 l
  have A2 := A2.alloc (.cells #[.string (bs l), .int .i64 0, .bool false] 66)
  have B2 := bup B2 (bel1 w2 (.cells #[.string (bs l), .int .i64 0, .bool false] 66))
  have hWX := B2.size
  go_at_call 29
  refine (H1.out _ _ X2).mono ?_
  rintro e w3 ⟨rfl, X3, b3⟩
  have A3 := A2.under b3 hAX
  have B3 := B2.trans (b3.mono (Nat.le_of_lt hAX))
  clear A2 B2 X2 b3  a0 a1 a2 H1
  clear hWX
  generalize w2.heap.size = X at *
  obtain ⟨_, a0, a1, a2⟩ := id A3
  obtain ⟨_, x0, x1, x2, x3, x4⟩ := id X3
  go_wp2_with fail
  go_at_call 30
  refine (H2.out _ _ X3).mono ?_
  rintro e w4 ⟨rfl, X4, b4⟩
  have A4 := A3.under b4 hAX
  have B4 := B3.trans (b4.mono (Nat.le_of_lt hAX))
  clear A3 B3 X3 b4 x0 x1 x2 x3 x4 a0 a1 a2 H2
  obtain ⟨_, a0, a1, a2⟩ := id A4
  obtain ⟨_, x0, x1, x2, x3, x4⟩ := id X4
  go_wp2_with fail
  go_at_call 31
  refine (H3.out _ _ X4).mono ?_
  rintro e w5 ⟨rfl, X5, b5⟩
  have A5 := A4.under b5 hAX
  have B5 := B4.trans (b5.mono (Nat.le_of_lt hAX))
  clear A4 B4 X4 b5 x0 x1 x2 x3 x4 a0 a1 a2 H3
  obtain ⟨_, a0, a1, a2⟩ := id A5
  obtain ⟨_, x0, x1, x2, x3, x4⟩ := id X5
  go_wp2_with fail
  go_at_call 30
  refine (H4.out _ _ X5).mono ?_
  rintro e w6 ⟨rfl, X6, b6⟩
  have A6 := A5.under b6 hAX
  have B6 := B5.trans (b6.mono (Nat.le_of_lt hAX))
  clear A5 B5 X5 b6 x0 x1 x2 x3 x4 a0 a1 a2 H4
  obtain ⟨_, a0, a1, a2⟩ := id A6
  obtain ⟨_, x0, x1, x2, x3, x4⟩ := id X6
  go_wp2_with fail
  go_at_call 31
  refine (H5.out _ _ X6).mono ?_
  rintro e w7 ⟨rfl, X7, b7⟩
  have A7 := A6.under b7 hAX
  have B7 := B6.trans (b7.mono (Nat.le_of_lt hAX))
  clear A6 B6 X6 b7 x0 x1 x2 x3 x4 a0 a1 a2 H5
  obtain ⟨_, a0, a1, a2⟩ := id A7
  obtain ⟨_, x0, x1, x2, x3, x4⟩ := id X7
  go_wp2_with fail
  go_at_call 30
  refine (H6.out _ _ X7).mono ?_
  rintro e w8 ⟨rfl, X8, b8⟩
  have A8 := A7.under b8 hAX
  have B8 := B7.trans (b8.mono (Nat.le_of_lt hAX))
  clear A7 B7 X7 b8 x0 x1 x2 x3 x4 a0 a1 a2 H6
  obtain ⟨_, a0, a1, a2⟩ := id A8
  obtain ⟨_, x0, x1, x2, x3, x4⟩ := id X8
  go_wp2_with fail
  go_at_call 42
  refine (HV.out _).mono ?_
  rintro e wv ⟨rfl, hwv⟩
  obtain rfl := hwv.symm
  go_wp2_with fail
  go_at_call 32
  refine (H7.out _ _ X8).mono ?_
  rintro e w9 ⟨rfl, X9, b9⟩
  have A9 := A8.under b9 hAX
  have B9 := B8.trans (b9.mono (Nat.le_of_lt hAX))
  clear A8 B8 X8 b9 x0 x1 x2 x3 x4 a0 a1 a2 H7
  obtain ⟨_, a0, a1, a2⟩ := id A9
  obtain ⟨_, x0, x1, x2, x3, x4⟩ := id X9
  go_wp2_with fail
  go_ret2
  exact ⟨rfl, B9⟩
set_option maxRecDepth 100000 in
set_option maxHeartbeats 2000000 in
theorem rnum_yf (n d f h m s x : Int) (l : List UInt8) (k1 k2 k3 k4 k5 k6 k7 wd : Nat) (b1 b2 b3 b4 b5 b6 : Bool) (hk : ((k7 : Int) != (l.length : Int)) = true) (w : World)
    (HC : ∀ w, Calls Tryz.prog 20 #[.agg #[.int .i64 n, .int .i64 d, .bool false]] w fun e w' => e = .returned (.int .i64 0) ∧ Below w.heap.size w w')
    (HF : ∀ w, Calls Tryz.prog 38 #[.agg #[.int .i64 n, .int .i64 d, .bool false]] w fun e w' => e = .returned (.int .i64 f) ∧ Below w.heap.size w w')
    (H1 : ∀ B w, RdAt w B l 0 false → Calls Tryz.prog 29 #[.pointer (some ⟨B, 0, none⟩), .int .i64 2] w fun e w' => e = .returned (.int .i64 h) ∧ RdAt w' B l k1 b1 ∧ Below B w w')
    (H2 : ∀ B w, RdAt w B l k1 b1 → Calls Tryz.prog 30 #[.pointer (some ⟨B, 0, none⟩), .int .u8 58] w fun e w' => e = .returned (.tuple #[]) ∧ RdAt w' B l k2 b2 ∧ Below B w w')
    (H3 : ∀ B w, RdAt w B l k2 b2 → Calls Tryz.prog 31 #[.pointer (some ⟨B, 0, none⟩)] w fun e w' => e = .returned (.int .i64 m) ∧ RdAt w' B l k3 b3 ∧ Below B w w')
    (H4 : ∀ B w, RdAt w B l k3 b3 → Calls Tryz.prog 30 #[.pointer (some ⟨B, 0, none⟩), .int .u8 58] w fun e w' => e = .returned (.tuple #[]) ∧ RdAt w' B l k4 b4 ∧ Below B w w')
    (H5 : ∀ B w, RdAt w B l k4 b4 → Calls Tryz.prog 31 #[.pointer (some ⟨B, 0, none⟩)] w fun e w' => e = .returned (.int .i64 s) ∧ RdAt w' B l k5 b5 ∧ Below B w w')
    (H6 : ∀ B w, RdAt w B l k5 b5 → Calls Tryz.prog 30 #[.pointer (some ⟨B, 0, none⟩), .int .u8 58] w fun e w' => e = .returned (.tuple #[]) ∧ RdAt w' B l k6 b6 ∧ Below B w w')
    (HV : ∀ w, Calls Tryz.prog 42 #[.int .i64 f] w fun e w' => e = .returned (.int .i64 (wd : Nat)) ∧ w' = w)
    (H7 : ∀ B w, RdAt w B l k6 b6 → Calls Tryz.prog 32 #[.pointer (some ⟨B, 0, none⟩), .int .i64 (wd : Nat)] w fun e w' => e = .returned (.int .i64 x) ∧ RdAt w' B l k7 false ∧ Below B w w') :
    Calls Tryz.prog 74 #[.agg #[.int .i64 n, .int .i64 d, .bool false], .string (bs l)] w fun e w' => e = .returned (.tuple #[.int .i64 0, .int .i64 13]) ∧ Below w.heap.size w w' := by
  have HC := hideR HC
  have HF := hideR HF
  have H1 := hideR H1
  have H2 := hideR H2
  have H3 := hideR H3
  have H4 := hideR H4
  have H5 := hideR H5
  have H6 := hideR H6
  have HV := hideR HV
  have H7 := hideR H7
  have hsz := bs_size l
  go_enter Tryz.func74, Tryz.ntmps74
  go_wp2_with fail
  go_at_call 20
  refine (HC.out _).mono ?_
  rintro e w1 ⟨rfl, b1⟩
  have A1 := ((RateAt.new w n d false).keep b1)
  have B1 := bup (bel1 w _) b1
  clear b1
  obtain ⟨_, a0, a1, a2⟩ := id A1
  go_wp2_with fail
  go_at_call 38
  refine (HF.out _).mono ?_
  rintro e w2 ⟨rfl, b2⟩
  have A2 := (A1.keep b2)
  have B2 := bup B1 b2
  clear A1 B1 a0 a1 a2
  clear b2
  obtain ⟨_, a0, a1, a2⟩ := id A2
  go_wp2_with fail
  have hAX := A2.1
  have X2 := RdAt.new w2 l
  have A2 := A2.alloc (.cells #[.string (bs l), .int .i64 0, .bool false] 66)
  have B2 := bup B2 (bel1 w2 (.cells #[.string (bs l), .int .i64 0, .bool false] 66))
  have hWX := B2.size
  go_at_call 29
  refine (H1.out _ _ X2).mono ?_
  rintro e w3 ⟨rfl, X3, b3⟩
  have A3 := A2.under b3 hAX
  have B3 := B2.trans (b3.mono (Nat.le_of_lt hAX))
  clear A2 B2 X2 b3  a0 a1 a2 H1
  clear hWX
  generalize w2.heap.size = X at *
  obtain ⟨_, a0, a1, a2⟩ := id A3
  obtain ⟨_, x0, x1, x2, x3, x4⟩ := id X3
  go_wp2_with fail
  go_at_call 30
  refine (H2.out _ _ X3).mono ?_
  rintro e w4 ⟨rfl, X4, b4⟩
  have A4 := A3.under b4 hAX
  have B4 := B3.trans (b4.mono (Nat.le_of_lt hAX))
  clear A3 B3 X3 b4 x0 x1 x2 x3 x4 a0 a1 a2 H2
  obtain ⟨_, a0, a1, a2⟩ := id A4
  obtain ⟨_, x0, x1, x2, x3, x4⟩ := id X4
  go_wp2_with fail
  go_at_call 31
  refine (H3.out _ _ X4).mono ?_
  rintro e w5 ⟨rfl, X5, b5⟩
  have A5 := A4.under b5 hAX
  have B5 := B4.trans (b5.mono (Nat.le_of_lt hAX))
  clear A4 B4 X4 b5 x0 x1 x2 x3 x4 a0 a1 a2 H3
  obtain ⟨_, a0, a1, a2⟩ := id A5
  obtain ⟨_, x0, x1, x2, x3, x4⟩ := id X5
  go_wp2_with fail
  go_at_call 30
  refine (H4.out _ _ X5).mono ?_
  rintro e w6 ⟨rfl, X6, b6⟩
  have A6 := A5.under b6 hAX
  have B6 := B5.trans (b6.mono (Nat.le_of_lt hAX))
  clear A5 B5 X5 b6 x0 x1 x2 x3 x4 a0 a1 a2 H4
  obtain ⟨_, a0, a1, a2⟩ := id A6
  obtain ⟨_, x0, x1, x2, x3, x4⟩ := id X6
  go_wp2_with fail
  go_at_call 31
  refine (H5.out _ _ X6).mono ?_
  rintro e w7 ⟨rfl, X7, b7⟩
  have A7 := A6.under b7 hAX
  have B7 := B6.trans (b7.mono (Nat.le_of_lt hAX))
  clear A6 B6 X6 b7 x0 x1 x2 x3 x4 a0 a1 a2 H5
  obtain ⟨_, a0, a1, a2⟩ := id A7
  obtain ⟨_, x0, x1, x2, x3, x4⟩ := id X7
  go_wp2_with fail
  go_at_call 30
  refine (H6.out _ _ X7).mono ?_
  rintro e w8 ⟨rfl, X8, b8⟩
  have A8 := A7.under b8 hAX
  have B8 := B7.trans (b8.mono (Nat.le_of_lt hAX))
  clear A7 B7 X7 b8 x0 x1 x2 x3 x4 a0 a1 a2 H6
  obtain ⟨_, a0, a1, a2⟩ := id A8
  obtain ⟨_, x0, x1, x2, x3, x4⟩ := id X8
  go_wp2_with fail
  go_at_call 42
  refine (HV.out _).mono ?_
  rintro e wv ⟨rfl, hwv⟩
  obtain rfl := hwv.symm
  go_wp2_with fail
  go_at_call 32
  refine (H7.out _ _ X8).mono ?_
  rintro e w9 ⟨rfl, X9, b9⟩
  have A9 := A8.under b9 hAX
  have B9 := B8.trans (b9.mono (Nat.le_of_lt hAX))
  clear A8 B8 X8 b9 x0 x1 x2 x3 x4 a0 a1 a2 H7
  obtain ⟨_, a0, a1, a2⟩ := id A9
  obtain ⟨_, x0, x1, x2, x3, x4⟩ := id X9
  go_wp2_with fail
  go_ret2
  exact ⟨rfl, B9⟩
set_option maxRecDepth 100000 in
set_option maxHeartbeats 2000000 in
theorem rnum_zf (n d f h m s x : Int) (l : List UInt8) (k1 k2 k3 k4 k5 k6 wd : Nat) (b1 b2 b3 b4 b5 b6 : Bool) (hx : f ≤ x) (w : World)
    (HC : ∀ w, Calls Tryz.prog 20 #[.agg #[.int .i64 n, .int .i64 d, .bool false]] w fun e w' => e = .returned (.int .i64 0) ∧ Below w.heap.size w w')
    (HF : ∀ w, Calls Tryz.prog 38 #[.agg #[.int .i64 n, .int .i64 d, .bool false]] w fun e w' => e = .returned (.int .i64 f) ∧ Below w.heap.size w w')
    (H1 : ∀ B w, RdAt w B l 0 false → Calls Tryz.prog 29 #[.pointer (some ⟨B, 0, none⟩), .int .i64 2] w fun e w' => e = .returned (.int .i64 h) ∧ RdAt w' B l k1 b1 ∧ Below B w w')
    (H2 : ∀ B w, RdAt w B l k1 b1 → Calls Tryz.prog 30 #[.pointer (some ⟨B, 0, none⟩), .int .u8 58] w fun e w' => e = .returned (.tuple #[]) ∧ RdAt w' B l k2 b2 ∧ Below B w w')
    (H3 : ∀ B w, RdAt w B l k2 b2 → Calls Tryz.prog 31 #[.pointer (some ⟨B, 0, none⟩)] w fun e w' => e = .returned (.int .i64 m) ∧ RdAt w' B l k3 b3 ∧ Below B w w')
    (H4 : ∀ B w, RdAt w B l k3 b3 → Calls Tryz.prog 30 #[.pointer (some ⟨B, 0, none⟩), .int .u8 58] w fun e w' => e = .returned (.tuple #[]) ∧ RdAt w' B l k4 b4 ∧ Below B w w')
    (H5 : ∀ B w, RdAt w B l k4 b4 → Calls Tryz.prog 31 #[.pointer (some ⟨B, 0, none⟩)] w fun e w' => e = .returned (.int .i64 s) ∧ RdAt w' B l k5 b5 ∧ Below B w w')
    (H6 : ∀ B w, RdAt w B l k5 b5 → Calls Tryz.prog 30 #[.pointer (some ⟨B, 0, none⟩), .int .u8 58] w fun e w' => e = .returned (.tuple #[]) ∧ RdAt w' B l k6 b6 ∧ Below B w w')
    (HV : ∀ w, Calls Tryz.prog 42 #[.int .i64 f] w fun e w' => e = .returned (.int .i64 (wd : Nat)) ∧ w' = w)
    (H7 : ∀ B w, RdAt w B l k6 b6 → Calls Tryz.prog 32 #[.pointer (some ⟨B, 0, none⟩), .int .i64 (wd : Nat)] w fun e w' => e = .returned (.int .i64 x) ∧ RdAt w' B l l.length false ∧ Below B w w') :
    Calls Tryz.prog 74 #[.agg #[.int .i64 n, .int .i64 d, .bool false], .string (bs l)] w fun e w' => e = .returned (.tuple #[.int .i64 0, .int .i64 13]) ∧ Below w.heap.size w w' := by
  have HC := hideR HC
  have HF := hideR HF
  have H1 := hideR H1
  have H2 := hideR H2
  have H3 := hideR H3
  have H4 := hideR H4
  have H5 := hideR H5
  have H6 := hideR H6
  have HV := hideR HV
  have H7 := hideR H7
  have hsz := bs_size l
  go_enter Tryz.func74, Tryz.ntmps74
  go_wp2_with fail
  go_at_call 20
  refine (HC.out _).mono ?_
  rintro e w1 ⟨rfl, b1⟩
  have A1 := ((RateAt.new w n d false).keep b1)
  have B1 := bup (bel1 w _) b1
  clear b1
  obtain ⟨_, a0, a1, a2⟩ := id A1
  go_wp2_with fail
  go_at_call 38
  refine (HF.out _).mono ?_
  rintro e w2 ⟨rfl, b2⟩
  have A2 := (A1.keep b2)
  have B2 := bup B1 b2
  clear A1 B1 a0 a1 a2
  clear b2
  obtain ⟨_, a0, a1, a2⟩ := id A2
  go_wp2_with fail
  have hAX := A2.1
  have X2 := RdAt.new w2 l
  have A2 := A2.alloc (.cells #[.string (bs l), .int .i64 0, .bool false] 66)
  have B2 := bup B2 (bel1 w2 (.cells #[.string (bs l), .int .i64 0, .bool false] 66))
  have hWX := B2.size
  go_at_call 29
  refine (H1.out _ _ X2).mono ?_
  rintro e w3 ⟨rfl, X3, b3⟩
  have A3 := A2.under b3 hAX
  have B3 := B2.trans (b3.mono (Nat.le_of_lt hAX))
  clear A2 B2 X2 b3  a0 a1 a2 H1
  clear hWX
  generalize w2.heap.size = X at *
  obtain ⟨_, a0, a1, a2⟩ := id A3
  obtain ⟨_, x0, x1, x2, x3, x4⟩ := id X3
  go_wp2_with fail
  go_at_call 30
  refine (H2.out _ _ X3).mono ?_
  rintro e w4 ⟨rfl, X4, b4⟩
  have A4 := A3.under b4 hAX
  have B4 := B3.trans (b4.mono (Nat.le_of_lt hAX))
  clear A3 B3 X3 b4 x0 x1 x2 x3 x4 a0 a1 a2 H2
  obtain ⟨_, a0, a1, a2⟩ := id A4
  obtain ⟨_, x0, x1, x2, x3, x4⟩ := id X4
  go_wp2_with fail
  go_at_call 31
  refine (H3.out _ _ X4).mono ?_
  rintro e w5 ⟨rfl, X5, b5⟩
  have A5 := A4.under b5 hAX
  have B5 := B4.trans (b5.mono (Nat.le_of_lt hAX))
  clear A4 B4 X4 b5 x0 x1 x2 x3 x4 a0 a1 a2 H3
  obtain ⟨_, a0, a1, a2⟩ := id A5
  obtain ⟨_, x0, x1, x2, x3, x4⟩ := id X5
  go_wp2_with fail
  go_at_call 30
  refine (H4.out _ _ X5).mono ?_
  rintro e w6 ⟨rfl, X6, b6⟩
  have A6 := A5.under b6 hAX
  have B6 := B5.trans (b6.mono (Nat.le_of_lt hAX))
  clear A5 B5 X5 b6 x0 x1 x2 x3 x4 a0 a1 a2 H4
  obtain ⟨_, a0, a1, a2⟩ := id A6
  obtain ⟨_, x0, x1, x2, x3, x4⟩ := id X6
  go_wp2_with fail
  go_at_call 31
  refine (H5.out _ _ X6).mono ?_
  rintro e w7 ⟨rfl, X7, b7⟩
  have A7 := A6.under b7 hAX
  have B7 := B6.trans (b7.mono (Nat.le_of_lt hAX))
  clear A6 B6 X6 b7 x0 x1 x2 x3 x4 a0 a1 a2 H5
  obtain ⟨_, a0, a1, a2⟩ := id A7
  obtain ⟨_, x0, x1, x2, x3, x4⟩ := id X7
  go_wp2_with fail
  go_at_call 30
  refine (H6.out _ _ X7).mono ?_
  rintro e w8 ⟨rfl, X8, b8⟩
  have A8 := A7.under b8 hAX
  have B8 := B7.trans (b8.mono (Nat.le_of_lt hAX))
  clear A7 B7 X7 b8 x0 x1 x2 x3 x4 a0 a1 a2 H6
  obtain ⟨_, a0, a1, a2⟩ := id A8
  obtain ⟨_, x0, x1, x2, x3, x4⟩ := id X8
  go_wp2_with fail
  go_at_call 42
  refine (HV.out _).mono ?_
  rintro e wv ⟨rfl, hwv⟩
  obtain rfl := hwv.symm
  go_wp2_with fail
  go_at_call 32
  refine (H7.out _ _ X8).mono ?_
  rintro e w9 ⟨rfl, X9, b9⟩
  have A9 := A8.under b9 hAX
  have B9 := B8.trans (b9.mono (Nat.le_of_lt hAX))
  clear A8 B8 X8 b9 x0 x1 x2 x3 x4 a0 a1 a2 H7
  obtain ⟨_, a0, a1, a2⟩ := id A9
  obtain ⟨_, x0, x1, x2, x3, x4⟩ := id X9
  go_wp2_with fail
  go_ret2
  exact ⟨rfl, B9⟩
set_option maxRecDepth 100000 in
set_option maxHeartbeats 2000000 in
theorem rnum_df (n d f h m x : Int) (l : List UInt8) (k1 k2 k3 k4 k5 k6 wd : Nat) (b1 b2 b3 b4 b5 b6 : Bool) (u : Int) (hx : x < f) (hu : x < u) (w : World)
    (HC : ∀ w, Calls Tryz.prog 20 #[.agg #[.int .i64 n, .int .i64 d, .bool false]] w fun e w' => e = .returned (.int .i64 0) ∧ Below w.heap.size w w')
    (HF : ∀ w, Calls Tryz.prog 38 #[.agg #[.int .i64 n, .int .i64 d, .bool false]] w fun e w' => e = .returned (.int .i64 f) ∧ Below w.heap.size w w')
    (H1 : ∀ B w, RdAt w B l 0 false → Calls Tryz.prog 29 #[.pointer (some ⟨B, 0, none⟩), .int .i64 2] w fun e w' => e = .returned (.int .i64 h) ∧ RdAt w' B l k1 b1 ∧ Below B w w')
    (H2 : ∀ B w, RdAt w B l k1 b1 → Calls Tryz.prog 30 #[.pointer (some ⟨B, 0, none⟩), .int .u8 58] w fun e w' => e = .returned (.tuple #[]) ∧ RdAt w' B l k2 b2 ∧ Below B w w')
    (H3 : ∀ B w, RdAt w B l k2 b2 → Calls Tryz.prog 31 #[.pointer (some ⟨B, 0, none⟩)] w fun e w' => e = .returned (.int .i64 m) ∧ RdAt w' B l k3 b3 ∧ Below B w w')
    (H4 : ∀ B w, RdAt w B l k3 b3 → Calls Tryz.prog 30 #[.pointer (some ⟨B, 0, none⟩), .int .u8 58] w fun e w' => e = .returned (.tuple #[]) ∧ RdAt w' B l k4 b4 ∧ Below B w w')
    (H5 : ∀ B w, RdAt w B l k4 b4 → Calls Tryz.prog 31 #[.pointer (some ⟨B, 0, none⟩)] w fun e w' => e = .returned (.int .i64 0) ∧ RdAt w' B l k5 b5 ∧ Below B w w')
    (H6 : ∀ B w, RdAt w B l k5 b5 → Calls Tryz.prog 30 #[.pointer (some ⟨B, 0, none⟩), .int .u8 58] w fun e w' => e = .returned (.tuple #[]) ∧ RdAt w' B l k6 b6 ∧ Below B w w')
    (HV : ∀ w, Calls Tryz.prog 42 #[.int .i64 f] w fun e w' => e = .returned (.int .i64 (wd : Nat)) ∧ w' = w)
    (H7 : ∀ B w, RdAt w B l k6 b6 → Calls Tryz.prog 32 #[.pointer (some ⟨B, 0, none⟩), .int .i64 (wd : Nat)] w fun e w' => e = .returned (.int .i64 x) ∧ RdAt w' B l l.length false ∧ Below B w w')
    (HO : ∀ w, Calls Tryz.prog 40 #[.agg #[.int .i64 n, .int .i64 d, .bool false], .int .i64 m] w fun e w' => e = .returned (.int .i64 u) ∧ Below w.heap.size w w') :
    Calls Tryz.prog 74 #[.agg #[.int .i64 n, .int .i64 d, .bool false], .string (bs l)] w fun e w' => e = .returned (.tuple #[.int .i64 0, .int .i64 15]) ∧ Below w.heap.size w w' := by
  have HC := hideR HC
  have HF := hideR HF
  have H1 := hideR H1
  have H2 := hideR H2
  have H3 := hideR H3
  have H4 := hideR H4
  have H5 := hideR H5
  have H6 := hideR H6
  have HV := hideR HV
  have H7 := hideR H7
  have HO := hideR HO
  have hsz := bs_size l
  go_enter Tryz.func74, Tryz.ntmps74
  go_wp2_with fail
  go_at_call 20
  refine (HC.out _).mono ?_
  rintro e w1 ⟨rfl, b1⟩
  have A1 := ((RateAt.new w n d false).keep b1)
  have B1 := bup (bel1 w _) b1
  clear b1
  obtain ⟨_, a0, a1, a2⟩ := id A1
  go_wp2_with fail
  go_at_call 38
  refine (HF.out _).mono ?_
  rintro e w2 ⟨rfl, b2⟩
  have A2 := (A1.keep b2)
  have B2 := bup B1 b2
  clear A1 B1 a0 a1 a2
  clear b2
  obtain ⟨_, a0, a1, a2⟩ := id A2
  go_wp2_with fail
  have hAX := A2.1
  have X2 := RdAt.new w2 l
  have A2 := A2.alloc (.cells #[.string (bs l), .int .i64 0, .bool false] 66)
  have B2 := bup B2 (bel1 w2 (.cells #[.string (bs l), .int .i64 0, .bool false] 66))
  have hWX := B2.size
  go_at_call 29
  refine (H1.out _ _ X2).mono ?_
  rintro e w3 ⟨rfl, X3, b3⟩
  have A3 := A2.under b3 hAX
  have B3 := B2.trans (b3.mono (Nat.le_of_lt hAX))
  clear A2 B2 X2 b3  a0 a1 a2 H1
  clear hWX
  generalize w2.heap.size = X at *
  obtain ⟨_, a0, a1, a2⟩ := id A3
  obtain ⟨_, x0, x1, x2, x3, x4⟩ := id X3
  go_wp2_with fail
  go_at_call 30
  refine (H2.out _ _ X3).mono ?_
  rintro e w4 ⟨rfl, X4, b4⟩
  have A4 := A3.under b4 hAX
  have B4 := B3.trans (b4.mono (Nat.le_of_lt hAX))
  clear A3 B3 X3 b4 x0 x1 x2 x3 x4 a0 a1 a2 H2
  obtain ⟨_, a0, a1, a2⟩ := id A4
  obtain ⟨_, x0, x1, x2, x3, x4⟩ := id X4
  go_wp2_with fail
  go_at_call 31
  refine (H3.out _ _ X4).mono ?_
  rintro e w5 ⟨rfl, X5, b5⟩
  have A5 := A4.under b5 hAX
  have B5 := B4.trans (b5.mono (Nat.le_of_lt hAX))
  clear A4 B4 X4 b5 x0 x1 x2 x3 x4 a0 a1 a2 H3
  obtain ⟨_, a0, a1, a2⟩ := id A5
  obtain ⟨_, x0, x1, x2, x3, x4⟩ := id X5
  go_wp2_with fail
  go_at_call 30
  refine (H4.out _ _ X5).mono ?_
  rintro e w6 ⟨rfl, X6, b6⟩
  have A6 := A5.under b6 hAX
  have B6 := B5.trans (b6.mono (Nat.le_of_lt hAX))
  clear A5 B5 X5 b6 x0 x1 x2 x3 x4 a0 a1 a2 H4
  obtain ⟨_, a0, a1, a2⟩ := id A6
  obtain ⟨_, x0, x1, x2, x3, x4⟩ := id X6
  go_wp2_with fail
  go_at_call 31
  refine (H5.out _ _ X6).mono ?_
  rintro e w7 ⟨rfl, X7, b7⟩
  have A7 := A6.under b7 hAX
  have B7 := B6.trans (b7.mono (Nat.le_of_lt hAX))
  clear A6 B6 X6 b7 x0 x1 x2 x3 x4 a0 a1 a2 H5
  obtain ⟨_, a0, a1, a2⟩ := id A7
  obtain ⟨_, x0, x1, x2, x3, x4⟩ := id X7
  go_wp2_with fail
  go_at_call 30
  refine (H6.out _ _ X7).mono ?_
  rintro e w8 ⟨rfl, X8, b8⟩
  have A8 := A7.under b8 hAX
  have B8 := B7.trans (b8.mono (Nat.le_of_lt hAX))
  clear A7 B7 X7 b8 x0 x1 x2 x3 x4 a0 a1 a2 H6
  obtain ⟨_, a0, a1, a2⟩ := id A8
  obtain ⟨_, x0, x1, x2, x3, x4⟩ := id X8
  go_wp2_with fail
  go_at_call 42
  refine (HV.out _).mono ?_
  rintro e wv ⟨rfl, hwv⟩
  obtain rfl := hwv.symm
  go_wp2_with fail
  go_at_call 32
  refine (H7.out _ _ X8).mono ?_
  rintro e w9 ⟨rfl, X9, b9⟩
  have A9 := A8.under b9 hAX
  have B9 := B8.trans (b9.mono (Nat.le_of_lt hAX))
  clear A8 B8 X8 b9 x0 x1 x2 x3 x4 a0 a1 a2 H7
  obtain ⟨_, a0, a1, a2⟩ := id A9
  obtain ⟨_, x0, x1, x2, x3, x4⟩ := id X9
  go_wp2_with fail
  go_at_call 40
  refine (HO.out _).mono ?_
  rintro e w10 ⟨rfl, b10⟩
  have A10 := A9.keep b10
  have B10 := bup B9 b10
  clear A9 B9 b10 a0 a1 a2 HO
  obtain ⟨_, a0, a1, a2⟩ := id A10
  go_wp2_with fail
  go_ret2
  exact ⟨rfl, B10⟩
set_option maxRecDepth 100000 in
set_option maxHeartbeats 2000000 in
theorem rnum_t0f (n d f h m s x : Int) (l : List UInt8) (k1 k2 k3 k4 k5 k6 wd : Nat) (b1 b2 b3 b4 b5 b6 : Bool) (lf la u M V D Lm fr : Int) (hh : 0 ≤ h ∧ h ≤ 1000) (hm : 0 ≤ m ∧ m ≤ 1000) (hs : 0 ≤ s ∧ s ≤ 1000) (hx : 0 ≤ x ∧ x ≤ 1000) (hf : 0 ≤ f ∧ f ≤ 1000) (hM : 60 * h + m = M) (hV : (60 * M + s) * f = V) (hV0 : 0 ≤ V ∧ V ≤ 100000000000) (hD : M / 10 = D) (hL : lf * (M - D) = Lm) (hL0 : 0 ≤ Lm ∧ Lm ≤ 100000000) (hfr : V + x - Lm = fr) (hxf : x < f) (hs0 : s = 0) (hu : u ≤ x) (ht : la < fr) (w : World)
    (HC : ∀ w, Calls Tryz.prog 20 #[.agg #[.int .i64 n, .int .i64 d, .bool false]] w fun e w' => e = .returned (.int .i64 0) ∧ Below w.heap.size w w')
    (HF : ∀ w, Calls Tryz.prog 38 #[.agg #[.int .i64 n, .int .i64 d, .bool false]] w fun e w' => e = .returned (.int .i64 f) ∧ Below w.heap.size w w')
    (H1 : ∀ B w, RdAt w B l 0 false → Calls Tryz.prog 29 #[.pointer (some ⟨B, 0, none⟩), .int .i64 2] w fun e w' => e = .returned (.int .i64 h) ∧ RdAt w' B l k1 b1 ∧ Below B w w')
    (H2 : ∀ B w, RdAt w B l k1 b1 → Calls Tryz.prog 30 #[.pointer (some ⟨B, 0, none⟩), .int .u8 58] w fun e w' => e = .returned (.tuple #[]) ∧ RdAt w' B l k2 b2 ∧ Below B w w')
    (H3 : ∀ B w, RdAt w B l k2 b2 → Calls Tryz.prog 31 #[.pointer (some ⟨B, 0, none⟩)] w fun e w' => e = .returned (.int .i64 m) ∧ RdAt w' B l k3 b3 ∧ Below B w w')
    (H4 : ∀ B w, RdAt w B l k3 b3 → Calls Tryz.prog 30 #[.pointer (some ⟨B, 0, none⟩), .int .u8 58] w fun e w' => e = .returned (.tuple #[]) ∧ RdAt w' B l k4 b4 ∧ Below B w w')
    (H5 : ∀ B w, RdAt w B l k4 b4 → Calls Tryz.prog 31 #[.pointer (some ⟨B, 0, none⟩)] w fun e w' => e = .returned (.int .i64 s) ∧ RdAt w' B l k5 b5 ∧ Below B w w')
    (H6 : ∀ B w, RdAt w B l k5 b5 → Calls Tryz.prog 30 #[.pointer (some ⟨B, 0, none⟩), .int .u8 58] w fun e w' => e = .returned (.tuple #[]) ∧ RdAt w' B l k6 b6 ∧ Below B w w')
    (HV : ∀ w, Calls Tryz.prog 42 #[.int .i64 f] w fun e w' => e = .returned (.int .i64 (wd : Nat)) ∧ w' = w)
    (H7 : ∀ B w, RdAt w B l k6 b6 → Calls Tryz.prog 32 #[.pointer (some ⟨B, 0, none⟩), .int .i64 (wd : Nat)] w fun e w' => e = .returned (.int .i64 x) ∧ RdAt w' B l l.length false ∧ Below B w w')
    (HO : ∀ w, Calls Tryz.prog 40 #[.agg #[.int .i64 n, .int .i64 d, .bool false], .int .i64 m] w fun e w' => e = .returned (.int .i64 u) ∧ Below w.heap.size w w')
    (HL : ∀ w, Calls Tryz.prog 39 #[.agg #[.int .i64 n, .int .i64 d, .bool false]] w fun e w' => e = .returned (.int .i64 lf) ∧ Below w.heap.size w w')
    (HA : ∀ w, Calls Tryz.prog 37 #[.agg #[.int .i64 n, .int .i64 d, .bool false]] w fun e w' => e = .returned (.int .i64 la) ∧ Below w.heap.size w w') :
    Calls Tryz.prog 74 #[.agg #[.int .i64 n, .int .i64 d, .bool false], .string (bs l)] w fun e w' => e = .returned (.tuple #[.int .i64 0, .int .i64 31]) ∧ Below w.heap.size w w' := by
  have HC := hideR HC
  have HF := hideR HF
  have H1 := hideR H1
  have H2 := hideR H2
  have H3 := hideR H3
  have H4 := hideR H4
  have H5 := hideR H5
  have H6 := hideR H6
  have HV := hideR HV
  have H7 := hideR H7
  have HO := hideR HO
  have HL := hideR HL
  have HA := hideR HA
  have hsz := bs_size l
  subst hs0
  rw [Int.add_zero] at hV
  go_enter Tryz.func74, Tryz.ntmps74
  go_wp2_with fail
  go_at_call 20
  refine (HC.out _).mono ?_
  rintro e w1 ⟨rfl, b1⟩
  have A1 := ((RateAt.new w n d false).keep b1)
  have B1 := bup (bel1 w _) b1
  clear b1
  obtain ⟨_, a0, a1, a2⟩ := id A1
  go_wp2_with fail
  go_at_call 38
  refine (HF.out _).mono ?_
  rintro e w2 ⟨rfl, b2⟩
  have A2 := (A1.keep b2)
  have B2 := bup B1 b2
  clear A1 B1 a0 a1 a2
  clear b2
  obtain ⟨_, a0, a1, a2⟩ := id A2
  go_wp2_with fail
  have hAX := A2.1
  have X2 := RdAt.new w2 l
  have A2 := A2.alloc (.cells #[.string (bs l), .int .i64 0, .bool false] 66)
  have B2 := bup B2 (bel1 w2 (.cells #[.string (bs l), .int .i64 0, .bool false] 66))
  have hWX := B2.size
  go_at_call 29
  refine (H1.out _ _ X2).mono ?_
  rintro e w3 ⟨rfl, X3, b3⟩
  have A3 := A2.under b3 hAX
  have B3 := B2.trans (b3.mono (Nat.le_of_lt hAX))
  clear A2 B2 X2 b3  a0 a1 a2 H1
  clear hWX
  generalize w2.heap.size = X at *
  obtain ⟨_, a0, a1, a2⟩ := id A3
  obtain ⟨_, x0, x1, x2, x3, x4⟩ := id X3
  go_wp2_with fail
  go_at_call 30
  refine (H2.out _ _ X3).mono ?_
  rintro e w4 ⟨rfl, X4, b4⟩
  have A4 := A3.under b4 hAX
  have B4 := B3.trans (b4.mono (Nat.le_of_lt hAX))
  clear A3 B3 X3 b4 x0 x1 x2 x3 x4 a0 a1 a2 H2
  obtain ⟨_, a0, a1, a2⟩ := id A4
  obtain ⟨_, x0, x1, x2, x3, x4⟩ := id X4
  go_wp2_with fail
  go_at_call 31
  refine (H3.out _ _ X4).mono ?_
  rintro e w5 ⟨rfl, X5, b5⟩
  have A5 := A4.under b5 hAX
  have B5 := B4.trans (b5.mono (Nat.le_of_lt hAX))
  clear A4 B4 X4 b5 x0 x1 x2 x3 x4 a0 a1 a2 H3
  obtain ⟨_, a0, a1, a2⟩ := id A5
  obtain ⟨_, x0, x1, x2, x3, x4⟩ := id X5
  go_wp2_with fail
  go_at_call 30
  refine (H4.out _ _ X5).mono ?_
  rintro e w6 ⟨rfl, X6, b6⟩
  have A6 := A5.under b6 hAX
  have B6 := B5.trans (b6.mono (Nat.le_of_lt hAX))
  clear A5 B5 X5 b6 x0 x1 x2 x3 x4 a0 a1 a2 H4
  obtain ⟨_, a0, a1, a2⟩ := id A6
  obtain ⟨_, x0, x1, x2, x3, x4⟩ := id X6
  go_wp2_with fail
  go_at_call 31
  refine (H5.out _ _ X6).mono ?_
  rintro e w7 ⟨rfl, X7, b7⟩
  have A7 := A6.under b7 hAX
  have B7 := B6.trans (b7.mono (Nat.le_of_lt hAX))
  clear A6 B6 X6 b7 x0 x1 x2 x3 x4 a0 a1 a2 H5
  obtain ⟨_, a0, a1, a2⟩ := id A7
  obtain ⟨_, x0, x1, x2, x3, x4⟩ := id X7
  go_wp2_with fail
  go_at_call 30
  refine (H6.out _ _ X7).mono ?_
  rintro e w8 ⟨rfl, X8, b8⟩
  have A8 := A7.under b8 hAX
  have B8 := B7.trans (b8.mono (Nat.le_of_lt hAX))
  clear A7 B7 X7 b8 x0 x1 x2 x3 x4 a0 a1 a2 H6
  obtain ⟨_, a0, a1, a2⟩ := id A8
  obtain ⟨_, x0, x1, x2, x3, x4⟩ := id X8
  go_wp2_with fail
  go_at_call 42
  refine (HV.out _).mono ?_
  rintro e wv ⟨rfl, hwv⟩
  obtain rfl := hwv.symm
  go_wp2_with fail
  go_at_call 32
  refine (H7.out _ _ X8).mono ?_
  rintro e w9 ⟨rfl, X9, b9⟩
  have A9 := A8.under b9 hAX
  have B9 := B8.trans (b9.mono (Nat.le_of_lt hAX))
  clear A8 B8 X8 b9 x0 x1 x2 x3 x4 a0 a1 a2 H7
  obtain ⟨_, a0, a1, a2⟩ := id A9
  obtain ⟨_, x0, x1, x2, x3, x4⟩ := id X9
  go_wp2_with fail
  go_at_call 40
  refine (HO.out _).mono ?_
  rintro e w10 ⟨rfl, b10⟩
  have A10 := A9.keep b10
  have B10 := bup B9 b10
  clear A9 B9 b10 a0 a1 a2 HO
  obtain ⟨_, a0, a1, a2⟩ := id A10
  go_wp2_with fail
  go_at_call 39
  refine (HL.out _).mono ?_
  rintro e w11 ⟨rfl, b11⟩
  have A11 := A10.keep b11
  have B11 := bup B10 b11
  clear A10 B10 b11 a0 a1 a2 HL
  obtain ⟨_, a0, a1, a2⟩ := id A11
  go_wp2_with fail
  go_at_call 37
  refine (HA.out _).mono ?_
  rintro e w12 ⟨rfl, b12⟩
  have A12 := A11.keep b12
  have B12 := bup B11 b12
  clear A11 B11 b12 a0 a1 a2 HA
  obtain ⟨_, a0, a1, a2⟩ := id A12
  go_wp2_with fail
  go_ret2
  exact ⟨rfl, B12⟩
set_option maxRecDepth 100000 in
set_option maxHeartbeats 2000000 in
theorem rnum_k0f (n d f h m s x : Int) (l : List UInt8) (k1 k2 k3 k4 k5 k6 wd : Nat) (b1 b2 b3 b4 b5 b6 : Bool) (lf la u M V D Lm fr : Int) (hh : 0 ≤ h ∧ h ≤ 1000) (hm : 0 ≤ m ∧ m ≤ 1000) (hs : 0 ≤ s ∧ s ≤ 1000) (hx : 0 ≤ x ∧ x ≤ 1000) (hf : 0 ≤ f ∧ f ≤ 1000) (hM : 60 * h + m = M) (hV : (60 * M + s) * f = V) (hV0 : 0 ≤ V ∧ V ≤ 100000000000) (hD : M / 10 = D) (hL : lf * (M - D) = Lm) (hL0 : 0 ≤ Lm ∧ Lm ≤ 100000000) (hfr : V + x - Lm = fr) (hxf : x < f) (hs0 : s = 0) (hu : u ≤ x) (ht : fr ≤ la) (w : World)
    (HC : ∀ w, Calls Tryz.prog 20 #[.agg #[.int .i64 n, .int .i64 d, .bool false]] w fun e w' => e = .returned (.int .i64 0) ∧ Below w.heap.size w w')
    (HF : ∀ w, Calls Tryz.prog 38 #[.agg #[.int .i64 n, .int .i64 d, .bool false]] w fun e w' => e = .returned (.int .i64 f) ∧ Below w.heap.size w w')
    (H1 : ∀ B w, RdAt w B l 0 false → Calls Tryz.prog 29 #[.pointer (some ⟨B, 0, none⟩), .int .i64 2] w fun e w' => e = .returned (.int .i64 h) ∧ RdAt w' B l k1 b1 ∧ Below B w w')
    (H2 : ∀ B w, RdAt w B l k1 b1 → Calls Tryz.prog 30 #[.pointer (some ⟨B, 0, none⟩), .int .u8 58] w fun e w' => e = .returned (.tuple #[]) ∧ RdAt w' B l k2 b2 ∧ Below B w w')
    (H3 : ∀ B w, RdAt w B l k2 b2 → Calls Tryz.prog 31 #[.pointer (some ⟨B, 0, none⟩)] w fun e w' => e = .returned (.int .i64 m) ∧ RdAt w' B l k3 b3 ∧ Below B w w')
    (H4 : ∀ B w, RdAt w B l k3 b3 → Calls Tryz.prog 30 #[.pointer (some ⟨B, 0, none⟩), .int .u8 58] w fun e w' => e = .returned (.tuple #[]) ∧ RdAt w' B l k4 b4 ∧ Below B w w')
    (H5 : ∀ B w, RdAt w B l k4 b4 → Calls Tryz.prog 31 #[.pointer (some ⟨B, 0, none⟩)] w fun e w' => e = .returned (.int .i64 s) ∧ RdAt w' B l k5 b5 ∧ Below B w w')
    (H6 : ∀ B w, RdAt w B l k5 b5 → Calls Tryz.prog 30 #[.pointer (some ⟨B, 0, none⟩), .int .u8 58] w fun e w' => e = .returned (.tuple #[]) ∧ RdAt w' B l k6 b6 ∧ Below B w w')
    (HV : ∀ w, Calls Tryz.prog 42 #[.int .i64 f] w fun e w' => e = .returned (.int .i64 (wd : Nat)) ∧ w' = w)
    (H7 : ∀ B w, RdAt w B l k6 b6 → Calls Tryz.prog 32 #[.pointer (some ⟨B, 0, none⟩), .int .i64 (wd : Nat)] w fun e w' => e = .returned (.int .i64 x) ∧ RdAt w' B l l.length false ∧ Below B w w')
    (HO : ∀ w, Calls Tryz.prog 40 #[.agg #[.int .i64 n, .int .i64 d, .bool false], .int .i64 m] w fun e w' => e = .returned (.int .i64 u) ∧ Below w.heap.size w w')
    (HL : ∀ w, Calls Tryz.prog 39 #[.agg #[.int .i64 n, .int .i64 d, .bool false]] w fun e w' => e = .returned (.int .i64 lf) ∧ Below w.heap.size w w')
    (HA : ∀ w, Calls Tryz.prog 37 #[.agg #[.int .i64 n, .int .i64 d, .bool false]] w fun e w' => e = .returned (.int .i64 la) ∧ Below w.heap.size w w') :
    Calls Tryz.prog 74 #[.agg #[.int .i64 n, .int .i64 d, .bool false], .string (bs l)] w fun e w' => e = .returned (.tuple #[.int .i64 fr, .int .i64 0]) ∧ Below w.heap.size w w' := by
  have HC := hideR HC
  have HF := hideR HF
  have H1 := hideR H1
  have H2 := hideR H2
  have H3 := hideR H3
  have H4 := hideR H4
  have H5 := hideR H5
  have H6 := hideR H6
  have HV := hideR HV
  have H7 := hideR H7
  have HO := hideR HO
  have HL := hideR HL
  have HA := hideR HA
  have hsz := bs_size l
  subst hs0
  rw [Int.add_zero] at hV
  go_enter Tryz.func74, Tryz.ntmps74
  go_wp2_with fail
  go_at_call 20
  refine (HC.out _).mono ?_
  rintro e w1 ⟨rfl, b1⟩
  have A1 := ((RateAt.new w n d false).keep b1)
  have B1 := bup (bel1 w _) b1
  clear b1
  obtain ⟨_, a0, a1, a2⟩ := id A1
  go_wp2_with fail
  go_at_call 38
  refine (HF.out _).mono ?_
  rintro e w2 ⟨rfl, b2⟩
  have A2 := (A1.keep b2)
  have B2 := bup B1 b2
  clear A1 B1 a0 a1 a2
  clear b2
  obtain ⟨_, a0, a1, a2⟩ := id A2
  go_wp2_with fail
  have hAX := A2.1
  have X2 := RdAt.new w2 l
  have A2 := A2.alloc (.cells #[.string (bs l), .int .i64 0, .bool false] 66)
  have B2 := bup B2 (bel1 w2 (.cells #[.string (bs l), .int .i64 0, .bool false] 66))
  have hWX := B2.size
  go_at_call 29
  refine (H1.out _ _ X2).mono ?_
  rintro e w3 ⟨rfl, X3, b3⟩
  have A3 := A2.under b3 hAX
  have B3 := B2.trans (b3.mono (Nat.le_of_lt hAX))
  clear A2 B2 X2 b3  a0 a1 a2 H1
  clear hWX
  generalize w2.heap.size = X at *
  obtain ⟨_, a0, a1, a2⟩ := id A3
  obtain ⟨_, x0, x1, x2, x3, x4⟩ := id X3
  go_wp2_with fail
  go_at_call 30
  refine (H2.out _ _ X3).mono ?_
  rintro e w4 ⟨rfl, X4, b4⟩
  have A4 := A3.under b4 hAX
  have B4 := B3.trans (b4.mono (Nat.le_of_lt hAX))
  clear A3 B3 X3 b4 x0 x1 x2 x3 x4 a0 a1 a2 H2
  obtain ⟨_, a0, a1, a2⟩ := id A4
  obtain ⟨_, x0, x1, x2, x3, x4⟩ := id X4
  go_wp2_with fail
  go_at_call 31
  refine (H3.out _ _ X4).mono ?_
  rintro e w5 ⟨rfl, X5, b5⟩
  have A5 := A4.under b5 hAX
  have B5 := B4.trans (b5.mono (Nat.le_of_lt hAX))
  clear A4 B4 X4 b5 x0 x1 x2 x3 x4 a0 a1 a2 H3
  obtain ⟨_, a0, a1, a2⟩ := id A5
  obtain ⟨_, x0, x1, x2, x3, x4⟩ := id X5
  go_wp2_with fail
  go_at_call 30
  refine (H4.out _ _ X5).mono ?_
  rintro e w6 ⟨rfl, X6, b6⟩
  have A6 := A5.under b6 hAX
  have B6 := B5.trans (b6.mono (Nat.le_of_lt hAX))
  clear A5 B5 X5 b6 x0 x1 x2 x3 x4 a0 a1 a2 H4
  obtain ⟨_, a0, a1, a2⟩ := id A6
  obtain ⟨_, x0, x1, x2, x3, x4⟩ := id X6
  go_wp2_with fail
  go_at_call 31
  refine (H5.out _ _ X6).mono ?_
  rintro e w7 ⟨rfl, X7, b7⟩
  have A7 := A6.under b7 hAX
  have B7 := B6.trans (b7.mono (Nat.le_of_lt hAX))
  clear A6 B6 X6 b7 x0 x1 x2 x3 x4 a0 a1 a2 H5
  obtain ⟨_, a0, a1, a2⟩ := id A7
  obtain ⟨_, x0, x1, x2, x3, x4⟩ := id X7
  go_wp2_with fail
  go_at_call 30
  refine (H6.out _ _ X7).mono ?_
  rintro e w8 ⟨rfl, X8, b8⟩
  have A8 := A7.under b8 hAX
  have B8 := B7.trans (b8.mono (Nat.le_of_lt hAX))
  clear A7 B7 X7 b8 x0 x1 x2 x3 x4 a0 a1 a2 H6
  obtain ⟨_, a0, a1, a2⟩ := id A8
  obtain ⟨_, x0, x1, x2, x3, x4⟩ := id X8
  go_wp2_with fail
  go_at_call 42
  refine (HV.out _).mono ?_
  rintro e wv ⟨rfl, hwv⟩
  obtain rfl := hwv.symm
  go_wp2_with fail
  go_at_call 32
  refine (H7.out _ _ X8).mono ?_
  rintro e w9 ⟨rfl, X9, b9⟩
  have A9 := A8.under b9 hAX
  have B9 := B8.trans (b9.mono (Nat.le_of_lt hAX))
  clear A8 B8 X8 b9 x0 x1 x2 x3 x4 a0 a1 a2 H7
  obtain ⟨_, a0, a1, a2⟩ := id A9
  obtain ⟨_, x0, x1, x2, x3, x4⟩ := id X9
  go_wp2_with fail
  go_at_call 40
  refine (HO.out _).mono ?_
  rintro e w10 ⟨rfl, b10⟩
  have A10 := A9.keep b10
  have B10 := bup B9 b10
  clear A9 B9 b10 a0 a1 a2 HO
  obtain ⟨_, a0, a1, a2⟩ := id A10
  go_wp2_with fail
  go_at_call 39
  refine (HL.out _).mono ?_
  rintro e w11 ⟨rfl, b11⟩
  have A11 := A10.keep b11
  have B11 := bup B10 b11
  clear A10 B10 b11 a0 a1 a2 HL
  obtain ⟨_, a0, a1, a2⟩ := id A11
  go_wp2_with fail
  go_at_call 37
  refine (HA.out _).mono ?_
  rintro e w12 ⟨rfl, b12⟩
  have A12 := A11.keep b12
  have B12 := bup B11 b12
  clear A11 B11 b12 a0 a1 a2 HA
  obtain ⟨_, a0, a1, a2⟩ := id A12
  go_wp2_with fail
  go_ret2
  exact ⟨rfl, B12⟩
set_option maxRecDepth 100000 in
set_option maxHeartbeats 2000000 in
theorem rnum_tzf (n d f h m s x : Int) (l : List UInt8) (k1 k2 k3 k4 k5 k6 wd : Nat) (b1 b2 b3 b4 b5 b6 : Bool) (lf la M V D Lm fr : Int) (hh : 0 ≤ h ∧ h ≤ 1000) (hm : 0 ≤ m ∧ m ≤ 1000) (hs : 0 ≤ s ∧ s ≤ 1000) (hx : 0 ≤ x ∧ x ≤ 1000) (hf : 0 ≤ f ∧ f ≤ 1000) (hM : 60 * h + m = M) (hV : (60 * M + s) * f = V) (hV0 : 0 ≤ V ∧ V ≤ 100000000000) (hD : M / 10 = D) (hL : lf * (M - D) = Lm) (hL0 : 0 ≤ Lm ∧ Lm ≤ 100000000) (hfr : V + x - Lm = fr) (hxf : x < f) (hs2 : (s == 0) = false) (ht : la < fr) (w : World)
    (HC : ∀ w, Calls Tryz.prog 20 #[.agg #[.int .i64 n, .int .i64 d, .bool false]] w fun e w' => e = .returned (.int .i64 0) ∧ Below w.heap.size w w')
    (HF : ∀ w, Calls Tryz.prog 38 #[.agg #[.int .i64 n, .int .i64 d, .bool false]] w fun e w' => e = .returned (.int .i64 f) ∧ Below w.heap.size w w')
    (H1 : ∀ B w, RdAt w B l 0 false → Calls Tryz.prog 29 #[.pointer (some ⟨B, 0, none⟩), .int .i64 2] w fun e w' => e = .returned (.int .i64 h) ∧ RdAt w' B l k1 b1 ∧ Below B w w')
    (H2 : ∀ B w, RdAt w B l k1 b1 → Calls Tryz.prog 30 #[.pointer (some ⟨B, 0, none⟩), .int .u8 58] w fun e w' => e = .returned (.tuple #[]) ∧ RdAt w' B l k2 b2 ∧ Below B w w')
    (H3 : ∀ B w, RdAt w B l k2 b2 → Calls Tryz.prog 31 #[.pointer (some ⟨B, 0, none⟩)] w fun e w' => e = .returned (.int .i64 m) ∧ RdAt w' B l k3 b3 ∧ Below B w w')
    (H4 : ∀ B w, RdAt w B l k3 b3 → Calls Tryz.prog 30 #[.pointer (some ⟨B, 0, none⟩), .int .u8 58] w fun e w' => e = .returned (.tuple #[]) ∧ RdAt w' B l k4 b4 ∧ Below B w w')
    (H5 : ∀ B w, RdAt w B l k4 b4 → Calls Tryz.prog 31 #[.pointer (some ⟨B, 0, none⟩)] w fun e w' => e = .returned (.int .i64 s) ∧ RdAt w' B l k5 b5 ∧ Below B w w')
    (H6 : ∀ B w, RdAt w B l k5 b5 → Calls Tryz.prog 30 #[.pointer (some ⟨B, 0, none⟩), .int .u8 58] w fun e w' => e = .returned (.tuple #[]) ∧ RdAt w' B l k6 b6 ∧ Below B w w')
    (HV : ∀ w, Calls Tryz.prog 42 #[.int .i64 f] w fun e w' => e = .returned (.int .i64 (wd : Nat)) ∧ w' = w)
    (H7 : ∀ B w, RdAt w B l k6 b6 → Calls Tryz.prog 32 #[.pointer (some ⟨B, 0, none⟩), .int .i64 (wd : Nat)] w fun e w' => e = .returned (.int .i64 x) ∧ RdAt w' B l l.length false ∧ Below B w w')
    (HL : ∀ w, Calls Tryz.prog 39 #[.agg #[.int .i64 n, .int .i64 d, .bool false]] w fun e w' => e = .returned (.int .i64 lf) ∧ Below w.heap.size w w')
    (HA : ∀ w, Calls Tryz.prog 37 #[.agg #[.int .i64 n, .int .i64 d, .bool false]] w fun e w' => e = .returned (.int .i64 la) ∧ Below w.heap.size w w') :
    Calls Tryz.prog 74 #[.agg #[.int .i64 n, .int .i64 d, .bool false], .string (bs l)] w fun e w' => e = .returned (.tuple #[.int .i64 0, .int .i64 31]) ∧ Below w.heap.size w w' := by
  have HC := hideR HC
  have HF := hideR HF
  have H1 := hideR H1
  have H2 := hideR H2
  have H3 := hideR H3
  have H4 := hideR H4
  have H5 := hideR H5
  have H6 := hideR H6
  have HV := hideR HV
  have H7 := hideR H7
  have HL := hideR HL
  have HA := hideR HA
  have hsz := bs_size l
  go_enter Tryz.func74, Tryz.ntmps74
  go_wp2_with fail
  go_at_call 20
  refine (HC.out _).mono ?_
  rintro e w1 ⟨rfl, b1⟩
  have A1 := ((RateAt.new w n d false).keep b1)
  have B1 := bup (bel1 w _) b1
  clear b1
  obtain ⟨_, a0, a1, a2⟩ := id A1
  go_wp2_with fail
  go_at_call 38
  refine (HF.out _).mono ?_
  rintro e w2 ⟨rfl, b2⟩
  have A2 := (A1.keep b2)
  have B2 := bup B1 b2
  clear A1 B1 a0 a1 a2
  clear b2
  obtain ⟨_, a0, a1, a2⟩ := id A2
  go_wp2_with fail
  have hAX := A2.1
  have X2 := RdAt.new w2 l
  have A2 := A2.alloc (.cells #[.string (bs l), .int .i64 0, .bool false] 66)
  have B2 := bup B2 (bel1 w2 (.cells #[.string (bs l), .int .i64 0, .bool false] 66))
  have hWX := B2.size
  go_at_call 29
  refine (H1.out _ _ X2).mono ?_
  rintro e w3 ⟨rfl, X3, b3⟩
  have A3 := A2.under b3 hAX
  have B3 := B2.trans (b3.mono (Nat.le_of_lt hAX))
  clear A2 B2 X2 b3  a0 a1 a2 H1
  clear hWX
  generalize w2.heap.size = X at *
  obtain ⟨_, a0, a1, a2⟩ := id A3
  obtain ⟨_, x0, x1, x2, x3, x4⟩ := id X3
  go_wp2_with fail
  go_at_call 30
  refine (H2.out _ _ X3).mono ?_
  rintro e w4 ⟨rfl, X4, b4⟩
  have A4 := A3.under b4 hAX
  have B4 := B3.trans (b4.mono (Nat.le_of_lt hAX))
  clear A3 B3 X3 b4 x0 x1 x2 x3 x4 a0 a1 a2 H2
  obtain ⟨_, a0, a1, a2⟩ := id A4
  obtain ⟨_, x0, x1, x2, x3, x4⟩ := id X4
  go_wp2_with fail
  go_at_call 31
  refine (H3.out _ _ X4).mono ?_
  rintro e w5 ⟨rfl, X5, b5⟩
  have A5 := A4.under b5 hAX
  have B5 := B4.trans (b5.mono (Nat.le_of_lt hAX))
  clear A4 B4 X4 b5 x0 x1 x2 x3 x4 a0 a1 a2 H3
  obtain ⟨_, a0, a1, a2⟩ := id A5
  obtain ⟨_, x0, x1, x2, x3, x4⟩ := id X5
  go_wp2_with fail
  go_at_call 30
  refine (H4.out _ _ X5).mono ?_
  rintro e w6 ⟨rfl, X6, b6⟩
  have A6 := A5.under b6 hAX
  have B6 := B5.trans (b6.mono (Nat.le_of_lt hAX))
  clear A5 B5 X5 b6 x0 x1 x2 x3 x4 a0 a1 a2 H4
  obtain ⟨_, a0, a1, a2⟩ := id A6
  obtain ⟨_, x0, x1, x2, x3, x4⟩ := id X6
  go_wp2_with fail
  go_at_call 31
  refine (H5.out _ _ X6).mono ?_
  rintro e w7 ⟨rfl, X7, b7⟩
  have A7 := A6.under b7 hAX
  have B7 := B6.trans (b7.mono (Nat.le_of_lt hAX))
  clear A6 B6 X6 b7 x0 x1 x2 x3 x4 a0 a1 a2 H5
  obtain ⟨_, a0, a1, a2⟩ := id A7
  obtain ⟨_, x0, x1, x2, x3, x4⟩ := id X7
  go_wp2_with fail
  go_at_call 30
  refine (H6.out _ _ X7).mono ?_
  rintro e w8 ⟨rfl, X8, b8⟩
  have A8 := A7.under b8 hAX
  have B8 := B7.trans (b8.mono (Nat.le_of_lt hAX))
  clear A7 B7 X7 b8 x0 x1 x2 x3 x4 a0 a1 a2 H6
  obtain ⟨_, a0, a1, a2⟩ := id A8
  obtain ⟨_, x0, x1, x2, x3, x4⟩ := id X8
  go_wp2_with fail
  go_at_call 42
  refine (HV.out _).mono ?_
  rintro e wv ⟨rfl, hwv⟩
  obtain rfl := hwv.symm
  go_wp2_with fail
  go_at_call 32
  refine (H7.out _ _ X8).mono ?_
  rintro e w9 ⟨rfl, X9, b9⟩
  have A9 := A8.under b9 hAX
  have B9 := B8.trans (b9.mono (Nat.le_of_lt hAX))
  clear A8 B8 X8 b9 x0 x1 x2 x3 x4 a0 a1 a2 H7
  obtain ⟨_, a0, a1, a2⟩ := id A9
  obtain ⟨_, x0, x1, x2, x3, x4⟩ := id X9
  go_wp2_with fail
  go_at_call 39
  refine (HL.out _).mono ?_
  rintro e w10 ⟨rfl, b10⟩
  have A10 := A9.keep b10
  have B10 := bup B9 b10
  clear A9 B9 b10 a0 a1 a2 HL
  obtain ⟨_, a0, a1, a2⟩ := id A10
  go_wp2_with fail
  go_at_call 37
  refine (HA.out _).mono ?_
  rintro e w11 ⟨rfl, b11⟩
  have A11 := A10.keep b11
  have B11 := bup B10 b11
  clear A10 B10 b11 a0 a1 a2 HA
  obtain ⟨_, a0, a1, a2⟩ := id A11
  go_wp2_with fail
  go_ret2
  exact ⟨rfl, B11⟩
set_option maxRecDepth 100000 in
set_option maxHeartbeats 2000000 in
theorem rnum_kzf (n d f h m s x : Int) (l : List UInt8) (k1 k2 k3 k4 k5 k6 wd : Nat) (b1 b2 b3 b4 b5 b6 : Bool) (lf la M V D Lm fr : Int) (hh : 0 ≤ h ∧ h ≤ 1000) (hm : 0 ≤ m ∧ m ≤ 1000) (hs : 0 ≤ s ∧ s ≤ 1000) (hx : 0 ≤ x ∧ x ≤ 1000) (hf : 0 ≤ f ∧ f ≤ 1000) (hM : 60 * h + m = M) (hV : (60 * M + s) * f = V) (hV0 : 0 ≤ V ∧ V ≤ 100000000000) (hD : M / 10 = D) (hL : lf * (M - D) = Lm) (hL0 : 0 ≤ Lm ∧ Lm ≤ 100000000) (hfr : V + x - Lm = fr) (hxf : x < f) (hs2 : (s == 0) = false) (ht : fr ≤ la) (w : World)
    (HC : ∀ w, Calls Tryz.prog 20 #[.agg #[.int .i64 n, .int .i64 d, .bool false]] w fun e w' => e = .returned (.int .i64 0) ∧ Below w.heap.size w w')
    (HF : ∀ w, Calls Tryz.prog 38 #[.agg #[.int .i64 n, .int .i64 d, .bool false]] w fun e w' => e = .returned (.int .i64 f) ∧ Below w.heap.size w w')
    (H1 : ∀ B w, RdAt w B l 0 false → Calls Tryz.prog 29 #[.pointer (some ⟨B, 0, none⟩), .int .i64 2] w fun e w' => e = .returned (.int .i64 h) ∧ RdAt w' B l k1 b1 ∧ Below B w w')
    (H2 : ∀ B w, RdAt w B l k1 b1 → Calls Tryz.prog 30 #[.pointer (some ⟨B, 0, none⟩), .int .u8 58] w fun e w' => e = .returned (.tuple #[]) ∧ RdAt w' B l k2 b2 ∧ Below B w w')
    (H3 : ∀ B w, RdAt w B l k2 b2 → Calls Tryz.prog 31 #[.pointer (some ⟨B, 0, none⟩)] w fun e w' => e = .returned (.int .i64 m) ∧ RdAt w' B l k3 b3 ∧ Below B w w')
    (H4 : ∀ B w, RdAt w B l k3 b3 → Calls Tryz.prog 30 #[.pointer (some ⟨B, 0, none⟩), .int .u8 58] w fun e w' => e = .returned (.tuple #[]) ∧ RdAt w' B l k4 b4 ∧ Below B w w')
    (H5 : ∀ B w, RdAt w B l k4 b4 → Calls Tryz.prog 31 #[.pointer (some ⟨B, 0, none⟩)] w fun e w' => e = .returned (.int .i64 s) ∧ RdAt w' B l k5 b5 ∧ Below B w w')
    (H6 : ∀ B w, RdAt w B l k5 b5 → Calls Tryz.prog 30 #[.pointer (some ⟨B, 0, none⟩), .int .u8 58] w fun e w' => e = .returned (.tuple #[]) ∧ RdAt w' B l k6 b6 ∧ Below B w w')
    (HV : ∀ w, Calls Tryz.prog 42 #[.int .i64 f] w fun e w' => e = .returned (.int .i64 (wd : Nat)) ∧ w' = w)
    (H7 : ∀ B w, RdAt w B l k6 b6 → Calls Tryz.prog 32 #[.pointer (some ⟨B, 0, none⟩), .int .i64 (wd : Nat)] w fun e w' => e = .returned (.int .i64 x) ∧ RdAt w' B l l.length false ∧ Below B w w')
    (HL : ∀ w, Calls Tryz.prog 39 #[.agg #[.int .i64 n, .int .i64 d, .bool false]] w fun e w' => e = .returned (.int .i64 lf) ∧ Below w.heap.size w w')
    (HA : ∀ w, Calls Tryz.prog 37 #[.agg #[.int .i64 n, .int .i64 d, .bool false]] w fun e w' => e = .returned (.int .i64 la) ∧ Below w.heap.size w w') :
    Calls Tryz.prog 74 #[.agg #[.int .i64 n, .int .i64 d, .bool false], .string (bs l)] w fun e w' => e = .returned (.tuple #[.int .i64 fr, .int .i64 0]) ∧ Below w.heap.size w w' := by
  have HC := hideR HC
  have HF := hideR HF
  have H1 := hideR H1
  have H2 := hideR H2
  have H3 := hideR H3
  have H4 := hideR H4
  have H5 := hideR H5
  have H6 := hideR H6
  have HV := hideR HV
  have H7 := hideR H7
  have HL := hideR HL
  have HA := hideR HA
  have hsz := bs_size l
  go_enter Tryz.func74, Tryz.ntmps74
  go_wp2_with fail
  go_at_call 20
  refine (HC.out _).mono ?_
  rintro e w1 ⟨rfl, b1⟩
  have A1 := ((RateAt.new w n d false).keep b1)
  have B1 := bup (bel1 w _) b1
  clear b1
  obtain ⟨_, a0, a1, a2⟩ := id A1
  go_wp2_with fail
  go_at_call 38
  refine (HF.out _).mono ?_
  rintro e w2 ⟨rfl, b2⟩
  have A2 := (A1.keep b2)
  have B2 := bup B1 b2
  clear A1 B1 a0 a1 a2
  clear b2
  obtain ⟨_, a0, a1, a2⟩ := id A2
  go_wp2_with fail
  have hAX := A2.1
  have X2 := RdAt.new w2 l
  have A2 := A2.alloc (.cells #[.string (bs l), .int .i64 0, .bool false] 66)
  have B2 := bup B2 (bel1 w2 (.cells #[.string (bs l), .int .i64 0, .bool false] 66))
  have hWX := B2.size
  go_at_call 29
  refine (H1.out _ _ X2).mono ?_
  rintro e w3 ⟨rfl, X3, b3⟩
  have A3 := A2.under b3 hAX
  have B3 := B2.trans (b3.mono (Nat.le_of_lt hAX))
  clear A2 B2 X2 b3  a0 a1 a2 H1
  clear hWX
  generalize w2.heap.size = X at *
  obtain ⟨_, a0, a1, a2⟩ := id A3
  obtain ⟨_, x0, x1, x2, x3, x4⟩ := id X3
  go_wp2_with fail
  go_at_call 30
  refine (H2.out _ _ X3).mono ?_
  rintro e w4 ⟨rfl, X4, b4⟩
  have A4 := A3.under b4 hAX
  have B4 := B3.trans (b4.mono (Nat.le_of_lt hAX))
  clear A3 B3 X3 b4 x0 x1 x2 x3 x4 a0 a1 a2 H2
  obtain ⟨_, a0, a1, a2⟩ := id A4
  obtain ⟨_, x0, x1, x2, x3, x4⟩ := id X4
  go_wp2_with fail
  go_at_call 31
  refine (H3.out _ _ X4).mono ?_
  rintro e w5 ⟨rfl, X5, b5⟩
  have A5 := A4.under b5 hAX
  have B5 := B4.trans (b5.mono (Nat.le_of_lt hAX))
  clear A4 B4 X4 b5 x0 x1 x2 x3 x4 a0 a1 a2 H3
  obtain ⟨_, a0, a1, a2⟩ := id A5
  obtain ⟨_, x0, x1, x2, x3, x4⟩ := id X5
  go_wp2_with fail
  go_at_call 30
  refine (H4.out _ _ X5).mono ?_
  rintro e w6 ⟨rfl, X6, b6⟩
  have A6 := A5.under b6 hAX
  have B6 := B5.trans (b6.mono (Nat.le_of_lt hAX))
  clear A5 B5 X5 b6 x0 x1 x2 x3 x4 a0 a1 a2 H4
  obtain ⟨_, a0, a1, a2⟩ := id A6
  obtain ⟨_, x0, x1, x2, x3, x4⟩ := id X6
  go_wp2_with fail
  go_at_call 31
  refine (H5.out _ _ X6).mono ?_
  rintro e w7 ⟨rfl, X7, b7⟩
  have A7 := A6.under b7 hAX
  have B7 := B6.trans (b7.mono (Nat.le_of_lt hAX))
  clear A6 B6 X6 b7 x0 x1 x2 x3 x4 a0 a1 a2 H5
  obtain ⟨_, a0, a1, a2⟩ := id A7
  obtain ⟨_, x0, x1, x2, x3, x4⟩ := id X7
  go_wp2_with fail
  go_at_call 30
  refine (H6.out _ _ X7).mono ?_
  rintro e w8 ⟨rfl, X8, b8⟩
  have A8 := A7.under b8 hAX
  have B8 := B7.trans (b8.mono (Nat.le_of_lt hAX))
  clear A7 B7 X7 b8 x0 x1 x2 x3 x4 a0 a1 a2 H6
  obtain ⟨_, a0, a1, a2⟩ := id A8
  obtain ⟨_, x0, x1, x2, x3, x4⟩ := id X8
  go_wp2_with fail
  go_at_call 42
  refine (HV.out _).mono ?_
  rintro e wv ⟨rfl, hwv⟩
  obtain rfl := hwv.symm
  go_wp2_with fail
  go_at_call 32
  refine (H7.out _ _ X8).mono ?_
  rintro e w9 ⟨rfl, X9, b9⟩
  have A9 := A8.under b9 hAX
  have B9 := B8.trans (b9.mono (Nat.le_of_lt hAX))
  clear A8 B8 X8 b9 x0 x1 x2 x3 x4 a0 a1 a2 H7
  obtain ⟨_, a0, a1, a2⟩ := id A9
  obtain ⟨_, x0, x1, x2, x3, x4⟩ := id X9
  go_wp2_with fail
  go_at_call 39
  refine (HL.out _).mono ?_
  rintro e w10 ⟨rfl, b10⟩
  have A10 := A9.keep b10
  have B10 := bup B9 b10
  clear A9 B9 b10 a0 a1 a2 HL
  obtain ⟨_, a0, a1, a2⟩ := id A10
  go_wp2_with fail
  go_at_call 37
  refine (HA.out _).mono ?_
  rintro e w11 ⟨rfl, b11⟩
  have A11 := A10.keep b11
  have B11 := bup B10 b11
  clear A10 B10 b11 a0 a1 a2 HA
  obtain ⟨_, a0, a1, a2⟩ := id A11
  go_wp2_with fail
  go_ret2
  exact ⟨rfl, B11⟩
set_option maxRecDepth 100000 in
set_option maxHeartbeats 2000000 in
theorem rnum_xt (n d f h m s x : Int) (l : List UInt8) (k1 k2 k3 k4 k5 k6 k7 wd : Nat) (b1 b2 b3 b4 b5 b6 : Bool) (w : World)
    (HC : ∀ w, Calls Tryz.prog 20 #[.agg #[.int .i64 n, .int .i64 d, .bool true]] w fun e w' => e = .returned (.int .i64 0) ∧ Below w.heap.size w w')
    (HF : ∀ w, Calls Tryz.prog 38 #[.agg #[.int .i64 n, .int .i64 d, .bool true]] w fun e w' => e = .returned (.int .i64 f) ∧ Below w.heap.size w w')
    (H1 : ∀ B w, RdAt w B l 0 false → Calls Tryz.prog 29 #[.pointer (some ⟨B, 0, none⟩), .int .i64 2] w fun e w' => e = .returned (.int .i64 h) ∧ RdAt w' B l k1 b1 ∧ Below B w w')
    (H2 : ∀ B w, RdAt w B l k1 b1 → Calls Tryz.prog 30 #[.pointer (some ⟨B, 0, none⟩), .int .u8 58] w fun e w' => e = .returned (.tuple #[]) ∧ RdAt w' B l k2 b2 ∧ Below B w w')
    (H3 : ∀ B w, RdAt w B l k2 b2 → Calls Tryz.prog 31 #[.pointer (some ⟨B, 0, none⟩)] w fun e w' => e = .returned (.int .i64 m) ∧ RdAt w' B l k3 b3 ∧ Below B w w')
    (H4 : ∀ B w, RdAt w B l k3 b3 → Calls Tryz.prog 30 #[.pointer (some ⟨B, 0, none⟩), .int .u8 58] w fun e w' => e = .returned (.tuple #[]) ∧ RdAt w' B l k4 b4 ∧ Below B w w')
    (H5 : ∀ B w, RdAt w B l k4 b4 → Calls Tryz.prog 31 #[.pointer (some ⟨B, 0, none⟩)] w fun e w' => e = .returned (.int .i64 s) ∧ RdAt w' B l k5 b5 ∧ Below B w w')
    (H6 : ∀ B w, RdAt w B l k5 b5 → Calls Tryz.prog 30 #[.pointer (some ⟨B, 0, none⟩), .int .u8 59] w fun e w' => e = .returned (.tuple #[]) ∧ RdAt w' B l k6 b6 ∧ Below B w w')
    (HV : ∀ w, Calls Tryz.prog 42 #[.int .i64 f] w fun e w' => e = .returned (.int .i64 (wd : Nat)) ∧ w' = w)
    (H7 : ∀ B w, RdAt w B l k6 b6 → Calls Tryz.prog 32 #[.pointer (some ⟨B, 0, none⟩), .int .i64 (wd : Nat)] w fun e w' => e = .returned (.int .i64 x) ∧ RdAt w' B l k7 true ∧ Below B w w') :
    Calls Tryz.prog 74 #[.agg #[.int .i64 n, .int .i64 d, .bool true], .string (bs l)] w fun e w' => e = .returned (.tuple #[.int .i64 0, .int .i64 13]) ∧ Below w.heap.size w w' := by
  have HC := hideR HC
  have HF := hideR HF
  have H1 := hideR H1
  have H2 := hideR H2
  have H3 := hideR H3
  have H4 := hideR H4
  have H5 := hideR H5
  have H6 := hideR H6
  have HV := hideR HV
  have H7 := hideR H7
  go_enter Tryz.func74, Tryz.ntmps74
  go_wp2_with fail
  go_at_call 20
  refine (HC.out _).mono ?_
  rintro e w1 ⟨rfl, b1⟩
  have A1 := ((RateAt.new w n d true).keep b1)
  have B1 := bup (bel1 w _) b1
  clear b1
  obtain ⟨_, a0, a1, a2⟩ := id A1
  go_wp2_with fail
  go_at_call 38
  refine (HF.out _).mono ?_
  rintro e w2 ⟨rfl, b2⟩
  have A2 := (A1.keep b2)
  have B2 := bup B1 b2
  clear A1 B1 a0 a1 a2
  clear b2
  obtain ⟨_, a0, a1, a2⟩ := id A2
  go_wp2_with fail
  have hAX := A2.1
  have X2 := RdAt.new w2 l
  have A2 := A2.alloc (.cells #[.string (bs l), .int .i64 0, .bool false] 66)
  have B2 := bup B2 (bel1 w2 (.cells #[.string (bs l), .int .i64 0, .bool false] 66))
  have hWX := B2.size
  go_at_call 29
  refine (H1.out _ _ X2).mono ?_
  rintro e w3 ⟨rfl, X3, b3⟩
  have A3 := A2.under b3 hAX
  have B3 := B2.trans (b3.mono (Nat.le_of_lt hAX))
  clear A2 B2 X2 b3  a0 a1 a2 H1
  clear hWX
  generalize w2.heap.size = X at *
  obtain ⟨_, a0, a1, a2⟩ := id A3
  obtain ⟨_, x0, x1, x2, x3, x4⟩ := id X3
  go_wp2_with fail
  go_at_call 30
  refine (H2.out _ _ X3).mono ?_
  rintro e w4 ⟨rfl, X4, b4⟩
  have A4 := A3.under b4 hAX
  have B4 := B3.trans (b4.mono (Nat.le_of_lt hAX))
  clear A3 B3 X3 b4 x0 x1 x2 x3 x4 a0 a1 a2 H2
  obtain ⟨_, a0, a1, a2⟩ := id A4
  obtain ⟨_, x0, x1, x2, x3, x4⟩ := id X4
  go_wp2_with fail
  go_at_call 31
  refine (H3.out _ _ X4).mono ?_
  rintro e w5 ⟨rfl, X5, b5⟩
  have A5 := A4.under b5 hAX
  have B5 := B4.trans (b5.mono (Nat.le_of_lt hAX))
  clear A4 B4 X4 b5 x0 x1 x2 x3 x4 a0 a1 a2 H3
  obtain ⟨_, a0, a1, a2⟩ := id A5
  obtain ⟨_, x0, x1, x2, x3, x4⟩ := id X5
  go_wp2_with fail
  go_at_call 30
  refine (H4.out _ _ X5).mono ?_
  rintro e w6 ⟨rfl, X6, b6⟩
  have A6 := A5.under b6 hAX
  have B6 := B5.trans (b6.mono (Nat.le_of_lt hAX))
  clear A5 B5 X5 b6 x0 x1 x2 x3 x4 a0 a1 a2 H4
  obtain ⟨_, a0, a1, a2⟩ := id A6
  obtain ⟨_, x0, x1, x2, x3, x4⟩ := id X6
  go_wp2_with fail
  go_at_call 31
  refine (H5.out _ _ X6).mono ?_
  rintro e w7 ⟨rfl, X7, b7⟩
  have A7 := A6.under b7 hAX
  have B7 := B6.trans (b7.mono (Nat.le_of_lt hAX))
  clear A6 B6 X6 b7 x0 x1 x2 x3 x4 a0 a1 a2 H5
  obtain ⟨_, a0, a1, a2⟩ := id A7
  obtain ⟨_, x0, x1, x2, x3, x4⟩ := id X7
  go_wp2_with fail
  go_at_call 30
  refine (H6.out _ _ X7).mono ?_
  rintro e w8 ⟨rfl, X8, b8⟩
  have A8 := A7.under b8 hAX
  have B8 := B7.trans (b8.mono (Nat.le_of_lt hAX))
  clear A7 B7 X7 b8 x0 x1 x2 x3 x4 a0 a1 a2 H6
  obtain ⟨_, a0, a1, a2⟩ := id A8
  obtain ⟨_, x0, x1, x2, x3, x4⟩ := id X8
  go_wp2_with fail
  go_at_call 42
  refine (HV.out _).mono ?_
  rintro e wv ⟨rfl, hwv⟩
  obtain rfl := hwv.symm
  go_wp2_with fail
  go_at_call 32
  refine (H7.out _ _ X8).mono ?_
  rintro e w9 ⟨rfl, X9, b9⟩
  have A9 := A8.under b9 hAX
  have B9 := B8.trans (b9.mono (Nat.le_of_lt hAX))
  clear A8 B8 X8 b9 x0 x1 x2 x3 x4 a0 a1 a2 H7
  obtain ⟨_, a0, a1, a2⟩ := id A9
  obtain ⟨_, x0, x1, x2, x3, x4⟩ := id X9
  go_wp2_with fail
  go_ret2
  exact ⟨rfl, B9⟩
set_option maxRecDepth 100000 in
set_option maxHeartbeats 2000000 in
theorem rnum_yt (n d f h m s x : Int) (l : List UInt8) (k1 k2 k3 k4 k5 k6 k7 wd : Nat) (b1 b2 b3 b4 b5 b6 : Bool) (hk : ((k7 : Int) != (l.length : Int)) = true) (w : World)
    (HC : ∀ w, Calls Tryz.prog 20 #[.agg #[.int .i64 n, .int .i64 d, .bool true]] w fun e w' => e = .returned (.int .i64 0) ∧ Below w.heap.size w w')
    (HF : ∀ w, Calls Tryz.prog 38 #[.agg #[.int .i64 n, .int .i64 d, .bool true]] w fun e w' => e = .returned (.int .i64 f) ∧ Below w.heap.size w w')
    (H1 : ∀ B w, RdAt w B l 0 false → Calls Tryz.prog 29 #[.pointer (some ⟨B, 0, none⟩), .int .i64 2] w fun e w' => e = .returned (.int .i64 h) ∧ RdAt w' B l k1 b1 ∧ Below B w w')
    (H2 : ∀ B w, RdAt w B l k1 b1 → Calls Tryz.prog 30 #[.pointer (some ⟨B, 0, none⟩), .int .u8 58] w fun e w' => e = .returned (.tuple #[]) ∧ RdAt w' B l k2 b2 ∧ Below B w w')
    (H3 : ∀ B w, RdAt w B l k2 b2 → Calls Tryz.prog 31 #[.pointer (some ⟨B, 0, none⟩)] w fun e w' => e = .returned (.int .i64 m) ∧ RdAt w' B l k3 b3 ∧ Below B w w')
    (H4 : ∀ B w, RdAt w B l k3 b3 → Calls Tryz.prog 30 #[.pointer (some ⟨B, 0, none⟩), .int .u8 58] w fun e w' => e = .returned (.tuple #[]) ∧ RdAt w' B l k4 b4 ∧ Below B w w')
    (H5 : ∀ B w, RdAt w B l k4 b4 → Calls Tryz.prog 31 #[.pointer (some ⟨B, 0, none⟩)] w fun e w' => e = .returned (.int .i64 s) ∧ RdAt w' B l k5 b5 ∧ Below B w w')
    (H6 : ∀ B w, RdAt w B l k5 b5 → Calls Tryz.prog 30 #[.pointer (some ⟨B, 0, none⟩), .int .u8 59] w fun e w' => e = .returned (.tuple #[]) ∧ RdAt w' B l k6 b6 ∧ Below B w w')
    (HV : ∀ w, Calls Tryz.prog 42 #[.int .i64 f] w fun e w' => e = .returned (.int .i64 (wd : Nat)) ∧ w' = w)
    (H7 : ∀ B w, RdAt w B l k6 b6 → Calls Tryz.prog 32 #[.pointer (some ⟨B, 0, none⟩), .int .i64 (wd : Nat)] w fun e w' => e = .returned (.int .i64 x) ∧ RdAt w' B l k7 false ∧ Below B w w') :
    Calls Tryz.prog 74 #[.agg #[.int .i64 n, .int .i64 d, .bool true], .string (bs l)] w fun e w' => e = .returned (.tuple #[.int .i64 0, .int .i64 13]) ∧ Below w.heap.size w w' := by
  have HC := hideR HC
  have HF := hideR HF
  have H1 := hideR H1
  have H2 := hideR H2
  have H3 := hideR H3
  have H4 := hideR H4
  have H5 := hideR H5
  have H6 := hideR H6
  have HV := hideR HV
  have H7 := hideR H7
  have hsz := bs_size l
  go_enter Tryz.func74, Tryz.ntmps74
  go_wp2_with fail
  go_at_call 20
  refine (HC.out _).mono ?_
  rintro e w1 ⟨rfl, b1⟩
  have A1 := ((RateAt.new w n d true).keep b1)
  have B1 := bup (bel1 w _) b1
  clear b1
  obtain ⟨_, a0, a1, a2⟩ := id A1
  go_wp2_with fail
  go_at_call 38
  refine (HF.out _).mono ?_
  rintro e w2 ⟨rfl, b2⟩
  have A2 := (A1.keep b2)
  have B2 := bup B1 b2
  clear A1 B1 a0 a1 a2
  clear b2
  obtain ⟨_, a0, a1, a2⟩ := id A2
  go_wp2_with fail
  have hAX := A2.1
  have X2 := RdAt.new w2 l
  have A2 := A2.alloc (.cells #[.string (bs l), .int .i64 0, .bool false] 66)
  have B2 := bup B2 (bel1 w2 (.cells #[.string (bs l), .int .i64 0, .bool false] 66))
  have hWX := B2.size
  go_at_call 29
  refine (H1.out _ _ X2).mono ?_
  rintro e w3 ⟨rfl, X3, b3⟩
  have A3 := A2.under b3 hAX
  have B3 := B2.trans (b3.mono (Nat.le_of_lt hAX))
  clear A2 B2 X2 b3  a0 a1 a2 H1
  clear hWX
  generalize w2.heap.size = X at *
  obtain ⟨_, a0, a1, a2⟩ := id A3
  obtain ⟨_, x0, x1, x2, x3, x4⟩ := id X3
  go_wp2_with fail
  go_at_call 30
  refine (H2.out _ _ X3).mono ?_
  rintro e w4 ⟨rfl, X4, b4⟩
  have A4 := A3.under b4 hAX
  have B4 := B3.trans (b4.mono (Nat.le_of_lt hAX))
  clear A3 B3 X3 b4 x0 x1 x2 x3 x4 a0 a1 a2 H2
  obtain ⟨_, a0, a1, a2⟩ := id A4
  obtain ⟨_, x0, x1, x2, x3, x4⟩ := id X4
  go_wp2_with fail
  go_at_call 31
  refine (H3.out _ _ X4).mono ?_
  rintro e w5 ⟨rfl, X5, b5⟩
  have A5 := A4.under b5 hAX
  have B5 := B4.trans (b5.mono (Nat.le_of_lt hAX))
  clear A4 B4 X4 b5 x0 x1 x2 x3 x4 a0 a1 a2 H3
  obtain ⟨_, a0, a1, a2⟩ := id A5
  obtain ⟨_, x0, x1, x2, x3, x4⟩ := id X5
  go_wp2_with fail
  go_at_call 30
  refine (H4.out _ _ X5).mono ?_
  rintro e w6 ⟨rfl, X6, b6⟩
  have A6 := A5.under b6 hAX
  have B6 := B5.trans (b6.mono (Nat.le_of_lt hAX))
  clear A5 B5 X5 b6 x0 x1 x2 x3 x4 a0 a1 a2 H4
  obtain ⟨_, a0, a1, a2⟩ := id A6
  obtain ⟨_, x0, x1, x2, x3, x4⟩ := id X6
  go_wp2_with fail
  go_at_call 31
  refine (H5.out _ _ X6).mono ?_
  rintro e w7 ⟨rfl, X7, b7⟩
  have A7 := A6.under b7 hAX
  have B7 := B6.trans (b7.mono (Nat.le_of_lt hAX))
  clear A6 B6 X6 b7 x0 x1 x2 x3 x4 a0 a1 a2 H5
  obtain ⟨_, a0, a1, a2⟩ := id A7
  obtain ⟨_, x0, x1, x2, x3, x4⟩ := id X7
  go_wp2_with fail
  go_at_call 30
  refine (H6.out _ _ X7).mono ?_
  rintro e w8 ⟨rfl, X8, b8⟩
  have A8 := A7.under b8 hAX
  have B8 := B7.trans (b8.mono (Nat.le_of_lt hAX))
  clear A7 B7 X7 b8 x0 x1 x2 x3 x4 a0 a1 a2 H6
  obtain ⟨_, a0, a1, a2⟩ := id A8
  obtain ⟨_, x0, x1, x2, x3, x4⟩ := id X8
  go_wp2_with fail
  go_at_call 42
  refine (HV.out _).mono ?_
  rintro e wv ⟨rfl, hwv⟩
  obtain rfl := hwv.symm
  go_wp2_with fail
  go_at_call 32
  refine (H7.out _ _ X8).mono ?_
  rintro e w9 ⟨rfl, X9, b9⟩
  have A9 := A8.under b9 hAX
  have B9 := B8.trans (b9.mono (Nat.le_of_lt hAX))
  clear A8 B8 X8 b9 x0 x1 x2 x3 x4 a0 a1 a2 H7
  obtain ⟨_, a0, a1, a2⟩ := id A9
  obtain ⟨_, x0, x1, x2, x3, x4⟩ := id X9
  go_wp2_with fail
  go_ret2
  exact ⟨rfl, B9⟩
set_option maxRecDepth 100000 in
set_option maxHeartbeats 2000000 in
theorem rnum_zt (n d f h m s x : Int) (l : List UInt8) (k1 k2 k3 k4 k5 k6 wd : Nat) (b1 b2 b3 b4 b5 b6 : Bool) (hx : f ≤ x) (w : World)
    (HC : ∀ w, Calls Tryz.prog 20 #[.agg #[.int .i64 n, .int .i64 d, .bool true]] w fun e w' => e = .returned (.int .i64 0) ∧ Below w.heap.size w w')
    (HF : ∀ w, Calls Tryz.prog 38 #[.agg #[.int .i64 n, .int .i64 d, .bool true]] w fun e w' => e = .returned (.int .i64 f) ∧ Below w.heap.size w w')
    (H1 : ∀ B w, RdAt w B l 0 false → Calls Tryz.prog 29 #[.pointer (some ⟨B, 0, none⟩), .int .i64 2] w fun e w' => e = .returned (.int .i64 h) ∧ RdAt w' B l k1 b1 ∧ Below B w w')
    (H2 : ∀ B w, RdAt w B l k1 b1 → Calls Tryz.prog 30 #[.pointer (some ⟨B, 0, none⟩), .int .u8 58] w fun e w' => e = .returned (.tuple #[]) ∧ RdAt w' B l k2 b2 ∧ Below B w w')
    (H3 : ∀ B w, RdAt w B l k2 b2 → Calls Tryz.prog 31 #[.pointer (some ⟨B, 0, none⟩)] w fun e w' => e = .returned (.int .i64 m) ∧ RdAt w' B l k3 b3 ∧ Below B w w')
    (H4 : ∀ B w, RdAt w B l k3 b3 → Calls Tryz.prog 30 #[.pointer (some ⟨B, 0, none⟩), .int .u8 58] w fun e w' => e = .returned (.tuple #[]) ∧ RdAt w' B l k4 b4 ∧ Below B w w')
    (H5 : ∀ B w, RdAt w B l k4 b4 → Calls Tryz.prog 31 #[.pointer (some ⟨B, 0, none⟩)] w fun e w' => e = .returned (.int .i64 s) ∧ RdAt w' B l k5 b5 ∧ Below B w w')
    (H6 : ∀ B w, RdAt w B l k5 b5 → Calls Tryz.prog 30 #[.pointer (some ⟨B, 0, none⟩), .int .u8 59] w fun e w' => e = .returned (.tuple #[]) ∧ RdAt w' B l k6 b6 ∧ Below B w w')
    (HV : ∀ w, Calls Tryz.prog 42 #[.int .i64 f] w fun e w' => e = .returned (.int .i64 (wd : Nat)) ∧ w' = w)
    (H7 : ∀ B w, RdAt w B l k6 b6 → Calls Tryz.prog 32 #[.pointer (some ⟨B, 0, none⟩), .int .i64 (wd : Nat)] w fun e w' => e = .returned (.int .i64 x) ∧ RdAt w' B l l.length false ∧ Below B w w') :
    Calls Tryz.prog 74 #[.agg #[.int .i64 n, .int .i64 d, .bool true], .string (bs l)] w fun e w' => e = .returned (.tuple #[.int .i64 0, .int .i64 13]) ∧ Below w.heap.size w w' := by
  have HC := hideR HC
  have HF := hideR HF
  have H1 := hideR H1
  have H2 := hideR H2
  have H3 := hideR H3
  have H4 := hideR H4
  have H5 := hideR H5
  have H6 := hideR H6
  have HV := hideR HV
  have H7 := hideR H7
  have hsz := bs_size l
  go_enter Tryz.func74, Tryz.ntmps74
  go_wp2_with fail
  go_at_call 20
  refine (HC.out _).mono ?_
  rintro e w1 ⟨rfl, b1⟩
  have A1 := ((RateAt.new w n d true).keep b1)
  have B1 := bup (bel1 w _) b1
  clear b1
  obtain ⟨_, a0, a1, a2⟩ := id A1
  go_wp2_with fail
  go_at_call 38
  refine (HF.out _).mono ?_
  rintro e w2 ⟨rfl, b2⟩
  have A2 := (A1.keep b2)
  have B2 := bup B1 b2
  clear A1 B1 a0 a1 a2
  clear b2
  obtain ⟨_, a0, a1, a2⟩ := id A2
  go_wp2_with fail
  have hAX := A2.1
  have X2 := RdAt.new w2 l
  have A2 := A2.alloc (.cells #[.string (bs l), .int .i64 0, .bool false] 66)
  have B2 := bup B2 (bel1 w2 (.cells #[.string (bs l), .int .i64 0, .bool false] 66))
  have hWX := B2.size
  go_at_call 29
  refine (H1.out _ _ X2).mono ?_
  rintro e w3 ⟨rfl, X3, b3⟩
  have A3 := A2.under b3 hAX
  have B3 := B2.trans (b3.mono (Nat.le_of_lt hAX))
  clear A2 B2 X2 b3  a0 a1 a2 H1
  clear hWX
  generalize w2.heap.size = X at *
  obtain ⟨_, a0, a1, a2⟩ := id A3
  obtain ⟨_, x0, x1, x2, x3, x4⟩ := id X3
  go_wp2_with fail
  go_at_call 30
  refine (H2.out _ _ X3).mono ?_
  rintro e w4 ⟨rfl, X4, b4⟩
  have A4 := A3.under b4 hAX
  have B4 := B3.trans (b4.mono (Nat.le_of_lt hAX))
  clear A3 B3 X3 b4 x0 x1 x2 x3 x4 a0 a1 a2 H2
  obtain ⟨_, a0, a1, a2⟩ := id A4
  obtain ⟨_, x0, x1, x2, x3, x4⟩ := id X4
  go_wp2_with fail
  go_at_call 31
  refine (H3.out _ _ X4).mono ?_
  rintro e w5 ⟨rfl, X5, b5⟩
  have A5 := A4.under b5 hAX
  have B5 := B4.trans (b5.mono (Nat.le_of_lt hAX))
  clear A4 B4 X4 b5 x0 x1 x2 x3 x4 a0 a1 a2 H3
  obtain ⟨_, a0, a1, a2⟩ := id A5
  obtain ⟨_, x0, x1, x2, x3, x4⟩ := id X5
  go_wp2_with fail
  go_at_call 30
  refine (H4.out _ _ X5).mono ?_
  rintro e w6 ⟨rfl, X6, b6⟩
  have A6 := A5.under b6 hAX
  have B6 := B5.trans (b6.mono (Nat.le_of_lt hAX))
  clear A5 B5 X5 b6 x0 x1 x2 x3 x4 a0 a1 a2 H4
  obtain ⟨_, a0, a1, a2⟩ := id A6
  obtain ⟨_, x0, x1, x2, x3, x4⟩ := id X6
  go_wp2_with fail
  go_at_call 31
  refine (H5.out _ _ X6).mono ?_
  rintro e w7 ⟨rfl, X7, b7⟩
  have A7 := A6.under b7 hAX
  have B7 := B6.trans (b7.mono (Nat.le_of_lt hAX))
  clear A6 B6 X6 b7 x0 x1 x2 x3 x4 a0 a1 a2 H5
  obtain ⟨_, a0, a1, a2⟩ := id A7
  obtain ⟨_, x0, x1, x2, x3, x4⟩ := id X7
  go_wp2_with fail
  go_at_call 30
  refine (H6.out _ _ X7).mono ?_
  rintro e w8 ⟨rfl, X8, b8⟩
  have A8 := A7.under b8 hAX
  have B8 := B7.trans (b8.mono (Nat.le_of_lt hAX))
  clear A7 B7 X7 b8 x0 x1 x2 x3 x4 a0 a1 a2 H6
  obtain ⟨_, a0, a1, a2⟩ := id A8
  obtain ⟨_, x0, x1, x2, x3, x4⟩ := id X8
  go_wp2_with fail
  go_at_call 42
  refine (HV.out _).mono ?_
  rintro e wv ⟨rfl, hwv⟩
  obtain rfl := hwv.symm
  go_wp2_with fail
  go_at_call 32
  refine (H7.out _ _ X8).mono ?_
  rintro e w9 ⟨rfl, X9, b9⟩
  have A9 := A8.under b9 hAX
  have B9 := B8.trans (b9.mono (Nat.le_of_lt hAX))
  clear A8 B8 X8 b9 x0 x1 x2 x3 x4 a0 a1 a2 H7
  obtain ⟨_, a0, a1, a2⟩ := id A9
  obtain ⟨_, x0, x1, x2, x3, x4⟩ := id X9
  go_wp2_with fail
  go_ret2
  exact ⟨rfl, B9⟩
set_option maxRecDepth 100000 in
set_option maxHeartbeats 2000000 in
theorem rnum_dt (n d f h m x : Int) (l : List UInt8) (k1 k2 k3 k4 k5 k6 wd : Nat) (b1 b2 b3 b4 b5 b6 : Bool) (u : Int) (hx : x < f) (hu : x < u) (w : World)
    (HC : ∀ w, Calls Tryz.prog 20 #[.agg #[.int .i64 n, .int .i64 d, .bool true]] w fun e w' => e = .returned (.int .i64 0) ∧ Below w.heap.size w w')
    (HF : ∀ w, Calls Tryz.prog 38 #[.agg #[.int .i64 n, .int .i64 d, .bool true]] w fun e w' => e = .returned (.int .i64 f) ∧ Below w.heap.size w w')
    (H1 : ∀ B w, RdAt w B l 0 false → Calls Tryz.prog 29 #[.pointer (some ⟨B, 0, none⟩), .int .i64 2] w fun e w' => e = .returned (.int .i64 h) ∧ RdAt w' B l k1 b1 ∧ Below B w w')
    (H2 : ∀ B w, RdAt w B l k1 b1 → Calls Tryz.prog 30 #[.pointer (some ⟨B, 0, none⟩), .int .u8 58] w fun e w' => e = .returned (.tuple #[]) ∧ RdAt w' B l k2 b2 ∧ Below B w w')
    (H3 : ∀ B w, RdAt w B l k2 b2 → Calls Tryz.prog 31 #[.pointer (some ⟨B, 0, none⟩)] w fun e w' => e = .returned (.int .i64 m) ∧ RdAt w' B l k3 b3 ∧ Below B w w')
    (H4 : ∀ B w, RdAt w B l k3 b3 → Calls Tryz.prog 30 #[.pointer (some ⟨B, 0, none⟩), .int .u8 58] w fun e w' => e = .returned (.tuple #[]) ∧ RdAt w' B l k4 b4 ∧ Below B w w')
    (H5 : ∀ B w, RdAt w B l k4 b4 → Calls Tryz.prog 31 #[.pointer (some ⟨B, 0, none⟩)] w fun e w' => e = .returned (.int .i64 0) ∧ RdAt w' B l k5 b5 ∧ Below B w w')
    (H6 : ∀ B w, RdAt w B l k5 b5 → Calls Tryz.prog 30 #[.pointer (some ⟨B, 0, none⟩), .int .u8 59] w fun e w' => e = .returned (.tuple #[]) ∧ RdAt w' B l k6 b6 ∧ Below B w w')
    (HV : ∀ w, Calls Tryz.prog 42 #[.int .i64 f] w fun e w' => e = .returned (.int .i64 (wd : Nat)) ∧ w' = w)
    (H7 : ∀ B w, RdAt w B l k6 b6 → Calls Tryz.prog 32 #[.pointer (some ⟨B, 0, none⟩), .int .i64 (wd : Nat)] w fun e w' => e = .returned (.int .i64 x) ∧ RdAt w' B l l.length false ∧ Below B w w')
    (HO : ∀ w, Calls Tryz.prog 40 #[.agg #[.int .i64 n, .int .i64 d, .bool true], .int .i64 m] w fun e w' => e = .returned (.int .i64 u) ∧ Below w.heap.size w w') :
    Calls Tryz.prog 74 #[.agg #[.int .i64 n, .int .i64 d, .bool true], .string (bs l)] w fun e w' => e = .returned (.tuple #[.int .i64 0, .int .i64 15]) ∧ Below w.heap.size w w' := by
  have HC := hideR HC
  have HF := hideR HF
  have H1 := hideR H1
  have H2 := hideR H2
  have H3 := hideR H3
  have H4 := hideR H4
  have H5 := hideR H5
  have H6 := hideR H6
  have HV := hideR HV
  have H7 := hideR H7
  have HO := hideR HO
  have hsz := bs_size l
  go_enter Tryz.func74, Tryz.ntmps74
  go_wp2_with fail
  go_at_call 20
  refine (HC.out _).mono ?_
  rintro e w1 ⟨rfl, b1⟩
  have A1 := ((RateAt.new w n d true).keep b1)
  have B1 := bup (bel1 w _) b1
  clear b1
  obtain ⟨_, a0, a1, a2⟩ := id A1
  go_wp2_with fail
  go_at_call 38
  refine (HF.out _).mono ?_
  rintro e w2 ⟨rfl, b2⟩
  have A2 := (A1.keep b2)
  have B2 := bup B1 b2
  clear A1 B1 a0 a1 a2
  clear b2
  obtain ⟨_, a0, a1, a2⟩ := id A2
  go_wp2_with fail
  have hAX := A2.1
  have X2 := RdAt.new w2 l
  have A2 := A2.alloc (.cells #[.string (bs l), .int .i64 0, .bool false] 66)
  have B2 := bup B2 (bel1 w2 (.cells #[.string (bs l), .int .i64 0, .bool false] 66))
  have hWX := B2.size
  go_at_call 29
  refine (H1.out _ _ X2).mono ?_
  rintro e w3 ⟨rfl, X3, b3⟩
  have A3 := A2.under b3 hAX
  have B3 := B2.trans (b3.mono (Nat.le_of_lt hAX))
  clear A2 B2 X2 b3  a0 a1 a2 H1
  clear hWX
  generalize w2.heap.size = X at *
  obtain ⟨_, a0, a1, a2⟩ := id A3
  obtain ⟨_, x0, x1, x2, x3, x4⟩ := id X3
  go_wp2_with fail
  go_at_call 30
  refine (H2.out _ _ X3).mono ?_
  rintro e w4 ⟨rfl, X4, b4⟩
  have A4 := A3.under b4 hAX
  have B4 := B3.trans (b4.mono (Nat.le_of_lt hAX))
  clear A3 B3 X3 b4 x0 x1 x2 x3 x4 a0 a1 a2 H2
  obtain ⟨_, a0, a1, a2⟩ := id A4
  obtain ⟨_, x0, x1, x2, x3, x4⟩ := id X4
  go_wp2_with fail
  go_at_call 31
  refine (H3.out _ _ X4).mono ?_
  rintro e w5 ⟨rfl, X5, b5⟩
  have A5 := A4.under b5 hAX
  have B5 := B4.trans (b5.mono (Nat.le_of_lt hAX))
  clear A4 B4 X4 b5 x0 x1 x2 x3 x4 a0 a1 a2 H3
  obtain ⟨_, a0, a1, a2⟩ := id A5
  obtain ⟨_, x0, x1, x2, x3, x4⟩ := id X5
  go_wp2_with fail
  go_at_call 30
  refine (H4.out _ _ X5).mono ?_
  rintro e w6 ⟨rfl, X6, b6⟩
  have A6 := A5.under b6 hAX
  have B6 := B5.trans (b6.mono (Nat.le_of_lt hAX))
  clear A5 B5 X5 b6 x0 x1 x2 x3 x4 a0 a1 a2 H4
  obtain ⟨_, a0, a1, a2⟩ := id A6
  obtain ⟨_, x0, x1, x2, x3, x4⟩ := id X6
  go_wp2_with fail
  go_at_call 31
  refine (H5.out _ _ X6).mono ?_
  rintro e w7 ⟨rfl, X7, b7⟩
  have A7 := A6.under b7 hAX
  have B7 := B6.trans (b7.mono (Nat.le_of_lt hAX))
  clear A6 B6 X6 b7 x0 x1 x2 x3 x4 a0 a1 a2 H5
  obtain ⟨_, a0, a1, a2⟩ := id A7
  obtain ⟨_, x0, x1, x2, x3, x4⟩ := id X7
  go_wp2_with fail
  go_at_call 30
  refine (H6.out _ _ X7).mono ?_
  rintro e w8 ⟨rfl, X8, b8⟩
  have A8 := A7.under b8 hAX
  have B8 := B7.trans (b8.mono (Nat.le_of_lt hAX))
  clear A7 B7 X7 b8 x0 x1 x2 x3 x4 a0 a1 a2 H6
  obtain ⟨_, a0, a1, a2⟩ := id A8
  obtain ⟨_, x0, x1, x2, x3, x4⟩ := id X8
  go_wp2_with fail
  go_at_call 42
  refine (HV.out _).mono ?_
  rintro e wv ⟨rfl, hwv⟩
  obtain rfl := hwv.symm
  go_wp2_with fail
  go_at_call 32
  refine (H7.out _ _ X8).mono ?_
  rintro e w9 ⟨rfl, X9, b9⟩
  have A9 := A8.under b9 hAX
  have B9 := B8.trans (b9.mono (Nat.le_of_lt hAX))
  clear A8 B8 X8 b9 x0 x1 x2 x3 x4 a0 a1 a2 H7
  obtain ⟨_, a0, a1, a2⟩ := id A9
  obtain ⟨_, x0, x1, x2, x3, x4⟩ := id X9
  go_wp2_with fail
  go_at_call 40
  refine (HO.out _).mono ?_
  rintro e w10 ⟨rfl, b10⟩
  have A10 := A9.keep b10
  have B10 := bup B9 b10
  clear A9 B9 b10 a0 a1 a2 HO
  obtain ⟨_, a0, a1, a2⟩ := id A10
  go_wp2_with fail
  go_ret2
  exact ⟨rfl, B10⟩
set_option maxRecDepth 100000 in
set_option maxHeartbeats 2000000 in
theorem rnum_t0t (n d f h m s x : Int) (l : List UInt8) (k1 k2 k3 k4 k5 k6 wd : Nat) (b1 b2 b3 b4 b5 b6 : Bool) (lf la u M V D Lm fr : Int) (hh : 0 ≤ h ∧ h ≤ 1000) (hm : 0 ≤ m ∧ m ≤ 1000) (hs : 0 ≤ s ∧ s ≤ 1000) (hx : 0 ≤ x ∧ x ≤ 1000) (hf : 0 ≤ f ∧ f ≤ 1000) (hM : 60 * h + m = M) (hV : (60 * M + s) * f = V) (hV0 : 0 ≤ V ∧ V ≤ 100000000000) (hD : M / 10 = D) (hL : lf * (M - D) = Lm) (hL0 : 0 ≤ Lm ∧ Lm ≤ 100000000) (hfr : V + x - Lm = fr) (hxf : x < f) (hs0 : s = 0) (hu : u ≤ x) (ht : la < fr) (w : World)
    (HC : ∀ w, Calls Tryz.prog 20 #[.agg #[.int .i64 n, .int .i64 d, .bool true]] w fun e w' => e = .returned (.int .i64 0) ∧ Below w.heap.size w w')
    (HF : ∀ w, Calls Tryz.prog 38 #[.agg #[.int .i64 n, .int .i64 d, .bool true]] w fun e w' => e = .returned (.int .i64 f) ∧ Below w.heap.size w w')
    (H1 : ∀ B w, RdAt w B l 0 false → Calls Tryz.prog 29 #[.pointer (some ⟨B, 0, none⟩), .int .i64 2] w fun e w' => e = .returned (.int .i64 h) ∧ RdAt w' B l k1 b1 ∧ Below B w w')
    (H2 : ∀ B w, RdAt w B l k1 b1 → Calls Tryz.prog 30 #[.pointer (some ⟨B, 0, none⟩), .int .u8 58] w fun e w' => e = .returned (.tuple #[]) ∧ RdAt w' B l k2 b2 ∧ Below B w w')
    (H3 : ∀ B w, RdAt w B l k2 b2 → Calls Tryz.prog 31 #[.pointer (some ⟨B, 0, none⟩)] w fun e w' => e = .returned (.int .i64 m) ∧ RdAt w' B l k3 b3 ∧ Below B w w')
    (H4 : ∀ B w, RdAt w B l k3 b3 → Calls Tryz.prog 30 #[.pointer (some ⟨B, 0, none⟩), .int .u8 58] w fun e w' => e = .returned (.tuple #[]) ∧ RdAt w' B l k4 b4 ∧ Below B w w')
    (H5 : ∀ B w, RdAt w B l k4 b4 → Calls Tryz.prog 31 #[.pointer (some ⟨B, 0, none⟩)] w fun e w' => e = .returned (.int .i64 s) ∧ RdAt w' B l k5 b5 ∧ Below B w w')
    (H6 : ∀ B w, RdAt w B l k5 b5 → Calls Tryz.prog 30 #[.pointer (some ⟨B, 0, none⟩), .int .u8 59] w fun e w' => e = .returned (.tuple #[]) ∧ RdAt w' B l k6 b6 ∧ Below B w w')
    (HV : ∀ w, Calls Tryz.prog 42 #[.int .i64 f] w fun e w' => e = .returned (.int .i64 (wd : Nat)) ∧ w' = w)
    (H7 : ∀ B w, RdAt w B l k6 b6 → Calls Tryz.prog 32 #[.pointer (some ⟨B, 0, none⟩), .int .i64 (wd : Nat)] w fun e w' => e = .returned (.int .i64 x) ∧ RdAt w' B l l.length false ∧ Below B w w')
    (HO : ∀ w, Calls Tryz.prog 40 #[.agg #[.int .i64 n, .int .i64 d, .bool true], .int .i64 m] w fun e w' => e = .returned (.int .i64 u) ∧ Below w.heap.size w w')
    (HL : ∀ w, Calls Tryz.prog 39 #[.agg #[.int .i64 n, .int .i64 d, .bool true]] w fun e w' => e = .returned (.int .i64 lf) ∧ Below w.heap.size w w')
    (HA : ∀ w, Calls Tryz.prog 37 #[.agg #[.int .i64 n, .int .i64 d, .bool true]] w fun e w' => e = .returned (.int .i64 la) ∧ Below w.heap.size w w') :
    Calls Tryz.prog 74 #[.agg #[.int .i64 n, .int .i64 d, .bool true], .string (bs l)] w fun e w' => e = .returned (.tuple #[.int .i64 0, .int .i64 31]) ∧ Below w.heap.size w w' := by
  have HC := hideR HC
  have HF := hideR HF
  have H1 := hideR H1
  have H2 := hideR H2
  have H3 := hideR H3
  have H4 := hideR H4
  have H5 := hideR H5
  have H6 := hideR H6
  have HV := hideR HV
  have H7 := hideR H7
  have HO := hideR HO
  have HL := hideR HL
  have HA := hideR HA
  have hsz := bs_size l
  subst hs0
  rw [Int.add_zero] at hV
  go_enter Tryz.func74, Tryz.ntmps74
  go_wp2_with fail
  go_at_call 20
  refine (HC.out _).mono ?_
  rintro e w1 ⟨rfl, b1⟩
  have A1 := ((RateAt.new w n d true).keep b1)
  have B1 := bup (bel1 w _) b1
  clear b1
  obtain ⟨_, a0, a1, a2⟩ := id A1
  go_wp2_with fail
  go_at_call 38
  refine (HF.out _).mono ?_
  rintro e w2 ⟨rfl, b2⟩
  have A2 := (A1.keep b2)
  have B2 := bup B1 b2
  clear A1 B1 a0 a1 a2
  clear b2
  obtain ⟨_, a0, a1, a2⟩ := id A2
  go_wp2_with fail
  have hAX := A2.1
  have X2 := RdAt.new w2 l
  have A2 := A2.alloc (.cells #[.string (bs l), .int .i64 0, .bool false] 66)
  have B2 := bup B2 (bel1 w2 (.cells #[.string (bs l), .int .i64 0, .bool false] 66))
  have hWX := B2.size
  go_at_call 29
  refine (H1.out _ _ X2).mono ?_
  rintro e w3 ⟨rfl, X3, b3⟩
  have A3 := A2.under b3 hAX
  have B3 := B2.trans (b3.mono (Nat.le_of_lt hAX))
  clear A2 B2 X2 b3  a0 a1 a2 H1
  clear hWX
  generalize w2.heap.size = X at *
  obtain ⟨_, a0, a1, a2⟩ := id A3
  obtain ⟨_, x0, x1, x2, x3, x4⟩ := id X3
  go_wp2_with fail
  go_at_call 30
  refine (H2.out _ _ X3).mono ?_
  rintro e w4 ⟨rfl, X4, b4⟩
  have A4 := A3.under b4 hAX
  have B4 := B3.trans (b4.mono (Nat.le_of_lt hAX))
  clear A3 B3 X3 b4 x0 x1 x2 x3 x4 a0 a1 a2 H2
  obtain ⟨_, a0, a1, a2⟩ := id A4
  obtain ⟨_, x0, x1, x2, x3, x4⟩ := id X4
  go_wp2_with fail
  go_at_call 31
  refine (H3.out _ _ X4).mono ?_
  rintro e w5 ⟨rfl, X5, b5⟩
  have A5 := A4.under b5 hAX
  have B5 := B4.trans (b5.mono (Nat.le_of_lt hAX))
  clear A4 B4 X4 b5 x0 x1 x2 x3 x4 a0 a1 a2 H3
  obtain ⟨_, a0, a1, a2⟩ := id A5
  obtain ⟨_, x0, x1, x2, x3, x4⟩ := id X5
  go_wp2_with fail
  go_at_call 30
  refine (H4.out _ _ X5).mono ?_
  rintro e w6 ⟨rfl, X6, b6⟩
  have A6 := A5.under b6 hAX
  have B6 := B5.trans (b6.mono (Nat.le_of_lt hAX))
  clear A5 B5 X5 b6 x0 x1 x2 x3 x4 a0 a1 a2 H4
  obtain ⟨_, a0, a1, a2⟩ := id A6
  obtain ⟨_, x0, x1, x2, x3, x4⟩ := id X6
  go_wp2_with fail
  go_at_call 31
  refine (H5.out _ _ X6).mono ?_
  rintro e w7 ⟨rfl, X7, b7⟩
  have A7 := A6.under b7 hAX
  have B7 := B6.trans (b7.mono (Nat.le_of_lt hAX))
  clear A6 B6 X6 b7 x0 x1 x2 x3 x4 a0 a1 a2 H5
  obtain ⟨_, a0, a1, a2⟩ := id A7
  obtain ⟨_, x0, x1, x2, x3, x4⟩ := id X7
  go_wp2_with fail
  go_at_call 30
  refine (H6.out _ _ X7).mono ?_
  rintro e w8 ⟨rfl, X8, b8⟩
  have A8 := A7.under b8 hAX
  have B8 := B7.trans (b8.mono (Nat.le_of_lt hAX))
  clear A7 B7 X7 b8 x0 x1 x2 x3 x4 a0 a1 a2 H6
  obtain ⟨_, a0, a1, a2⟩ := id A8
  obtain ⟨_, x0, x1, x2, x3, x4⟩ := id X8
  go_wp2_with fail
  go_at_call 42
  refine (HV.out _).mono ?_
  rintro e wv ⟨rfl, hwv⟩
  obtain rfl := hwv.symm
  go_wp2_with fail
  go_at_call 32
  refine (H7.out _ _ X8).mono ?_
  rintro e w9 ⟨rfl, X9, b9⟩
  have A9 := A8.under b9 hAX
  have B9 := B8.trans (b9.mono (Nat.le_of_lt hAX))
  clear A8 B8 X8 b9 x0 x1 x2 x3 x4 a0 a1 a2 H7
  obtain ⟨_, a0, a1, a2⟩ := id A9
  obtain ⟨_, x0, x1, x2, x3, x4⟩ := id X9
  go_wp2_with fail
  go_at_call 40
  refine (HO.out _).mono ?_
  rintro e w10 ⟨rfl, b10⟩
  have A10 := A9.keep b10
  have B10 := bup B9 b10
  clear A9 B9 b10 a0 a1 a2 HO
  obtain ⟨_, a0, a1, a2⟩ := id A10
  go_wp2_with fail
  go_at_call 39
  refine (HL.out _).mono ?_
  rintro e w11 ⟨rfl, b11⟩
  have A11 := A10.keep b11
  have B11 := bup B10 b11
  clear A10 B10 b11 a0 a1 a2 HL
  obtain ⟨_, a0, a1, a2⟩ := id A11
  go_wp2_with fail
  go_at_call 37
  refine (HA.out _).mono ?_
  rintro e w12 ⟨rfl, b12⟩
  have A12 := A11.keep b12
  have B12 := bup B11 b12
  clear A11 B11 b12 a0 a1 a2 HA
  obtain ⟨_, a0, a1, a2⟩ := id A12
  go_wp2_with fail
  go_ret2
  exact ⟨rfl, B12⟩
set_option maxRecDepth 100000 in
set_option maxHeartbeats 2000000 in
theorem rnum_k0t (n d f h m s x : Int) (l : List UInt8) (k1 k2 k3 k4 k5 k6 wd : Nat) (b1 b2 b3 b4 b5 b6 : Bool) (lf la u M V D Lm fr : Int) (hh : 0 ≤ h ∧ h ≤ 1000) (hm : 0 ≤ m ∧ m ≤ 1000) (hs : 0 ≤ s ∧ s ≤ 1000) (hx : 0 ≤ x ∧ x ≤ 1000) (hf : 0 ≤ f ∧ f ≤ 1000) (hM : 60 * h + m = M) (hV : (60 * M + s) * f = V) (hV0 : 0 ≤ V ∧ V ≤ 100000000000) (hD : M / 10 = D) (hL : lf * (M - D) = Lm) (hL0 : 0 ≤ Lm ∧ Lm ≤ 100000000) (hfr : V + x - Lm = fr) (hxf : x < f) (hs0 : s = 0) (hu : u ≤ x) (ht : fr ≤ la) (w : World)
    (HC : ∀ w, Calls Tryz.prog 20 #[.agg #[.int .i64 n, .int .i64 d, .bool true]] w fun e w' => e = .returned (.int .i64 0) ∧ Below w.heap.size w w')
    (HF : ∀ w, Calls Tryz.prog 38 #[.agg #[.int .i64 n, .int .i64 d, .bool true]] w fun e w' => e = .returned (.int .i64 f) ∧ Below w.heap.size w w')
    (H1 : ∀ B w, RdAt w B l 0 false → Calls Tryz.prog 29 #[.pointer (some ⟨B, 0, none⟩), .int .i64 2] w fun e w' => e = .returned (.int .i64 h) ∧ RdAt w' B l k1 b1 ∧ Below B w w')
    (H2 : ∀ B w, RdAt w B l k1 b1 → Calls Tryz.prog 30 #[.pointer (some ⟨B, 0, none⟩), .int .u8 58] w fun e w' => e = .returned (.tuple #[]) ∧ RdAt w' B l k2 b2 ∧ Below B w w')
    (H3 : ∀ B w, RdAt w B l k2 b2 → Calls Tryz.prog 31 #[.pointer (some ⟨B, 0, none⟩)] w fun e w' => e = .returned (.int .i64 m) ∧ RdAt w' B l k3 b3 ∧ Below B w w')
    (H4 : ∀ B w, RdAt w B l k3 b3 → Calls Tryz.prog 30 #[.pointer (some ⟨B, 0, none⟩), .int .u8 58] w fun e w' => e = .returned (.tuple #[]) ∧ RdAt w' B l k4 b4 ∧ Below B w w')
    (H5 : ∀ B w, RdAt w B l k4 b4 → Calls Tryz.prog 31 #[.pointer (some ⟨B, 0, none⟩)] w fun e w' => e = .returned (.int .i64 s) ∧ RdAt w' B l k5 b5 ∧ Below B w w')
    (H6 : ∀ B w, RdAt w B l k5 b5 → Calls Tryz.prog 30 #[.pointer (some ⟨B, 0, none⟩), .int .u8 59] w fun e w' => e = .returned (.tuple #[]) ∧ RdAt w' B l k6 b6 ∧ Below B w w')
    (HV : ∀ w, Calls Tryz.prog 42 #[.int .i64 f] w fun e w' => e = .returned (.int .i64 (wd : Nat)) ∧ w' = w)
    (H7 : ∀ B w, RdAt w B l k6 b6 → Calls Tryz.prog 32 #[.pointer (some ⟨B, 0, none⟩), .int .i64 (wd : Nat)] w fun e w' => e = .returned (.int .i64 x) ∧ RdAt w' B l l.length false ∧ Below B w w')
    (HO : ∀ w, Calls Tryz.prog 40 #[.agg #[.int .i64 n, .int .i64 d, .bool true], .int .i64 m] w fun e w' => e = .returned (.int .i64 u) ∧ Below w.heap.size w w')
    (HL : ∀ w, Calls Tryz.prog 39 #[.agg #[.int .i64 n, .int .i64 d, .bool true]] w fun e w' => e = .returned (.int .i64 lf) ∧ Below w.heap.size w w')
    (HA : ∀ w, Calls Tryz.prog 37 #[.agg #[.int .i64 n, .int .i64 d, .bool true]] w fun e w' => e = .returned (.int .i64 la) ∧ Below w.heap.size w w') :
    Calls Tryz.prog 74 #[.agg #[.int .i64 n, .int .i64 d, .bool true], .string (bs l)] w fun e w' => e = .returned (.tuple #[.int .i64 fr, .int .i64 0]) ∧ Below w.heap.size w w' := by
  have HC := hideR HC
  have HF := hideR HF
  have H1 := hideR H1
  have H2 := hideR H2
  have H3 := hideR H3
  have H4 := hideR H4
  have H5 := hideR H5
  have H6 := hideR H6
  have HV := hideR HV
  have H7 := hideR H7
  have HO := hideR HO
  have HL := hideR HL
  have HA := hideR HA
  have hsz := bs_size l
  subst hs0
  rw [Int.add_zero] at hV
  go_enter Tryz.func74, Tryz.ntmps74
  go_wp2_with fail
  go_at_call 20
  refine (HC.out _).mono ?_
  rintro e w1 ⟨rfl, b1⟩
  have A1 := ((RateAt.new w n d true).keep b1)
  have B1 := bup (bel1 w _) b1
  clear b1
  obtain ⟨_, a0, a1, a2⟩ := id A1
  go_wp2_with fail
  go_at_call 38
  refine (HF.out _).mono ?_
  rintro e w2 ⟨rfl, b2⟩
  have A2 := (A1.keep b2)
  have B2 := bup B1 b2
  clear A1 B1 a0 a1 a2
  clear b2
  obtain ⟨_, a0, a1, a2⟩ := id A2
  go_wp2_with fail
  have hAX := A2.1
  have X2 := RdAt.new w2 l
  have A2 := A2.alloc (.cells #[.string (bs l), .int .i64 0, .bool false] 66)
  have B2 := bup B2 (bel1 w2 (.cells #[.string (bs l), .int .i64 0, .bool false] 66))
  have hWX := B2.size
  go_at_call 29
  refine (H1.out _ _ X2).mono ?_
  rintro e w3 ⟨rfl, X3, b3⟩
  have A3 := A2.under b3 hAX
  have B3 := B2.trans (b3.mono (Nat.le_of_lt hAX))
  clear A2 B2 X2 b3  a0 a1 a2 H1
  clear hWX
  generalize w2.heap.size = X at *
  obtain ⟨_, a0, a1, a2⟩ := id A3
  obtain ⟨_, x0, x1, x2, x3, x4⟩ := id X3
  go_wp2_with fail
  go_at_call 30
  refine (H2.out _ _ X3).mono ?_
  rintro e w4 ⟨rfl, X4, b4⟩
  have A4 := A3.under b4 hAX
  have B4 := B3.trans (b4.mono (Nat.le_of_lt hAX))
  clear A3 B3 X3 b4 x0 x1 x2 x3 x4 a0 a1 a2 H2
  obtain ⟨_, a0, a1, a2⟩ := id A4
  obtain ⟨_, x0, x1, x2, x3, x4⟩ := id X4
  go_wp2_with fail
  go_at_call 31
  refine (H3.out _ _ X4).mono ?_
  rintro e w5 ⟨rfl, X5, b5⟩
  have A5 := A4.under b5 hAX
  have B5 := B4.trans (b5.mono (Nat.le_of_lt hAX))
  clear A4 B4 X4 b5 x0 x1 x2 x3 x4 a0 a1 a2 H3
  obtain ⟨_, a0, a1, a2⟩ := id A5
  obtain ⟨_, x0, x1, x2, x3, x4⟩ := id X5
  go_wp2_with fail
  go_at_call 30
  refine (H4.out _ _ X5).mono ?_
  rintro e w6 ⟨rfl, X6, b6⟩
  have A6 := A5.under b6 hAX
  have B6 := B5.trans (b6.mono (Nat.le_of_lt hAX))
  clear A5 B5 X5 b6 x0 x1 x2 x3 x4 a0 a1 a2 H4
  obtain ⟨_, a0, a1, a2⟩ := id A6
  obtain ⟨_, x0, x1, x2, x3, x4⟩ := id X6
  go_wp2_with fail
  go_at_call 31
  refine (H5.out _ _ X6).mono ?_
  rintro e w7 ⟨rfl, X7, b7⟩
  have A7 := A6.under b7 hAX
  have B7 := B6.trans (b7.mono (Nat.le_of_lt hAX))
  clear A6 B6 X6 b7 x0 x1 x2 x3 x4 a0 a1 a2 H5
  obtain ⟨_, a0, a1, a2⟩ := id A7
  obtain ⟨_, x0, x1, x2, x3, x4⟩ := id X7
  go_wp2_with fail
  go_at_call 30
  refine (H6.out _ _ X7).mono ?_
  rintro e w8 ⟨rfl, X8, b8⟩
  have A8 := A7.under b8 hAX
  have B8 := B7.trans (b8.mono (Nat.le_of_lt hAX))
  clear A7 B7 X7 b8 x0 x1 x2 x3 x4 a0 a1 a2 H6
  obtain ⟨_, a0, a1, a2⟩ := id A8
  obtain ⟨_, x0, x1, x2, x3, x4⟩ := id X8
  go_wp2_with fail
  go_at_call 42
  refine (HV.out _).mono ?_
  rintro e wv ⟨rfl, hwv⟩
  obtain rfl := hwv.symm
  go_wp2_with fail
  go_at_call 32
  refine (H7.out _ _ X8).mono ?_
  rintro e w9 ⟨rfl, X9, b9⟩
  have A9 := A8.under b9 hAX
  have B9 := B8.trans (b9.mono (Nat.le_of_lt hAX))
  clear A8 B8 X8 b9 x0 x1 x2 x3 x4 a0 a1 a2 H7
  obtain ⟨_, a0, a1, a2⟩ := id A9
  obtain ⟨_, x0, x1, x2, x3, x4⟩ := id X9
  go_wp2_with fail
  go_at_call 40
  refine (HO.out _).mono ?_
  rintro e w10 ⟨rfl, b10⟩
  have A10 := A9.keep b10
  have B10 := bup B9 b10
  clear A9 B9 b10 a0 a1 a2 HO
  obtain ⟨_, a0, a1, a2⟩ := id A10
  go_wp2_with fail
  go_at_call 39
  refine (HL.out _).mono ?_
  rintro e w11 ⟨rfl, b11⟩
  have A11 := A10.keep b11
  have B11 := bup B10 b11
  clear A10 B10 b11 a0 a1 a2 HL
  obtain ⟨_, a0, a1, a2⟩ := id A11
  go_wp2_with fail
  go_at_call 37
  refine (HA.out _).mono ?_
  rintro e w12 ⟨rfl, b12⟩
  have A12 := A11.keep b12
  have B12 := bup B11 b12
  clear A11 B11 b12 a0 a1 a2 HA
  obtain ⟨_, a0, a1, a2⟩ := id A12
  go_wp2_with fail
  go_ret2
  exact ⟨rfl, B12⟩
set_option maxRecDepth 100000 in
set_option maxHeartbeats 2000000 in
theorem rnum_tzt (n d f h m s x : Int) (l : List UInt8) (k1 k2 k3 k4 k5 k6 wd : Nat) (b1 b2 b3 b4 b5 b6 : Bool) (lf la M V D Lm fr : Int) (hh : 0 ≤ h ∧ h ≤ 1000) (hm : 0 ≤ m ∧ m ≤ 1000) (hs : 0 ≤ s ∧ s ≤ 1000) (hx : 0 ≤ x ∧ x ≤ 1000) (hf : 0 ≤ f ∧ f ≤ 1000) (hM : 60 * h + m = M) (hV : (60 * M + s) * f = V) (hV0 : 0 ≤ V ∧ V ≤ 100000000000) (hD : M / 10 = D) (hL : lf * (M - D) = Lm) (hL0 : 0 ≤ Lm ∧ Lm ≤ 100000000) (hfr : V + x - Lm = fr) (hxf : x < f) (hs2 : (s == 0) = false) (ht : la < fr) (w : World)
    (HC : ∀ w, Calls Tryz.prog 20 #[.agg #[.int .i64 n, .int .i64 d, .bool true]] w fun e w' => e = .returned (.int .i64 0) ∧ Below w.heap.size w w')
    (HF : ∀ w, Calls Tryz.prog 38 #[.agg #[.int .i64 n, .int .i64 d, .bool true]] w fun e w' => e = .returned (.int .i64 f) ∧ Below w.heap.size w w')
    (H1 : ∀ B w, RdAt w B l 0 false → Calls Tryz.prog 29 #[.pointer (some ⟨B, 0, none⟩), .int .i64 2] w fun e w' => e = .returned (.int .i64 h) ∧ RdAt w' B l k1 b1 ∧ Below B w w')
    (H2 : ∀ B w, RdAt w B l k1 b1 → Calls Tryz.prog 30 #[.pointer (some ⟨B, 0, none⟩), .int .u8 58] w fun e w' => e = .returned (.tuple #[]) ∧ RdAt w' B l k2 b2 ∧ Below B w w')
    (H3 : ∀ B w, RdAt w B l k2 b2 → Calls Tryz.prog 31 #[.pointer (some ⟨B, 0, none⟩)] w fun e w' => e = .returned (.int .i64 m) ∧ RdAt w' B l k3 b3 ∧ Below B w w')
    (H4 : ∀ B w, RdAt w B l k3 b3 → Calls Tryz.prog 30 #[.pointer (some ⟨B, 0, none⟩), .int .u8 58] w fun e w' => e = .returned (.tuple #[]) ∧ RdAt w' B l k4 b4 ∧ Below B w w')
    (H5 : ∀ B w, RdAt w B l k4 b4 → Calls Tryz.prog 31 #[.pointer (some ⟨B, 0, none⟩)] w fun e w' => e = .returned (.int .i64 s) ∧ RdAt w' B l k5 b5 ∧ Below B w w')
    (H6 : ∀ B w, RdAt w B l k5 b5 → Calls Tryz.prog 30 #[.pointer (some ⟨B, 0, none⟩), .int .u8 59] w fun e w' => e = .returned (.tuple #[]) ∧ RdAt w' B l k6 b6 ∧ Below B w w')
    (HV : ∀ w, Calls Tryz.prog 42 #[.int .i64 f] w fun e w' => e = .returned (.int .i64 (wd : Nat)) ∧ w' = w)
    (H7 : ∀ B w, RdAt w B l k6 b6 → Calls Tryz.prog 32 #[.pointer (some ⟨B, 0, none⟩), .int .i64 (wd : Nat)] w fun e w' => e = .returned (.int .i64 x) ∧ RdAt w' B l l.length false ∧ Below B w w')
    (HL : ∀ w, Calls Tryz.prog 39 #[.agg #[.int .i64 n, .int .i64 d, .bool true]] w fun e w' => e = .returned (.int .i64 lf) ∧ Below w.heap.size w w')
    (HA : ∀ w, Calls Tryz.prog 37 #[.agg #[.int .i64 n, .int .i64 d, .bool true]] w fun e w' => e = .returned (.int .i64 la) ∧ Below w.heap.size w w') :
    Calls Tryz.prog 74 #[.agg #[.int .i64 n, .int .i64 d, .bool true], .string (bs l)] w fun e w' => e = .returned (.tuple #[.int .i64 0, .int .i64 31]) ∧ Below w.heap.size w w' := by
  have HC := hideR HC
  have HF := hideR HF
  have H1 := hideR H1
  have H2 := hideR H2
  have H3 := hideR H3
  have H4 := hideR H4
  have H5 := hideR H5
  have H6 := hideR H6
  have HV := hideR HV
  have H7 := hideR H7
  have HL := hideR HL
  have HA := hideR HA
  have hsz := bs_size l
  go_enter Tryz.func74, Tryz.ntmps74
  go_wp2_with fail
  go_at_call 20
  refine (HC.out _).mono ?_
  rintro e w1 ⟨rfl, b1⟩
  have A1 := ((RateAt.new w n d true).keep b1)
  have B1 := bup (bel1 w _) b1
  clear b1
  obtain ⟨_, a0, a1, a2⟩ := id A1
  go_wp2_with fail
  go_at_call 38
  refine (HF.out _).mono ?_
  rintro e w2 ⟨rfl, b2⟩
  have A2 := (A1.keep b2)
  have B2 := bup B1 b2
  clear A1 B1 a0 a1 a2
  clear b2
  obtain ⟨_, a0, a1, a2⟩ := id A2
  go_wp2_with fail
  have hAX := A2.1
  have X2 := RdAt.new w2 l
  have A2 := A2.alloc (.cells #[.string (bs l), .int .i64 0, .bool false] 66)
  have B2 := bup B2 (bel1 w2 (.cells #[.string (bs l), .int .i64 0, .bool false] 66))
  have hWX := B2.size
  go_at_call 29
  refine (H1.out _ _ X2).mono ?_
  rintro e w3 ⟨rfl, X3, b3⟩
  have A3 := A2.under b3 hAX
  have B3 := B2.trans (b3.mono (Nat.le_of_lt hAX))
  clear A2 B2 X2 b3  a0 a1 a2 H1
  clear hWX
  generalize w2.heap.size = X at *
  obtain ⟨_, a0, a1, a2⟩ := id A3
  obtain ⟨_, x0, x1, x2, x3, x4⟩ := id X3
  go_wp2_with fail
  go_at_call 30
  refine (H2.out _ _ X3).mono ?_
  rintro e w4 ⟨rfl, X4, b4⟩
  have A4 := A3.under b4 hAX
  have B4 := B3.trans (b4.mono (Nat.le_of_lt hAX))
  clear A3 B3 X3 b4 x0 x1 x2 x3 x4 a0 a1 a2 H2
  obtain ⟨_, a0, a1, a2⟩ := id A4
  obtain ⟨_, x0, x1, x2, x3, x4⟩ := id X4
  go_wp2_with fail
  go_at_call 31
  refine (H3.out _ _ X4).mono ?_
  rintro e w5 ⟨rfl, X5, b5⟩
  have A5 := A4.under b5 hAX
  have B5 := B4.trans (b5.mono (Nat.le_of_lt hAX))
  clear A4 B4 X4 b5 x0 x1 x2 x3 x4 a0 a1 a2 H3
  obtain ⟨_, a0, a1, a2⟩ := id A5
  obtain ⟨_, x0, x1, x2, x3, x4⟩ := id X5
  go_wp2_with fail
  go_at_call 30
  refine (H4.out _ _ X5).mono ?_
  rintro e w6 ⟨rfl, X6, b6⟩
  have A6 := A5.under b6 hAX
  have B6 := B5.trans (b6.mono (Nat.le_of_lt hAX))
  clear A5 B5 X5 b6 x0 x1 x2 x3 x4 a0 a1 a2 H4
  obtain ⟨_, a0, a1, a2⟩ := id A6
  obtain ⟨_, x0, x1, x2, x3, x4⟩ := id X6
  go_wp2_with fail
  go_at_call 31
  refine (H5.out _ _ X6).mono ?_
  rintro e w7 ⟨rfl, X7, b7⟩
  have A7 := A6.under b7 hAX
  have B7 := B6.trans (b7.mono (Nat.le_of_lt hAX))
  clear A6 B6 X6 b7 x0 x1 x2 x3 x4 a0 a1 a2 H5
  obtain ⟨_, a0, a1, a2⟩ := id A7
  obtain ⟨_, x0, x1, x2, x3, x4⟩ := id X7
  go_wp2_with fail
  go_at_call 30
  refine (H6.out _ _ X7).mono ?_
  rintro e w8 ⟨rfl, X8, b8⟩
  have A8 := A7.under b8 hAX
  have B8 := B7.trans (b8.mono (Nat.le_of_lt hAX))
  clear A7 B7 X7 b8 x0 x1 x2 x3 x4 a0 a1 a2 H6
  obtain ⟨_, a0, a1, a2⟩ := id A8
  obtain ⟨_, x0, x1, x2, x3, x4⟩ := id X8
  go_wp2_with fail
  go_at_call 42
  refine (HV.out _).mono ?_
  rintro e wv ⟨rfl, hwv⟩
  obtain rfl := hwv.symm
  go_wp2_with fail
  go_at_call 32
  refine (H7.out _ _ X8).mono ?_
  rintro e w9 ⟨rfl, X9, b9⟩
  have A9 := A8.under b9 hAX
  have B9 := B8.trans (b9.mono (Nat.le_of_lt hAX))
  clear A8 B8 X8 b9 x0 x1 x2 x3 x4 a0 a1 a2 H7
  obtain ⟨_, a0, a1, a2⟩ := id A9
  obtain ⟨_, x0, x1, x2, x3, x4⟩ := id X9
  go_wp2_with fail
  go_at_call 39
  refine (HL.out _).mono ?_
  rintro e w10 ⟨rfl, b10⟩
  have A10 := A9.keep b10
  have B10 := bup B9 b10
  clear A9 B9 b10 a0 a1 a2 HL
  obtain ⟨_, a0, a1, a2⟩ := id A10
  go_wp2_with fail
  go_at_call 37
  refine (HA.out _).mono ?_
  rintro e w11 ⟨rfl, b11⟩
  have A11 := A10.keep b11
  have B11 := bup B10 b11
  clear A10 B10 b11 a0 a1 a2 HA
  obtain ⟨_, a0, a1, a2⟩ := id A11
  go_wp2_with fail
  go_ret2
  exact ⟨rfl, B11⟩
set_option maxRecDepth 100000 in
set_option maxHeartbeats 2000000 in
theorem rnum_kzt (n d f h m s x : Int) (l : List UInt8) (k1 k2 k3 k4 k5 k6 wd : Nat) (b1 b2 b3 b4 b5 b6 : Bool) (lf la M V D Lm fr : Int) (hh : 0 ≤ h ∧ h ≤ 1000) (hm : 0 ≤ m ∧ m ≤ 1000) (hs : 0 ≤ s ∧ s ≤ 1000) (hx : 0 ≤ x ∧ x ≤ 1000) (hf : 0 ≤ f ∧ f ≤ 1000) (hM : 60 * h + m = M) (hV : (60 * M + s) * f = V) (hV0 : 0 ≤ V ∧ V ≤ 100000000000) (hD : M / 10 = D) (hL : lf * (M - D) = Lm) (hL0 : 0 ≤ Lm ∧ Lm ≤ 100000000) (hfr : V + x - Lm = fr) (hxf : x < f) (hs2 : (s == 0) = false) (ht : fr ≤ la) (w : World)
    (HC : ∀ w, Calls Tryz.prog 20 #[.agg #[.int .i64 n, .int .i64 d, .bool true]] w fun e w' => e = .returned (.int .i64 0) ∧ Below w.heap.size w w')
    (HF : ∀ w, Calls Tryz.prog 38 #[.agg #[.int .i64 n, .int .i64 d, .bool true]] w fun e w' => e = .returned (.int .i64 f) ∧ Below w.heap.size w w')
    (H1 : ∀ B w, RdAt w B l 0 false → Calls Tryz.prog 29 #[.pointer (some ⟨B, 0, none⟩), .int .i64 2] w fun e w' => e = .returned (.int .i64 h) ∧ RdAt w' B l k1 b1 ∧ Below B w w')
    (H2 : ∀ B w, RdAt w B l k1 b1 → Calls Tryz.prog 30 #[.pointer (some ⟨B, 0, none⟩), .int .u8 58] w fun e w' => e = .returned (.tuple #[]) ∧ RdAt w' B l k2 b2 ∧ Below B w w')
    (H3 : ∀ B w, RdAt w B l k2 b2 → Calls Tryz.prog 31 #[.pointer (some ⟨B, 0, none⟩)] w fun e w' => e = .returned (.int .i64 m) ∧ RdAt w' B l k3 b3 ∧ Below B w w')
    (H4 : ∀ B w, RdAt w B l k3 b3 → Calls Tryz.prog 30 #[.pointer (some ⟨B, 0, none⟩), .int .u8 58] w fun e w' => e = .returned (.tuple #[]) ∧ RdAt w' B l k4 b4 ∧ Below B w w')
    (H5 : ∀ B w, RdAt w B l k4 b4 → Calls Tryz.prog 31 #[.pointer (some ⟨B, 0, none⟩)] w fun e w' => e = .returned (.int .i64 s) ∧ RdAt w' B l k5 b5 ∧ Below B w w')
    (H6 : ∀ B w, RdAt w B l k5 b5 → Calls Tryz.prog 30 #[.pointer (some ⟨B, 0, none⟩), .int .u8 59] w fun e w' => e = .returned (.tuple #[]) ∧ RdAt w' B l k6 b6 ∧ Below B w w')
    (HV : ∀ w, Calls Tryz.prog 42 #[.int .i64 f] w fun e w' => e = .returned (.int .i64 (wd : Nat)) ∧ w' = w)
    (H7 : ∀ B w, RdAt w B l k6 b6 → Calls Tryz.prog 32 #[.pointer (some ⟨B, 0, none⟩), .int .i64 (wd : Nat)] w fun e w' => e = .returned (.int .i64 x) ∧ RdAt w' B l l.length false ∧ Below B w w')
    (HL : ∀ w, Calls Tryz.prog 39 #[.agg #[.int .i64 n, .int .i64 d, .bool true]] w fun e w' => e = .returned (.int .i64 lf) ∧ Below w.heap.size w w')
    (HA : ∀ w, Calls Tryz.prog 37 #[.agg #[.int .i64 n, .int .i64 d, .bool true]] w fun e w' => e = .returned (.int .i64 la) ∧ Below w.heap.size w w') :
    Calls Tryz.prog 74 #[.agg #[.int .i64 n, .int .i64 d, .bool true], .string (bs l)] w fun e w' => e = .returned (.tuple #[.int .i64 fr, .int .i64 0]) ∧ Below w.heap.size w w' := by
  have HC := hideR HC
  have HF := hideR HF
  have H1 := hideR H1
  have H2 := hideR H2
  have H3 := hideR H3
  have H4 := hideR H4
  have H5 := hideR H5
  have H6 := hideR H6
  have HV := hideR HV
  have H7 := hideR H7
  have HL := hideR HL
  have HA := hideR HA
  have hsz := bs_size l
  go_enter Tryz.func74, Tryz.ntmps74
  go_wp2_with fail
  go_at_call 20
  refine (HC.out _).mono ?_
  rintro e w1 ⟨rfl, b1⟩
  have A1 := ((RateAt.new w n d true).keep b1)
  have B1 := bup (bel1 w _) b1
  clear b1
  obtain ⟨_, a0, a1, a2⟩ := id A1
  go_wp2_with fail
  go_at_call 38
  refine (HF.out _).mono ?_
  rintro e w2 ⟨rfl, b2⟩
  have A2 := (A1.keep b2)
  have B2 := bup B1 b2
  clear A1 B1 a0 a1 a2
  clear b2
  obtain ⟨_, a0, a1, a2⟩ := id A2
  go_wp2_with fail
  have hAX := A2.1
  have X2 := RdAt.new w2 l
  have A2 := A2.alloc (.cells #[.string (bs l), .int .i64 0, .bool false] 66)
  have B2 := bup B2 (bel1 w2 (.cells #[.string (bs l), .int .i64 0, .bool false] 66))
  have hWX := B2.size
  go_at_call 29
  refine (H1.out _ _ X2).mono ?_
  rintro e w3 ⟨rfl, X3, b3⟩
  have A3 := A2.under b3 hAX
  have B3 := B2.trans (b3.mono (Nat.le_of_lt hAX))
  clear A2 B2 X2 b3  a0 a1 a2 H1
  clear hWX
  generalize w2.heap.size = X at *
  obtain ⟨_, a0, a1, a2⟩ := id A3
  obtain ⟨_, x0, x1, x2, x3, x4⟩ := id X3
  go_wp2_with fail
  go_at_call 30
  refine (H2.out _ _ X3).mono ?_
  rintro e w4 ⟨rfl, X4, b4⟩
  have A4 := A3.under b4 hAX
  have B4 := B3.trans (b4.mono (Nat.le_of_lt hAX))
  clear A3 B3 X3 b4 x0 x1 x2 x3 x4 a0 a1 a2 H2
  obtain ⟨_, a0, a1, a2⟩ := id A4
  obtain ⟨_, x0, x1, x2, x3, x4⟩ := id X4
  go_wp2_with fail
  go_at_call 31
  refine (H3.out _ _ X4).mono ?_
  rintro e w5 ⟨rfl, X5, b5⟩
  have A5 := A4.under b5 hAX
  have B5 := B4.trans (b5.mono (Nat.le_of_lt hAX))
  clear A4 B4 X4 b5 x0 x1 x2 x3 x4 a0 a1 a2 H3
  obtain ⟨_, a0, a1, a2⟩ := id A5
  obtain ⟨_, x0, x1, x2, x3, x4⟩ := id X5
  go_wp2_with fail
  go_at_call 30
  refine (H4.out _ _ X5).mono ?_
  rintro e w6 ⟨rfl, X6, b6⟩
  have A6 := A5.under b6 hAX
  have B6 := B5.trans (b6.mono (Nat.le_of_lt hAX))
  clear A5 B5 X5 b6 x0 x1 x2 x3 x4 a0 a1 a2 H4
  obtain ⟨_, a0, a1, a2⟩ := id A6
  obtain ⟨_, x0, x1, x2, x3, x4⟩ := id X6
  go_wp2_with fail
  go_at_call 31
  refine (H5.out _ _ X6).mono ?_
  rintro e w7 ⟨rfl, X7, b7⟩
  have A7 := A6.under b7 hAX
  have B7 := B6.trans (b7.mono (Nat.le_of_lt hAX))
  clear A6 B6 X6 b7 x0 x1 x2 x3 x4 a0 a1 a2 H5
  obtain ⟨_, a0, a1, a2⟩ := id A7
  obtain ⟨_, x0, x1, x2, x3, x4⟩ := id X7
  go_wp2_with fail
  go_at_call 30
  refine (H6.out _ _ X7).mono ?_
  rintro e w8 ⟨rfl, X8, b8⟩
  have A8 := A7.under b8 hAX
  have B8 := B7.trans (b8.mono (Nat.le_of_lt hAX))
  clear A7 B7 X7 b8 x0 x1 x2 x3 x4 a0 a1 a2 H6
  obtain ⟨_, a0, a1, a2⟩ := id A8
  obtain ⟨_, x0, x1, x2, x3, x4⟩ := id X8
  go_wp2_with fail
  go_at_call 42
  refine (HV.out _).mono ?_
  rintro e wv ⟨rfl, hwv⟩
  obtain rfl := hwv.symm
  go_wp2_with fail
  go_at_call 32
  refine (H7.out _ _ X8).mono ?_
  rintro e w9 ⟨rfl, X9, b9⟩
  have A9 := A8.under b9 hAX
  have B9 := B8.trans (b9.mono (Nat.le_of_lt hAX))
  clear A8 B8 X8 b9 x0 x1 x2 x3 x4 a0 a1 a2 H7
  obtain ⟨_, a0, a1, a2⟩ := id A9
  obtain ⟨_, x0, x1, x2, x3, x4⟩ := id X9
  go_wp2_with fail
  go_at_call 39
  refine (HL.out _).mono ?_
  rintro e w10 ⟨rfl, b10⟩
  have A10 := A9.keep b10
  have B10 := bup B9 b10
  clear A9 B9 b10 a0 a1 a2 HL
  obtain ⟨_, a0, a1, a2⟩ := id A10
  go_wp2_with fail
  go_at_call 37
  refine (HA.out _).mono ?_
  rintro e w11 ⟨rfl, b11⟩
  have A11 := A10.keep b11
  have B11 := bup B10 b11
  clear A10 B10 b11 a0 a1 a2 HA
  obtain ⟨_, a0, a1, a2⟩ := id A11
  go_wp2_with fail
  go_ret2
  exact ⟨rfl, B11⟩
end Go.Proofs.YtaipdckakgohjaaGreatDoor

/- Package code: the number of a label that is laid out of its parts: mathematics. -/
namespace Go.Proofs.YtaipdckakgohjaaGreatDoor
open Go.RowKit Go.Shelf

/-- The label of minute M, second s, number k. -/
def partsL (dr : Bool) (dg M s k : Nat) : List UInt8 := padL (M / 60) 2 ++ [58] ++ padL (M % 60) 2 ++ [58] ++ padL s 2 ++ [if dr = true then 59 else 58] ++ padL k dg
theorem full_two (n d : Int) (dr : Bool) (h : checkI n d dr = 0) : fullI n d * d ≤ 2 * n := by
  obtain ⟨n1, d1, dn, nd, hF⟩ := full_ok n d dr h
  have e := Int.mul_ediv_add_emod (n + d - 1) d
  have r0 := Int.emod_nonneg (n + d - 1) (show d ≠ 0 by omega)
  unfold fullI
  rw [Int.mul_comm]
  omega
theorem parts_read (n d : Int) (dr : Bool) (h : checkI n d dr = 0) (f : Nat) (hf : fullI n d = f) (M s k : Nat) (hM : M < 6000) (hs : s < 60) (hk : k < f) :
    readF n d dr (partsL dr (if 100 < fullI n d then 3 else 2) M s k) = ((((M * 60 + s) * f + k : Nat) : Int), true) := by
  obtain ⟨n1, d1, _, nd, hF⟩ := full_ok n d dr h
  have f1 := hF.1
  have f2 := hF.2.1
  unfold readF partsL
  have e := read_form 2 f (if 100 < fullI n d then 3 else 2) (if dr = true then 59 else 58) false (padL (M / 60) 2 ++ [58]) (padL (M % 60) 2) (padL s 2) (padL k (if 100 < fullI n d then 3 else 2)) _ _ _ _ (pad_two _ (by omega)) (pad_two _ (by omega)) (pad_dg _ _ (by split <;> omega) (by split <;> omega)) (hours_pad 2 _ false (by omega) (by omega) (by omega)) (pad_dig _ _) (pad_dig _ _) (pad_dig _ _) (by omega) (by omega) (by omega)
  simp only [List.append_assoc] at e ⊢
  rw [hf] at e ⊢
  rw [Int.toNat_natCast, e]
  refine Prod.ext ?_ rfl
  show ((((M / 60 : Nat) : Int) * 60 + ((M % 60 : Nat) : Int)) * 60 + (s : Int)) * (f : Int) + (k : Int) = _
  rw [show (((M / 60 : Nat) : Int) * 60 + ((M % 60 : Nat) : Int)) * 60 + (s : Int) = ((M * 60 + s : Nat) : Int) by omega]
  push_cast
  rfl
theorem parts_skip (f l : Int) (h : Full f l) (M s k : Nat) (hs : s < 60) (hk : (k : Int) < f) (N : Int) (hN : N = ((M * 60 + s : Nat) : Int) * f + k) :
    N / (60 * f) = M ∧ N % (60 * f) = s * f + k := by
  obtain ⟨f1, f2, l1, l2⟩ := h
  have e : ((M * 60 + s : Nat) : Int) * f = (60 * f) * M + s * f := by
    push_cast
    grind
  have s0 : 0 ≤ (s : Int) * f := Int.mul_nonneg (by omega) (by omega)
  have s1 : (s : Int) * f ≤ 59 * f := Int.mul_le_mul_of_nonneg_right (by omega) (by omega)
  exact (Int.ediv_emod_unique (show 0 < 60 * f by omega) (a := N) (r := s * f + k) (q := M)).2 ⟨by omega, by omega, by omega⟩
/-- What Number says of such a label. -/
theorem parts_num (n d : Int) (dr : Bool) (h : checkI n d dr = 0) (f : Nat) (hf : fullI n d = f) (l : Int) (hl : (if dr = true then leftI n d else 0) = l) (M s k : Nat) (hM : M < 3000) (hs : s < 60) (hk : k < f) :
    numF n d dr (partsL dr (if 100 < fullI n d then 3 else 2) M s k) = if M % 10 ≠ 0 ∧ (s : Int) * f + k < l then (0, 15) else (((M * 60 + s : Nat) : Int) * f + k - l * ((M : Int) - (M / 10 : Nat)), 0) := by
  obtain ⟨n1, d1, _, nd, hF⟩ := full_ok n d dr h
  have f1 := hF.1
  have f2 := hF.2.1
  have ft := full_two n d dr h
  rw [hl] at hF
  unfold numF
  rw [if_pos h, parts_read n d dr h f hf M s k (by omega) hs hk]
  unfold toldF
  rw [if_neg (by simp), hl, hf]
  rw [hf] at hF ft f1 f2
  obtain ⟨u1, u2⟩ := parts_skip f l hF M s k hs (by omega) (((M * 60 + s) * f + k : Nat) : Int) (by push_cast; rfl)
  simp only
  unfold skipB frmI
  rw [u1, u2]
  obtain ⟨_, _, l1, l2⟩ := hF
  by_cases c : M % 10 ≠ 0 ∧ (s : Int) * f + k < l
  · rw [if_pos c, if_pos (decide_eq_true ⟨by omega, c.2⟩)]
  · rw [if_neg c, if_neg (by
      rw [decide_eq_true_iff]
      intro x
      exact c ⟨by have := x.1; omega, x.2⟩)]
    have e0 : (((M * 60 + s) * f + k : Nat) : Int) = ((M * 60 + s : Nat) : Int) * f + k := by push_cast; rfl
    have e1 : (M : Int) / 10 = ((M / 10 : Nat) : Int) := by omega
    rw [e0, e1]
    have a1 : 0 ≤ l * ((M : Int) - (M / 10 : Nat)) := Int.mul_nonneg l1 (by omega)
    have a2 : l * ((M : Int) - (M / 10 : Nat)) ≤ 4 * M := Int.mul_le_mul l2 (by omega) (by omega) (by omega)
    have a3 : (M : Int) * 60 ≤ ((M * 60 + s : Nat) : Int) * f := by
      have : ((M * 60 + s : Nat) : Int) * 1 ≤ ((M * 60 + s : Nat) : Int) * f := Int.mul_le_mul_of_nonneg_left f1 (by omega)
      omega
    have b1 : ((M * 60 + s : Nat) : Int) * f + k ≤ 180000 * f := by
      have : ((M * 60 + s : Nat) : Int) * f ≤ 179999 * f := Int.mul_le_mul_of_nonneg_right (by omega) (by omega)
      omega
    have b2 : (((M * 60 + s : Nat) : Int) * f + k - l * ((M : Int) - (M / 10 : Nat))) * d ≤ (180000 * f) * d := Int.mul_le_mul_of_nonneg_right (by omega) (by omega)
    have b3 : (180000 * (f : Int)) * d = 180000 * (f * d) := Int.mul_assoc _ _ _
    rw [if_pos ⟨by omega, by omega⟩]
end Go.Proofs.YtaipdckakgohjaaGreatDoor

/- surtitleref5.Number at every text. -/
namespace Go.Proofs.YtaipdckakgohjaaGreatDoor
open Go.RowKit Go.Shelf

theorem mark_le (c : UInt8) (l : List UInt8) (k : Nat) (b : Bool) (h : k ≤ l.length) : (markS c l k b).1 ≤ l.length := by
  unfold markS
  split
  · rename_i e
    obtain ⟨hk, _⟩ := List.getElem?_eq_some_iff.1 e
    exact hk
  · exact h
theorem rd_le (m : Nat) (l : List UInt8) (k : Nat) (b : Bool) (h : k ≤ l.length) : (rdS m l k b).2.1 ≤ l.length := by
  have r := runC_le (l.drop k)
  rw [List.length_drop] at r
  unfold rdS
  split
  · show k + m ≤ _
    omega
  · show k + runC (l.drop k) ≤ _
    omega
theorem hr_le (m : Nat) (l : List UInt8) (k : Nat) (b : Bool) (h : k ≤ l.length) : (hrS m l k b).2.1 ≤ l.length := by
  have r := runC_le (l.drop k)
  rw [List.length_drop] at r
  unfold hrS
  split
  · exact h
  · show k + runC (l.drop k) ≤ _
    omega
/-- What a number that is read from the left says. -/
theorem told_ok (n d : Int) (dr : Bool) (h : checkI n d dr = 0) (f lf : Int) (hf : fullI n d = f) (hl : (if dr = true then leftI n d else 0) = lf) (H M S X : Nat) (hH : H < 1000) (hM : M < 60) (hS : S < 60) (hX : (X : Int) < f) (fr : Int) (hfr : (60 * (60 * (H : Int) + M) + S) * f + X - lf * ((60 * (H : Int) + M) - (60 * (H : Int) + M) / 10) = fr) (u : Int) (hu : (if (M : Int) % 10 = 0 then 0 else lf) = u) :
    toldF n d dr ((((H : Int) * 60 + M) * 60 + S) * f + X, true) = (if S = 0 ∧ (X : Int) < u then (0, 15) else if fr ≤ 360000 * n / d then (fr, 0) else (0, 31)) ∧ (0 ≤ (60 * (60 * (H : Int) + M) + S) * f ∧ (60 * (60 * (H : Int) + M) + S) * f ≤ 100000000000) ∧ (0 ≤ lf * ((60 * (H : Int) + M) - (60 * (H : Int) + M) / 10) ∧ lf * ((60 * (H : Int) + M) - (60 * (H : Int) + M) / 10) ≤ 100000000) := by
  obtain ⟨n1, d1, _, nd, hF⟩ := full_ok n d dr h
  have le := left_eq h
  rw [hl, hf] at le
  rw [hf, hl] at hF
  have lf1 : lf ≤ f := by
    rw [← le]
    have := hF.1
    split <;> omega
  obtain ⟨f1, f2, l1, l2⟩ := id hF
  obtain ⟨u1, u2⟩ := parts_skip f lf hF (60 * H + M) S X hS hX ((((H : Int) * 60 + M) * 60 + S) * f + X) (by
    congr 2
    omega)
  obtain ⟨Q, hQ⟩ : ∃ Q : Int, 60 * (H : Int) + M = Q := ⟨_, rfl⟩
  have q0 : 0 ≤ Q ∧ Q ≤ 60000 := by omega
  have e60 : ((60 * H + M : Nat) : Int) = Q := by omega
  rw [e60] at u1
  rw [hQ] at hfr ⊢
  have v0 : 0 ≤ (60 * Q + S) * f := Int.mul_nonneg (by omega) (by omega)
  have v1 : (60 * Q + S) * f ≤ 4000000 * 240 := Int.mul_le_mul (by omega) f2 (by omega) (by omega)
  have w0 : 0 ≤ lf * (Q - Q / 10) := Int.mul_nonneg l1 (by omega)
  have w1 : lf * (Q - Q / 10) ≤ 4 * Q := Int.mul_le_mul l2 (by omega) (by omega) (by omega)
  have v2 : (60 * Q + S) * 1 ≤ (60 * Q + S) * f := Int.mul_le_mul_of_nonneg_left f1 (by omega)
  refine ⟨?_, ⟨v0, by omega⟩, w0, by omega⟩
  have eN : (((H : Int) * 60 + M) * 60 + S) * f + X = (60 * Q + S) * f + X := by
    congr 2
    omega
  rw [eN] at u1 u2 ⊢
  unfold toldF
  rw [if_neg (by simp), hf, hl]
  simp only
  have ef : frmI f lf ((60 * Q + S) * f + X) = fr := by
    unfold frmI
    rw [u1]
    exact hfr
  have es : skipB f lf ((60 * Q + S) * f + X) = decide (S = 0 ∧ (X : Int) < u) := by
    unfold skipB
    rw [u1, u2]
    refine decide_eq_decide.2 ⟨fun x => ?_, fun x => ?_⟩
    · have s0 : S = 0 := by
        refine Nat.eq_zero_of_not_pos fun y => ?_
        have : 1 * f ≤ (S : Int) * f := Int.mul_le_mul_of_nonneg_right (by omega) (by omega)
        omega
      subst s0
      rw [← hu, if_neg (by omega)]
      have := x.2
      refine ⟨rfl, ?_⟩
      simpa using this
    · obtain ⟨rfl, x2⟩ := x
      rw [← hu] at x2
      by_cases c : (M : Int) % 10 = 0
      · rw [if_pos c] at x2
        omega
      · rw [if_neg c] at x2
        refine ⟨by omega, ?_⟩
        simpa using x2
  rw [ef, es]
  have li := last_iff n d fr d1.1
  by_cases c : S = 0 ∧ (X : Int) < u
  · rw [if_pos (decide_eq_true c), if_pos c]
  · rw [if_neg (by simpa using c), if_neg c]
    by_cases c2 : fr ≤ 360000 * n / d
    · rw [if_pos ⟨by omega, li.1 c2⟩, if_pos c2]
    · rw [if_neg (fun x => c2 (li.2 x.2)), if_neg c2]
set_option maxHeartbeats 1000000 in
theorem rnum_any (n d : Int) (dr : Bool) (l : List UInt8) (hl : l.length ≤ 9223372036854775807) (w : World) :
    Calls Tryz.prog 74 #[.agg #[.int .i64 n, .int .i64 d, .bool dr], .string (bs l)] w fun e w' => e = .returned (.tuple #[.int .i64 (numF n d dr l).1, .int .i64 (numF n d dr l).2]) ∧ Below w.heap.size w w' := by
  have HC := rcheck_any n d dr
  unfold numF
  by_cases h : checkI n d dr = 0
  · rw [if_pos h]
    rw [h] at HC
    obtain ⟨n1, d1, _, nd, hF⟩ := full_ok n d dr h
    have f1 := hF.1
    have f2 := hF.2.1
    have HA := rlast_any n d dr n1 d1
    have HFu := rfull_any n d dr n1 d1
    have HE := fun w => rleft_walk n d (fullI n d) _ dr ⟨by omega, f2⟩ rfl w HFu
    rw [left_eq h] at HE
    have HU := fun (m : Int) (hm : 0 ≤ m ∧ m ≤ 1000) w => rout_walk n d _ m dr ⟨hm.1, by omega⟩ w HE
    obtain ⟨wd, hwd⟩ : ∃ wd : Nat, (if 100 < fullI n d then 3 else 2) = wd := ⟨_, rfl⟩
    have wd3 : wd ≤ 3 := by rw [← hwd]; split <;> omega
    have HV : ∀ w, Calls Tryz.prog 42 #[.int .i64 (fullI n d)] w fun e w' => e = .returned (.int .i64 (wd : Nat)) ∧ w' = w := fun w => by
      have := rwide_any (fullI n d) w
      rw [← hwd, show (((if 100 < fullI n d then 3 else 2 : Nat) : Nat) : Int) = (if 100 < fullI n d then (3 : Int) else 2) by split <;> rfl]
      exact this
    obtain ⟨mk, hmk⟩ : ∃ mk : UInt8, (if dr = true then 59 else 58) = mk := ⟨_, rfl⟩
    have CR := chain_read 2 mk wd (fullI n d).toNat l (by omega)
    unfold readF
    rw [hwd, hmk, CR]
    have CF := fun hb hk => chain_form (least := 2) (mk := mk) (dg := wd) (l := l) (by omega) hb hk
    have FC := fun {a b c e} F => form_chain (least := 2) (mk := mk) (dg := wd) (l := l) (a := a) (b := b) (c := c) (d := e) F
    clear CR
    have h1 := hr_le 2 l 0 false (by omega)
    have H1 : ∀ B w, RdAt w B l 0 false → Calls Tryz.prog 29 #[.pointer (some ⟨B, 0, none⟩), .int .i64 2] w fun e w' => e = .returned (.int .i64 (hrS 2 l 0 false).1) ∧ RdAt w' B l (hrS 2 l 0 false).2.1 (hrS 2 l 0 false).2.2 ∧ Below B w w' := fun B w hh => rhours_any B l 0 2 false (by omega) (by omega) (by omega) hl w hh
    unfold chainS at CF FC ⊢
    simp only at CF FC ⊢
    generalize hrS 2 l 0 false = c1 at *
    have h2 := mark_le 58 l c1.2.1 c1.2.2 h1
    have H2 : ∀ B w, RdAt w B l c1.2.1 c1.2.2 → Calls Tryz.prog 30 #[.pointer (some ⟨B, 0, none⟩), .int .u8 58] w fun e w' => e = .returned (.tuple #[]) ∧ RdAt w' B l (markS 58 l c1.2.1 c1.2.2).1 (markS 58 l c1.2.1 c1.2.2).2 ∧ Below B w w' := fun B w hh => rmark_any B l _ _ 58 hl w hh
    generalize markS 58 l c1.2.1 c1.2.2 = c2 at *
    have h3 : (sxS l c2.1 c2.2).2.1 ≤ l.length := rd_le 2 l c2.1 c2.2 h2
    have H3 := fun B w hh => sixty_any B l c2.1 c2.2 h2 hl w hh
    generalize sxS l c2.1 c2.2 = c3 at *
    have h4 := mark_le 58 l c3.2.1 c3.2.2 h3
    have H4 : ∀ B w, RdAt w B l c3.2.1 c3.2.2 → Calls Tryz.prog 30 #[.pointer (some ⟨B, 0, none⟩), .int .u8 58] w fun e w' => e = .returned (.tuple #[]) ∧ RdAt w' B l (markS 58 l c3.2.1 c3.2.2).1 (markS 58 l c3.2.1 c3.2.2).2 ∧ Below B w w' := fun B w hh => rmark_any B l _ _ 58 hl w hh
    generalize markS 58 l c3.2.1 c3.2.2 = c4 at *
    have h5 : (sxS l c4.1 c4.2).2.1 ≤ l.length := rd_le 2 l c4.1 c4.2 h4
    have H5 := fun B w hh => sixty_any B l c4.1 c4.2 h4 hl w hh
    generalize sxS l c4.1 c4.2 = c5 at *
    have h6 := mark_le mk l c5.2.1 c5.2.2 h5
    have H6 := fun B w hh => rmark_any B l c5.2.1 c5.2.2 mk hl w hh
    generalize markS mk l c5.2.1 c5.2.2 = c6 at *
    have H7 := fun B w hh => rnumber_any B l c6.1 wd c6.2 h6 wd3 hl w hh
    generalize rdS wd l c6.1 c6.2 = c7 at *
    obtain ⟨f, hf⟩ := Int.eq_ofNat_of_zero_le (show 0 ≤ fullI n d by omega)
    rw [hf] at HFu HV f1 f2
    rw [show (fullI n d).toNat = f by omega]
    have fe : ((f : Nat) : Int) = fullI n d := hf.symm
    by_cases ok : c7.2.2 = false ∧ c7.2.1 = l.length ∧ c7.1 < (f : Int)
    · rw [if_pos ok]
      obtain ⟨a, b, c, e, F⟩ := CF ok.1 ok.2.1
      have ch := FC F
      rw [Chain.mk.injEq] at ch
      obtain ⟨z1, z2, z3, z4, z5, z6⟩ := ch
      rw [z1] at H1 ⊢
      rw [z2] at H3 ⊢
      rw [z3] at H5 ⊢
      rw [z4, z5, z6] at H7
      rw [z4] at ok ⊢
      have va : valN a < 1000 := by
        have hv := valN_lt a F.a1 a.length (Nat.le_refl _)
        rw [List.take_length] at hv
        have : (10 : Nat) ^ a.length ≤ 10 ^ 3 := Nat.pow_le_pow_right (by omega) F.a3
        omega
      have vb := F.b3
      have vc := F.c3
      have ve := ok.2.2
      clear F CF FC ok z1 z2 z3 z4 z5 z6
      generalize valN a = va' at *
      generalize valN b = vb' at *
      generalize valN c = vc' at *
      generalize valN e = ve' at *
      have HO := HU (vb' : Int) (by omega)
      obtain ⟨lf, hlf⟩ : ∃ lf, (if dr = true then leftI n d else 0) = lf := ⟨_, rfl⟩
      rw [hlf] at HO HE
      obtain ⟨u, hu⟩ : ∃ u, (if (vb' : Int) % 10 = 0 then 0 else lf) = u := ⟨_, rfl⟩
      rw [hu] at HO
      obtain ⟨fr, hfr⟩ : ∃ fr, (60 * (60 * (va' : Int) + vb') + vc') * (f : Int) + ve' - lf * ((60 * (va' : Int) + vb') - (60 * (va' : Int) + vb') / 10) = fr := ⟨_, rfl⟩
      obtain ⟨T1, T2, T3⟩ := told_ok n d dr h f lf hf hlf va' vb' vc' ve' va vb vc ve fr hfr u hu
      rw [T1]
      clear T1 HU
      generalize 360000 * n / d = la at *
      by_cases s0 : vc' = 0
      · subst s0
        by_cases c1 : (ve' : Int) < u
        · rw [if_pos ⟨rfl, c1⟩]
          cases dr
          · subst hmk
            exact rnum_df n d f _ _ _ l _ _ _ _ _ _ wd _ _ _ _ _ _ u ve c1 w HC HFu H1 H2 H3 H4 H5 H6 HV H7 HO
          · subst hmk
            exact rnum_dt n d f _ _ _ l _ _ _ _ _ _ wd _ _ _ _ _ _ u ve c1 w HC HFu H1 H2 H3 H4 H5 H6 HV H7 HO
        · rw [if_neg (fun x => c1 x.2)]
          by_cases c2 : fr ≤ la
          · rw [if_pos c2]
            cases dr
            · subst hmk
              exact rnum_k0f n d f _ _ _ _ l _ _ _ _ _ _ wd _ _ _ _ _ _ lf la u _ _ _ _ fr (by omega) (by omega) (by omega) (by omega) (by omega) rfl rfl T2 rfl rfl T3 hfr ve rfl (by omega) c2 w HC HFu H1 H2 H3 H4 H5 H6 HV H7 HO HE HA
            · subst hmk
              exact rnum_k0t n d f _ _ _ _ l _ _ _ _ _ _ wd _ _ _ _ _ _ lf la u _ _ _ _ fr (by omega) (by omega) (by omega) (by omega) (by omega) rfl rfl T2 rfl rfl T3 hfr ve rfl (by omega) c2 w HC HFu H1 H2 H3 H4 H5 H6 HV H7 HO HE HA
          · rw [if_neg c2]
            cases dr
            · subst hmk
              exact rnum_t0f n d f _ _ _ _ l _ _ _ _ _ _ wd _ _ _ _ _ _ lf la u _ _ _ _ fr (by omega) (by omega) (by omega) (by omega) (by omega) rfl rfl T2 rfl rfl T3 hfr ve rfl (by omega) (by omega) w HC HFu H1 H2 H3 H4 H5 H6 HV H7 HO HE HA
            · subst hmk
              exact rnum_t0t n d f _ _ _ _ l _ _ _ _ _ _ wd _ _ _ _ _ _ lf la u _ _ _ _ fr (by omega) (by omega) (by omega) (by omega) (by omega) rfl rfl T2 rfl rfl T3 hfr ve rfl (by omega) (by omega) w HC HFu H1 H2 H3 H4 H5 H6 HV H7 HO HE HA
      · have s1 : ((vc' : Int) == 0) = false := by
          rw [beq_eq_false_iff_ne]
          omega
        rw [if_neg (fun x => s0 x.1)]
        by_cases c2 : fr ≤ la
        · rw [if_pos c2]
          cases dr
          · subst hmk
            exact rnum_kzf n d f _ _ _ _ l _ _ _ _ _ _ wd _ _ _ _ _ _ lf la _ _ _ _ fr (by omega) (by omega) (by omega) (by omega) (by omega) rfl rfl T2 rfl rfl T3 hfr ve s1 c2 w HC HFu H1 H2 H3 H4 H5 H6 HV H7 HE HA
          · subst hmk
            exact rnum_kzt n d f _ _ _ _ l _ _ _ _ _ _ wd _ _ _ _ _ _ lf la _ _ _ _ fr (by omega) (by omega) (by omega) (by omega) (by omega) rfl rfl T2 rfl rfl T3 hfr ve s1 c2 w HC HFu H1 H2 H3 H4 H5 H6 HV H7 HE HA
        · rw [if_neg c2]
          cases dr
          · subst hmk
            exact rnum_tzf n d f _ _ _ _ l _ _ _ _ _ _ wd _ _ _ _ _ _ lf la _ _ _ _ fr (by omega) (by omega) (by omega) (by omega) (by omega) rfl rfl T2 rfl rfl T3 hfr ve s1 (by omega) w HC HFu H1 H2 H3 H4 H5 H6 HV H7 HE HA
          · subst hmk
            exact rnum_tzt n d f _ _ _ _ l _ _ _ _ _ _ wd _ _ _ _ _ _ lf la _ _ _ _ fr (by omega) (by omega) (by omega) (by omega) (by omega) rfl rfl T2 rfl rfl T3 hfr ve s1 (by omega) w HC HFu H1 H2 H3 H4 H5 H6 HV H7 HE HA
    · rw [if_neg ok]
      have e13 : toldF n d dr (0, false) = (0, 13) := by
        unfold toldF
        rw [if_pos rfl]
      rw [e13]
      clear CF FC HU
      by_cases b7 : c7.2.2 = false
      · rw [b7] at H7
        by_cases k7 : c7.2.1 = l.length
        · rw [k7] at H7
          have x7 : (f : Int) ≤ c7.1 := Int.le_of_not_gt fun x => ok ⟨b7, k7, x⟩
          cases dr
          · subst hmk
            exact rnum_zf n d f _ _ _ _ l _ _ _ _ _ _ wd _ _ _ _ _ _ x7 w HC HFu H1 H2 H3 H4 H5 H6 HV H7
          · subst hmk
            exact rnum_zt n d f _ _ _ _ l _ _ _ _ _ _ wd _ _ _ _ _ _ x7 w HC HFu H1 H2 H3 H4 H5 H6 HV H7
        · have k8 : ((c7.2.1 : Int) != (l.length : Int)) = true := by
            rw [bne_iff_ne]
            omega
          cases dr
          · subst hmk
            exact rnum_yf n d f _ _ _ _ l _ _ _ _ _ _ _ wd _ _ _ _ _ _ k8 w HC HFu H1 H2 H3 H4 H5 H6 HV H7
          · subst hmk
            exact rnum_yt n d f _ _ _ _ l _ _ _ _ _ _ _ wd _ _ _ _ _ _ k8 w HC HFu H1 H2 H3 H4 H5 H6 HV H7
      · have b8 : c7.2.2 = true := by simpa using b7
        rw [b8] at H7
        cases dr
        · subst hmk
          exact rnum_xf n d f _ _ _ _ l _ _ _ _ _ _ _ wd _ _ _ _ _ _ w HC HFu H1 H2 H3 H4 H5 H6 HV H7
        · subst hmk
          exact rnum_xt n d f _ _ _ _ l _ _ _ _ _ _ _ wd _ _ _ _ _ _ w HC HFu H1 H2 H3 H4 H5 H6 HV H7
  · rw [if_neg h]
    rw [(check_two n d dr).resolve_left h] at HC
    exact rnum_bad n d 14 dr l rfl w HC
end Go.Proofs.YtaipdckakgohjaaGreatDoor
