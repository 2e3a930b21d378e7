/- surtitleref5.Number: walks. -/
import Derived.Test.YtaipdckakgohjaaDoorGR
import Derived.Test.YtaipdckakgohjaaDoorCRefG
namespace Go.Proofs.YtaipdckakgohjaaDoor
open Go.RowKit Go.Shelf
attribute [local go_sem] Oper.semAt_some

theorem RateAt.under {V U : World} {A B : Nat} {n d : Int} {dr : Bool} (h : RateAt V A n d dr) (k : Below B V U) (hAB : A < B) : RateAt U A n d dr :=
  ⟨Nat.lt_of_lt_of_le h.1 k.size, (k.cell (p := ⟨A, 0, none⟩) hAB).trans h.2.1, (k.cell (p := ⟨A, 1, none⟩) hAB).trans h.2.2.1, (k.cell (p := ⟨A, 2, none⟩) hAB).trans h.2.2.2⟩
set_option maxRecDepth 100000 in
set_option maxHeartbeats 2000000 in
theorem rnum_bad (n d c : Int) (dr : Bool) (l : List UInt8) (hc : (c != 0) = true) (w : World)
    (HC : ∀ w, Calls Tryd.prog 21 #[.agg #[.int .i64 n, .int .i64 d, .bool dr]] w fun e w' => e = .returned (.int .i64 c) ∧ Below w.heap.size w w') :
    Calls Tryd.prog 29 #[.agg #[.int .i64 n, .int .i64 d, .bool dr], .string (bs l)] w fun e w' => e = .returned (.tuple #[.int .i64 0, .int .i64 14]) ∧ Below w.heap.size w w' := by
  have HC := hideR HC
  go_enter Tryd.func29, Tryd.ntmps29
  go_wp2_with fail
  go_at_call 21
  refine (HC.out _).mono ?_
  rintro e w1 ⟨rfl, b1⟩
  have A1 := ((RateAt.new w n d dr).keep b1)
  have B1 := bup (bel1 w _) b1
  clear b1
  obtain ⟨_, a0, a1, a2⟩ := id A1
  go_wp2_with fail
  go_ret2
  exact ⟨rfl, B1⟩
set_option maxRecDepth 100000 in
set_option maxHeartbeats 2000000 in
theorem rnum_xf (n d f h m s x : Int) (l : List UInt8) (k1 k2 k3 k4 k5 k6 k7 wd : Nat) (b1 b2 b3 b4 b5 b6 : Bool) (w : World)
    (HC : ∀ w, Calls Tryd.prog 21 #[.agg #[.int .i64 n, .int .i64 d, .bool false]] w fun e w' => e = .returned (.int .i64 0) ∧ Below w.heap.size w w')
    (HF : ∀ w, Calls Tryd.prog 51 #[.agg #[.int .i64 n, .int .i64 d, .bool false]] w fun e w' => e = .returned (.int .i64 f) ∧ Below w.heap.size w w')
    (H1 : ∀ B w, RdAt w B l 0 false → Calls Tryd.prog 60 #[.pointer (some ⟨B, 0, none⟩), .int .i64 2] w fun e w' => e = .returned (.int .i64 h) ∧ RdAt w' B l k1 b1 ∧ Below B w w')
    (H2 : ∀ B w, RdAt w B l k1 b1 → Calls Tryd.prog 61 #[.pointer (some ⟨B, 0, none⟩), .int .u8 58] w fun e w' => e = .returned (.tuple #[]) ∧ RdAt w' B l k2 b2 ∧ Below B w w')
    (H3 : ∀ B w, RdAt w B l k2 b2 → Calls Tryd.prog 62 #[.pointer (some ⟨B, 0, none⟩)] w fun e w' => e = .returned (.int .i64 m) ∧ RdAt w' B l k3 b3 ∧ Below B w w')
    (H4 : ∀ B w, RdAt w B l k3 b3 → Calls Tryd.prog 61 #[.pointer (some ⟨B, 0, none⟩), .int .u8 58] w fun e w' => e = .returned (.tuple #[]) ∧ RdAt w' B l k4 b4 ∧ Below B w w')
    (H5 : ∀ B w, RdAt w B l k4 b4 → Calls Tryd.prog 62 #[.pointer (some ⟨B, 0, none⟩)] w fun e w' => e = .returned (.int .i64 s) ∧ RdAt w' B l k5 b5 ∧ Below B w w')
    (H6 : ∀ B w, RdAt w B l k5 b5 → Calls Tryd.prog 61 #[.pointer (some ⟨B, 0, none⟩), .int .u8 58] w fun e w' => e = .returned (.tuple #[]) ∧ RdAt w' B l k6 b6 ∧ Below B w w')
    (HV : ∀ w, Calls Tryd.prog 54 #[.int .i64 f] w fun e w' => e = .returned (.int .i64 (wd : Nat)) ∧ w' = w)
    (H7 : ∀ B w, RdAt w B l k6 b6 → Calls Tryd.prog 63 #[.pointer (some ⟨B, 0, none⟩), .int .i64 (wd : Nat)] w fun e w' => e = .returned (.int .i64 x) ∧ RdAt w' B l k7 true ∧ Below B w w') :
    Calls Tryd.prog 29 #[.agg #[.int .i64 n, .int .i64 d, .bool false], .string (bs l)] w fun e w' => e = .returned (.tuple #[.int .i64 0, .int .i64 13]) ∧ Below w.heap.size w w' := by
  have HC := hideR HC
  have HF := hideR HF
  have H1 := hideR H1
  have H2 := hideR H2
  have H3 := hideR H3
  have H4 := hideR H4
  have H5 := hideR H5
  have H6 := hideR H6
  have HV := hideR HV
  have H7 := hideR H7
  go_enter Tryd.func29, Tryd.ntmps29
  go_wp2_with fail
  go_at_call 21
  refine (HC.out _).mono ?_
  rintro e w1 ⟨rfl, b1⟩
  have A1 := ((RateAt.new w n d false).keep b1)
  have B1 := bup (bel1 w _) b1
  clear b1
  obtain ⟨_, a0, a1, a2⟩ := id A1
  go_wp2_with fail
  go_at_call 51
  refine (HF.out _).mono ?_
  rintro e w2 ⟨rfl, b2⟩
  have A2 := (A1.keep b2)
  have B2 := bup B1 b2
  clear A1 B1 a0 a1 a2
  clear b2
  obtain ⟨_, a0, a1, a2⟩ := id A2
  go_wp2_with fail
  have hAX := A2.1
  have X2 := RdAt.new w2 l
  have A2 := A2.alloc (.cells #[.string (bs l), .int .i64 0, .bool false] 87)
  have B2 := bup B2 (bel1 w2 (.cells #[.string (bs l), .int .i64 0, .bool false] 87))
  have hWX := B2.size
  go_at_call 60
  refine (H1.out _ _ X2).mono ?_
  rintro e w3 ⟨rfl, X3, b3⟩
  have A3 := A2.under b3 hAX
  have B3 := B2.trans (b3.mono (Nat.le_of_lt hAX))
  clear A2 B2 X2 b3  a0 a1 a2 H1
  clear hWX
  generalize w2.heap.size = X at *
  obtain ⟨_, a0, a1, a2⟩ := id A3
  obtain ⟨_, x0, x1, x2, x3, x4⟩ := id X3
  go_wp2_with fail
  go_at_call 61
  refine (H2.out _ _ X3).mono ?_
  rintro e w4 ⟨rfl, X4, b4⟩
  have A4 := A3.under b4 hAX
  have B4 := B3.trans (b4.mono (Nat.le_of_lt hAX))
  clear A3 B3 X3 b4 x0 x1 x2 x3 x4 a0 a1 a2 H2
  obtain ⟨_, a0, a1, a2⟩ := id A4
  obtain ⟨_, x0, x1, x2, x3, x4⟩ := id X4
  go_wp2_with fail
  go_at_call 62
  refine (H3.out _ _ X4).mono ?_
  rintro e w5 ⟨rfl, X5, b5⟩
  have A5 := A4.under b5 hAX
  have B5 := B4.trans (b5.mono (Nat.le_of_lt hAX))
  clear A4 B4 X4 b5 x0 x1 x2 x3 x4 a0 a1 a2 H3
  obtain ⟨_, a0, a1, a2⟩ := id A5
  obtain ⟨_, x0, x1, x2, x3, x4⟩ := id X5
  go_wp2_with fail
  go_at_call 61
  refine (H4.out _ _ X5).mono ?_
  rintro e w6 ⟨rfl, X6, b6⟩
  have A6 := A5.under b6 hAX
  have B6 := B5.trans (b6.mono (Nat.le_of_lt hAX))
  clear A5 B5 X5 b6 x0 x1 x2 x3 x4 a0 a1 a2 H4
  obtain ⟨_, a0, a1, a2⟩ := id A6
  obtain ⟨_, x0, x1, x2, x3, x4⟩ := id X6
  go_wp2_with fail
  go_at_call 62
  refine (H5.out _ _ X6).mono ?_
  rintro e w7 ⟨rfl, X7, b7⟩
  have A7 := A6.under b7 hAX
  have B7 := B6.trans (b7.mono (Nat.le_of_lt hAX))
  clear A6 B6 X6 b7 x0 x1 x2 x3 x4 a0 a1 a2 H5
  obtain ⟨_, a0, a1, a2⟩ := id A7
  obtain ⟨_, x0, x1, x2, x3, x4⟩ := id X7
  go_wp2_with fail
  go_at_call 61
  refine (H6.out _ _ X7).mono ?_
  rintro e w8 ⟨rfl, X8, b8⟩
  have A8 := A7.under b8 hAX
  have B8 := B7.trans (b8.mono (Nat.le_of_lt hAX))
  clear A7 B7 X7 b8 x0 x1 x2 x3 x4 a0 a1 a2 H6
  obtain ⟨_, a0, a1, a2⟩ := id A8
  obtain ⟨_, x0, x1, x2, x3, x4⟩ := id X8
  go_wp2_with fail
  go_at_call 54
  refine (HV.out _).mono ?_
  rintro e wv ⟨rfl, hwv⟩
  obtain rfl := hwv.symm
  go_wp2_with fail
  go_at_call 63
  refine (H7.out _ _ X8).mono ?_
  rintro e w9 ⟨rfl, X9, b9⟩
  have A9 := A8.under b9 hAX
  have B9 := B8.trans (b9.mono (Nat.le_of_lt hAX))
  clear A8 B8 X8 b9 x0 x1 x2 x3 x4 a0 a1 a2 H7
  obtain ⟨_, a0, a1, a2⟩ := id A9
  obtain ⟨_, x0, x1, x2, x3, x4⟩ := id X9
  go_wp2_with fail
  go_ret2
  exact ⟨rfl, B9⟩
set_option maxRecDepth 100000 in
set_option maxHeartbeats 2000000 in
theorem rnum_yf (n d f h m s x : Int) (l : List UInt8) (k1 k2 k3 k4 k5 k6 k7 wd : Nat) (b1 b2 b3 b4 b5 b6 : Bool) (hk : ((k7 : Int) != (l.length : Int)) = true) (w : World)
    (HC : ∀ w, Calls Tryd.prog 21 #[.agg #[.int .i64 n, .int .i64 d, .bool false]] w fun e w' => e = .returned (.int .i64 0) ∧ Below w.heap.size w w')
    (HF : ∀ w, Calls Tryd.prog 51 #[.agg #[.int .i64 n, .int .i64 d, .bool false]] w fun e w' => e = .returned (.int .i64 f) ∧ Below w.heap.size w w')
    (H1 : ∀ B w, RdAt w B l 0 false → Calls Tryd.prog 60 #[.pointer (some ⟨B, 0, none⟩), .int .i64 2] w fun e w' => e = .returned (.int .i64 h) ∧ RdAt w' B l k1 b1 ∧ Below B w w')
    (H2 : ∀ B w, RdAt w B l k1 b1 → Calls Tryd.prog 61 #[.pointer (some ⟨B, 0, none⟩), .int .u8 58] w fun e w' => e = .returned (.tuple #[]) ∧ RdAt w' B l k2 b2 ∧ Below B w w')
    (H3 : ∀ B w, RdAt w B l k2 b2 → Calls Tryd.prog 62 #[.pointer (some ⟨B, 0, none⟩)] w fun e w' => e = .returned (.int .i64 m) ∧ RdAt w' B l k3 b3 ∧ Below B w w')
    (H4 : ∀ B w, RdAt w B l k3 b3 → Calls Tryd.prog 61 #[.pointer (some ⟨B, 0, none⟩), .int .u8 58] w fun e w' => e = .returned (.tuple #[]) ∧ RdAt w' B l k4 b4 ∧ Below B w w')
    (H5 : ∀ B w, RdAt w B l k4 b4 → Calls Tryd.prog 62 #[.pointer (some ⟨B, 0, none⟩)] w fun e w' => e = .returned (.int .i64 s) ∧ RdAt w' B l k5 b5 ∧ Below B w w')
    (H6 : ∀ B w, RdAt w B l k5 b5 → Calls Tryd.prog 61 #[.pointer (some ⟨B, 0, none⟩), .int .u8 58] w fun e w' => e = .returned (.tuple #[]) ∧ RdAt w' B l k6 b6 ∧ Below B w w')
    (HV : ∀ w, Calls Tryd.prog 54 #[.int .i64 f] w fun e w' => e = .returned (.int .i64 (wd : Nat)) ∧ w' = w)
    (H7 : ∀ B w, RdAt w B l k6 b6 → Calls Tryd.prog 63 #[.pointer (some ⟨B, 0, none⟩), .int .i64 (wd : Nat)] w fun e w' => e = .returned (.int .i64 x) ∧ RdAt w' B l k7 false ∧ Below B w w') :
    Calls Tryd.prog 29 #[.agg #[.int .i64 n, .int .i64 d, .bool false], .string (bs l)] w fun e w' => e = .returned (.tuple #[.int .i64 0, .int .i64 13]) ∧ Below w.heap.size w w' := by
  have HC := hideR HC
  have HF := hideR HF
  have H1 := hideR H1
  have H2 := hideR H2
  have H3 := hideR H3
  have H4 := hideR H4
  have H5 := hideR H5
  have H6 := hideR H6
  have HV := hideR HV
  have H7 := hideR H7
  have hsz := bs_size l
  go_enter Tryd.func29, Tryd.ntmps29
  go_wp2_with fail
  go_at_call 21
  refine (HC.out _).mono ?_
  rintro e w1 ⟨rfl, b1⟩
  have A1 := ((RateAt.new w n d false).keep b1)
  have B1 := bup (bel1 w _) b1
  clear b1
  obtain ⟨_, a0, a1, a2⟩ := id A1
  go_wp2_with fail
  go_at_call 51
  refine (HF.out _).mono ?_
  rintro e w2 ⟨rfl, b2⟩
  have A2 := (A1.keep b2)
  have B2 := bup B1 b2
  clear A1 B1 a0 a1 a2
  clear b2
  obtain ⟨_, a0, a1, a2⟩ := id A2
  go_wp2_with fail
  have hAX := A2.1
  have X2 := RdAt.new w2 l
  have A2 := A2.alloc (.cells #[.string (bs l), .int .i64 0, .bool false] 87)
  have B2 := bup B2 (bel1 w2 (.cells #[.string (bs l), .int .i64 0, .bool false] 87))
  have hWX := B2.size
  go_at_call 60
  refine (H1.out _ _ X2).mono ?_
  rintro e w3 ⟨rfl, X3, b3⟩
  have A3 := A2.under b3 hAX
  have B3 := B2.trans (b3.mono (Nat.le_of_lt hAX))
  clear A2 B2 X2 b3  a0 a1 a2 H1
  clear hWX
  generalize w2.heap.size = X at *
  obtain ⟨_, a0, a1, a2⟩ := id A3
  obtain ⟨_, x0, x1, x2, x3, x4⟩ := id X3
  go_wp2_with fail
  go_at_call 61
  refine (H2.out _ _ X3).mono ?_
  rintro e w4 ⟨rfl, X4, b4⟩
  have A4 := A3.under b4 hAX
  have B4 := B3.trans (b4.mono (Nat.le_of_lt hAX))
  clear A3 B3 X3 b4 x0 x1 x2 x3 x4 a0 a1 a2 H2
  obtain ⟨_, a0, a1, a2⟩ := id A4
  obtain ⟨_, x0, x1, x2, x3, x4⟩ := id X4
  go_wp2_with fail
  go_at_call 62
  refine (H3.out _ _ X4).mono ?_
  rintro e w5 ⟨rfl, X5, b5⟩
  have A5 := A4.under b5 hAX
  have B5 := B4.trans (b5.mono (Nat.le_of_lt hAX))
  clear A4 B4 X4 b5 x0 x1 x2 x3 x4 a0 a1 a2 H3
  obtain ⟨_, a0, a1, a2⟩ := id A5
  obtain ⟨_, x0, x1, x2, x3, x4⟩ := id X5
  go_wp2_with fail
  go_at_call 61
  refine (H4.out _ _ X5).mono ?_
  rintro e w6 ⟨rfl, X6, b6⟩
  have A6 := A5.under b6 hAX
  have B6 := B5.trans (b6.mono (Nat.le_of_lt hAX))
  clear A5 B5 X5 b6 x0 x1 x2 x3 x4 a0 a1 a2 H4
  obtain ⟨_, a0, a1, a2⟩ := id A6
  obtain ⟨_, x0, x1, x2, x3, x4⟩ := id X6
  go_wp2_with fail
  go_at_call 62
  refine (H5.out _ _ X6).mono ?_
  rintro e w7 ⟨rfl, X7, b7⟩
  have A7 := A6.under b7 hAX
  have B7 := B6.trans (b7.mono (Nat.le_of_lt hAX))
  clear A6 B6 X6 b7 x0 x1 x2 x3 x4 a0 a1 a2 H5
  obtain ⟨_, a0, a1, a2⟩ := id A7
  obtain ⟨_, x0, x1, x2, x3, x4⟩ := id X7
  go_wp2_with fail
  go_at_call 61
  refine (H6.out _ _ X7).mono ?_
  rintro e w8 ⟨rfl, X8, b8⟩
  have A8 := A7.under b8 hAX
  have B8 := B7.trans (b8.mono (Nat.le_of_lt hAX))
  clear A7 B7 X7 b8 x0 x1 x2 x3 x4 a0 a1 a2 H6
  obtain ⟨_, a0, a1, a2⟩ := id A8
  obtain ⟨_, x0, x1, x2, x3, x4⟩ := id X8
  go_wp2_with fail
  go_at_call 54
  refine (HV.out _).mono ?_
  rintro e wv ⟨rfl, hwv⟩
  obtain rfl := hwv.symm
  go_wp2_with fail
  go_at_call 63
  refine (H7.out _ _ X8).mono ?_
  rintro e w9 ⟨rfl, X9, b9⟩
  have A9 := A8.under b9 hAX
  have B9 := B8.trans (b9.mono (Nat.le_of_lt hAX))
  clear A8 B8 X8 b9 x0 x1 x2 x3 x4 a0 a1 a2 H7
  obtain ⟨_, a0, a1, a2⟩ := id A9
  obtain ⟨_, x0, x1, x2, x3, x4⟩ := id X9
  go_wp2_with fail
  go_ret2
  exact ⟨rfl, B9⟩
set_option maxRecDepth 100000 in
set_option maxHeartbeats 2000000 in
theorem rnum_zf (n d f h m s x : Int) (l : List UInt8) (k1 k2 k3 k4 k5 k6 wd : Nat) (b1 b2 b3 b4 b5 b6 : Bool) (hx : f ≤ x) (w : World)
    (HC : ∀ w, Calls Tryd.prog 21 #[.agg #[.int .i64 n, .int .i64 d, .bool false]] w fun e w' => e = .returned (.int .i64 0) ∧ Below w.heap.size w w')
    (HF : ∀ w, Calls Tryd.prog 51 #[.agg #[.int .i64 n, .int .i64 d, .bool false]] w fun e w' => e = .returned (.int .i64 f) ∧ Below w.heap.size w w')
    (H1 : ∀ B w, RdAt w B l 0 false → Calls Tryd.prog 60 #[.pointer (some ⟨B, 0, none⟩), .int .i64 2] w fun e w' => e = .returned (.int .i64 h) ∧ RdAt w' B l k1 b1 ∧ Below B w w')
    (H2 : ∀ B w, RdAt w B l k1 b1 → Calls Tryd.prog 61 #[.pointer (some ⟨B, 0, none⟩), .int .u8 58] w fun e w' => e = .returned (.tuple #[]) ∧ RdAt w' B l k2 b2 ∧ Below B w w')
    (H3 : ∀ B w, RdAt w B l k2 b2 → Calls Tryd.prog 62 #[.pointer (some ⟨B, 0, none⟩)] w fun e w' => e = .returned (.int .i64 m) ∧ RdAt w' B l k3 b3 ∧ Below B w w')
    (H4 : ∀ B w, RdAt w B l k3 b3 → Calls Tryd.prog 61 #[.pointer (some ⟨B, 0, none⟩), .int .u8 58] w fun e w' => e = .returned (.tuple #[]) ∧ RdAt w' B l k4 b4 ∧ Below B w w')
    (H5 : ∀ B w, RdAt w B l k4 b4 → Calls Tryd.prog 62 #[.pointer (some ⟨B, 0, none⟩)] w fun e w' => e = .returned (.int .i64 s) ∧ RdAt w' B l k5 b5 ∧ Below B w w')
    (H6 : ∀ B w, RdAt w B l k5 b5 → Calls Tryd.prog 61 #[.pointer (some ⟨B, 0, none⟩), .int .u8 58] w fun e w' => e = .returned (.tuple #[]) ∧ RdAt w' B l k6 b6 ∧ Below B w w')
    (HV : ∀ w, Calls Tryd.prog 54 #[.int .i64 f] w fun e w' => e = .returned (.int .i64 (wd : Nat)) ∧ w' = w)
    (H7 : ∀ B w, RdAt w B l k6 b6 → Calls Tryd.prog 63 #[.pointer (some ⟨B, 0, none⟩), .int .i64 (wd : Nat)] w fun e w' => e = .returned (.int .i64 x) ∧ RdAt w' B l l.length false ∧ Below B w w') :
    Calls Tryd.prog 29 #[.agg #[.int .i64 n, .int .i64 d, .bool false], .string (bs l)] w fun e w' => e = .returned (.tuple #[.int .i64 0, .int .i64 13]) ∧ Below w.heap.size w w' := by
  have HC := hideR HC
  have HF := hideR HF
  have H1 := hideR H1
  have H2 := hideR H2
  have H3 := hideR H3
  have H4 := hideR H4
  have H5 := hideR H5
  have H6 := hideR H6
  have HV := hideR HV
  have H7 := hideR H7
  have hsz := bs_size l
  go_enter Tryd.func29, Tryd.ntmps29
  go_wp2_with fail
  go_at_call 21
  refine (HC.out _).mono ?_
  rintro e w1 ⟨rfl, b1⟩
  have A1 := ((RateAt.new w n d false).keep b1)
  have B1 := bup (bel1 w _) b1
  clear b1
  obtain ⟨_, a0, a1, a2⟩ := id A1
  go_wp2_with fail
  go_at_call 51
  refine (HF.out _).mono ?_
  rintro e w2 ⟨rfl, b2⟩
  have A2 := (A1.keep b2)
  have B2 := bup B1 b2
  clear A1 B1 a0 a1 a2
  clear b2
  obtain ⟨_, a0, a1, a2⟩ := id A2
  go_wp2_with fail
  have hAX := A2.1
  have X2 := RdAt.new w2 l
  have A2 := A2.alloc (.cells #[.string (bs l), .int .i64 0, .bool false] 87)
  have B2 := bup B2 (bel1 w2 (.cells #[.string (bs l), .int .i64 0, .bool false] 87))
  have hWX := B2.size
  go_at_call 60
  refine (H1.out _ _ X2).mono ?_
  rintro e w3 ⟨rfl, X3, b3⟩
  have A3 := A2.under b3 hAX
  have B3 := B2.trans (b3.mono (Nat.le_of_lt hAX))
  clear A2 B2 X2 b3  a0 a1 a2 H1
  clear hWX
  generalize w2.heap.size = X at *
  obtain ⟨_, a0, a1, a2⟩ := id A3
  obtain ⟨_, x0, x1, x2, x3, x4⟩ := id X3
  go_wp2_with fail
  go_at_call 61
  refine (H2.out _ _ X3).mono ?_
  rintro e w4 ⟨rfl, X4, b4⟩
  have A4 := A3.under b4 hAX
  have B4 := B3.trans (b4.mono (Nat.le_of_lt hAX))
  clear A3 B3 X3 b4 x0 x1 x2 x3 x4 a0 a1 a2 H2
  obtain ⟨_, a0, a1, a2⟩ := id A4
  obtain ⟨_, x0, x1, x2, x3, x4⟩ := id X4
  go_wp2_with fail
  go_at_call 62
  refine (H3.out _ _ X4).mono ?_
  rintro e w5 ⟨rfl, X5, b5⟩
  have A5 := A4.under b5 hAX
  have B5 := B4.trans (b5.mono (Nat.le_of_lt hAX))
  clear A4 B4 X4 b5 x0 x1 x2 x3 x4 a0 a1 a2 H3
  obtain ⟨_, a0, a1, a2⟩ := id A5
  obtain ⟨_, x0, x1, x2, x3, x4⟩ := id X5
  go_wp2_with fail
  go_at_call 61
  refine (H4.out _ _ X5).mono ?_
  rintro e w6 ⟨rfl, X6, b6⟩
  have A6 := A5.under b6 hAX
  have B6 := B5.trans (b6.mono (Nat.le_of_lt hAX))
  clear A5 B5 X5 b6 x0 x1 x2 x3 x4 a0 a1 a2 H4
  obtain ⟨_, a0, a1, a2⟩ := id A6
  obtain ⟨_, x0, x1, x2, x3, x4⟩ := id X6
  go_wp2_with fail
  go_at_call 62
  refine (H5.out _ _ X6).mono ?_
  rintro e w7 ⟨rfl, X7, b7⟩
  have A7 := A6.under b7 hAX
  have B7 := B6.trans (b7.mono (Nat.le_of_lt hAX))
  clear A6 B6 X6 b7 x0 x1 x2 x3 x4 a0 a1 a2 H5
  obtain ⟨_, a0, a1, a2⟩ := id A7
  obtain ⟨_, x0, x1, x2, x3, x4⟩ := id X7
  go_wp2_with fail
  go_at_call 61
  refine (H6.out _ _ X7).mono ?_
  rintro e w8 ⟨rfl, X8, b8⟩
  have A8 := A7.under b8 hAX
  have B8 := B7.trans (b8.mono (Nat.le_of_lt hAX))
  clear A7 B7 X7 b8 x0 x1 x2 x3 x4 a0 a1 a2 H6
  obtain ⟨_, a0, a1, a2⟩ := id A8
  obtain ⟨_, x0, x1, x2, x3, x4⟩ := id X8
  go_wp2_with fail
  go_at_call 54
  refine (HV.out _).mono ?_
  rintro e wv ⟨rfl, hwv⟩
  obtain rfl := hwv.symm
  go_wp2_with fail
  go_at_call 63
  refine (H7.out _ _ X8).mono ?_
  rintro e w9 ⟨rfl, X9, b9⟩
  have A9 := A8.under b9 hAX
  have B9 := B8.trans (b9.mono (Nat.le_of_lt hAX))
  clear A8 B8 X8 b9 x0 x1 x2 x3 x4 a0 a1 a2 H7
  obtain ⟨_, a0, a1, a2⟩ := id A9
  obtain ⟨_, x0, x1, x2, x3, x4⟩ := id X9
  go_wp2_with fail
  go_ret2
  exact ⟨rfl, B9⟩
set_option maxRecDepth 100000 in
set_option maxHeartbeats 2000000 in
theorem rnum_df (n d f h m x : Int) (l : List UInt8) (k1 k2 k3 k4 k5 k6 wd : Nat) (b1 b2 b3 b4 b5 b6 : Bool) (u : Int) (hx : x < f) (hu : x < u) (w : World)
    (HC : ∀ w, Calls Tryd.prog 21 #[.agg #[.int .i64 n, .int .i64 d, .bool false]] w fun e w' => e = .returned (.int .i64 0) ∧ Below w.heap.size w w')
    (HF : ∀ w, Calls Tryd.prog 51 #[.agg #[.int .i64 n, .int .i64 d, .bool false]] w fun e w' => e = .returned (.int .i64 f) ∧ Below w.heap.size w w')
    (H1 : ∀ B w, RdAt w B l 0 false → Calls Tryd.prog 60 #[.pointer (some ⟨B, 0, none⟩), .int .i64 2] w fun e w' => e = .returned (.int .i64 h) ∧ RdAt w' B l k1 b1 ∧ Below B w w')
    (H2 : ∀ B w, RdAt w B l k1 b1 → Calls Tryd.prog 61 #[.pointer (some ⟨B, 0, none⟩), .int .u8 58] w fun e w' => e = .returned (.tuple #[]) ∧ RdAt w' B l k2 b2 ∧ Below B w w')
    (H3 : ∀ B w, RdAt w B l k2 b2 → Calls Tryd.prog 62 #[.pointer (some ⟨B, 0, none⟩)] w fun e w' => e = .returned (.int .i64 m) ∧ RdAt w' B l k3 b3 ∧ Below B w w')
    (H4 : ∀ B w, RdAt w B l k3 b3 → Calls Tryd.prog 61 #[.pointer (some ⟨B, 0, none⟩), .int .u8 58] w fun e w' => e = .returned (.tuple #[]) ∧ RdAt w' B l k4 b4 ∧ Below B w w')
    (H5 : ∀ B w, RdAt w B l k4 b4 → Calls Tryd.prog 62 #[.pointer (some ⟨B, 0, none⟩)] w fun e w' => e = .returned (.int .i64 0) ∧ RdAt w' B l k5 b5 ∧ Below B w w')
    (H6 : ∀ B w, RdAt w B l k5 b5 → Calls Tryd.prog 61 #[.pointer (some ⟨B, 0, none⟩), .int .u8 58] w fun e w' => e = .returned (.tuple #[]) ∧ RdAt w' B l k6 b6 ∧ Below B w w')
    (HV : ∀ w, Calls Tryd.prog 54 #[.int .i64 f] w fun e w' => e = .returned (.int .i64 (wd : Nat)) ∧ w' = w)
    (H7 : ∀ B w, RdAt w B l k6 b6 → Calls Tryd.prog 63 #[.pointer (some ⟨B, 0, none⟩), .int .i64 (wd : Nat)] w fun e w' => e = .returned (.int .i64 x) ∧ RdAt w' B l l.length false ∧ Below B w w')
    (HO : ∀ w, Calls Tryd.prog 53 #[.agg #[.int .i64 n, .int .i64 d, .bool false], .int .i64 m] w fun e w' => e = .returned (.int .i64 u) ∧ Below w.heap.size w w') :
    Calls Tryd.prog 29 #[.agg #[.int .i64 n, .int .i64 d, .bool false], .string (bs l)] w fun e w' => e = .returned (.tuple #[.int .i64 0, .int .i64 15]) ∧ Below w.heap.size w w' := by
  have HC := hideR HC
  have HF := hideR HF
  have H1 := hideR H1
  have H2 := hideR H2
  have H3 := hideR H3
  have H4 := hideR H4
  have H5 := hideR H5
  have H6 := hideR H6
  have HV := hideR HV
  have H7 := hideR H7
  have HO := hideR HO
  have hsz := bs_size l
  go_enter Tryd.func29, Tryd.ntmps29
  go_wp2_with fail
  go_at_call 21
  refine (HC.out _).mono ?_
  rintro e w1 ⟨rfl, b1⟩
  have A1 := ((RateAt.new w n d false).keep b1)
  have B1 := bup (bel1 w _) b1
  clear b1
  obtain ⟨_, a0, a1, a2⟩ := id A1
  go_wp2_with fail
  go_at_call 51
  refine (HF.out _).mono ?_
  rintro e w2 ⟨rfl, b2⟩
  have A2 := (A1.keep b2)
  have B2 := bup B1 b2
  clear A1 B1 a0 a1 a2
  clear b2
  obtain ⟨_, a0, a1, a2⟩ := id A2
  go_wp2_with fail
  have hAX := A2.1
  have X2 := RdAt.new w2 l
  have A2 := A2.alloc (.cells #[.string (bs l), .int .i64 0, .bool false] 87)
  have B2 := bup B2 (bel1 w2 (.cells #[.string (bs l), .int .i64 0, .bool false] 87))
  have hWX := B2.size
  go_at_call 60
  refine (H1.out _ _ X2).mono ?_
  rintro e w3 ⟨rfl, X3, b3⟩
  have A3 := A2.under b3 hAX
  have B3 := B2.trans (b3.mono (Nat.le_of_lt hAX))
  clear A2 B2 X2 b3  a0 a1 a2 H1
  clear hWX
  generalize w2.heap.size = X at *
  obtain ⟨_, a0, a1, a2⟩ := id A3
  obtain ⟨_, x0, x1, x2, x3, x4⟩ := id X3
  go_wp2_with fail
  go_at_call 61
  refine (H2.out _ _ X3).mono ?_
  rintro e w4 ⟨rfl, X4, b4⟩
  have A4 := A3.under b4 hAX
  have B4 := B3.trans (b4.mono (Nat.le_of_lt hAX))
  clear A3 B3 X3 b4 x0 x1 x2 x3 x4 a0 a1 a2 H2
  obtain ⟨_, a0, a1, a2⟩ := id A4
  obtain ⟨_, x0, x1, x2, x3, x4⟩ := id X4
  go_wp2_with fail
  go_at_call 62
  refine (H3.out _ _ X4).mono ?_
  rintro e w5 ⟨rfl, X5, b5⟩
  have A5 := A4.under b5 hAX
  have B5 := B4.trans (b5.mono (Nat.le_of_lt hAX))
  clear A4 B4 X4 b5 x0 x1 x2 x3 x4 a0 a1 a2 H3
  obtain ⟨_, a0, a1, a2⟩ := id A5
  obtain ⟨_, x0, x1, x2, x3, x4⟩ := id X5
  go_wp2_with fail
  go_at_call 61
  refine (H4.out _ _ X5).mono ?_
  rintro e w6 ⟨rfl, X6, b6⟩
  have A6 := A5.under b6 hAX
  have B6 := B5.trans (b6.mono (Nat.le_of_lt hAX))
  clear A5 B5 X5 b6 x0 x1 x2 x3 x4 a0 a1 a2 H4
  obtain ⟨_, a0, a1, a2⟩ := id A6
  obtain ⟨_, x0, x1, x2, x3, x4⟩ := id X6
  go_wp2_with fail
  go_at_call 62
  refine (H5.out _ _ X6).mono ?_
  rintro e w7 ⟨rfl, X7, b7⟩
  have A7 := A6.under b7 hAX
  have B7 := B6.trans (b7.mono (Nat.le_of_lt hAX))
  clear A6 B6 X6 b7 x0 x1 x2 x3 x4 a0 a1 a2 H5
  obtain ⟨_, a0, a1, a2⟩ := id A7
  obtain ⟨_, x0, x1, x2, x3, x4⟩ := id X7
  go_wp2_with fail
  go_at_call 61
  refine (H6.out _ _ X7).mono ?_
  rintro e w8 ⟨rfl, X8, b8⟩
  have A8 := A7.under b8 hAX
  have B8 := B7.trans (b8.mono (Nat.le_of_lt hAX))
  clear A7 B7 X7 b8 x0 x1 x2 x3 x4 a0 a1 a2 H6
  obtain ⟨_, a0, a1, a2⟩ := id A8
  obtain ⟨_, x0, x1, x2, x3, x4⟩ := id X8
  go_wp2_with fail
  go_at_call 54
  refine (HV.out _).mono ?_
  rintro e wv ⟨rfl, hwv⟩
  obtain rfl := hwv.symm
  go_wp2_with fail
  go_at_call 63
  refine (H7.out _ _ X8).mono ?_
  rintro e w9 ⟨rfl, X9, b9⟩
  have A9 := A8.under b9 hAX
  have B9 := B8.trans (b9.mono (Nat.le_of_lt hAX))
  clear A8 B8 X8 b9 x0 x1 x2 x3 x4 a0 a1 a2 H7
  obtain ⟨_, a0, a1, a2⟩ := id A9
  obtain ⟨_, x0, x1, x2, x3, x4⟩ := id X9
  go_wp2_with fail
  go_at_call 53
  refine (HO.out _).mono ?_
  rintro e w10 ⟨rfl, b10⟩
  have A10 := A9.keep b10
  have B10 := bup B9 b10
  clear A9 B9 b10 a0 a1 a2 HO
  obtain ⟨_, a0, a1, a2⟩ := id A10
  go_wp2_with fail
  go_ret2
  exact ⟨rfl, B10⟩
set_option maxRecDepth 100000 in
set_option maxHeartbeats 2000000 in
theorem rnum_t0f (n d f h m s x : Int) (l : List UInt8) (k1 k2 k3 k4 k5 k6 wd : Nat) (b1 b2 b3 b4 b5 b6 : Bool) (lf la u M V D Lm fr : Int) (hh : 0 ≤ h ∧ h ≤ 1000) (hm : 0 ≤ m ∧ m ≤ 1000) (hs : 0 ≤ s ∧ s ≤ 1000) (hx : 0 ≤ x ∧ x ≤ 1000) (hf : 0 ≤ f ∧ f ≤ 1000) (hM : 60 * h + m = M) (hV : (60 * M + s) * f = V) (hV0 : 0 ≤ V ∧ V ≤ 100000000000) (hD : M / 10 = D) (hL : lf * (M - D) = Lm) (hL0 : 0 ≤ Lm ∧ Lm ≤ 100000000) (hfr : V + x - Lm = fr) (hxf : x < f) (hs0 : s = 0) (hu : u ≤ x) (ht : la < fr) (w : World)
    (HC : ∀ w, Calls Tryd.prog 21 #[.agg #[.int .i64 n, .int .i64 d, .bool false]] w fun e w' => e = .returned (.int .i64 0) ∧ Below w.heap.size w w')
    (HF : ∀ w, Calls Tryd.prog 51 #[.agg #[.int .i64 n, .int .i64 d, .bool false]] w fun e w' => e = .returned (.int .i64 f) ∧ Below w.heap.size w w')
    (H1 : ∀ B w, RdAt w B l 0 false → Calls Tryd.prog 60 #[.pointer (some ⟨B, 0, none⟩), .int .i64 2] w fun e w' => e = .returned (.int .i64 h) ∧ RdAt w' B l k1 b1 ∧ Below B w w')
    (H2 : ∀ B w, RdAt w B l k1 b1 → Calls Tryd.prog 61 #[.pointer (some ⟨B, 0, none⟩), .int .u8 58] w fun e w' => e = .returned (.tuple #[]) ∧ RdAt w' B l k2 b2 ∧ Below B w w')
    (H3 : ∀ B w, RdAt w B l k2 b2 → Calls Tryd.prog 62 #[.pointer (some ⟨B, 0, none⟩)] w fun e w' => e = .returned (.int .i64 m) ∧ RdAt w' B l k3 b3 ∧ Below B w w')
    (H4 : ∀ B w, RdAt w B l k3 b3 → Calls Tryd.prog 61 #[.pointer (some ⟨B, 0, none⟩), .int .u8 58] w fun e w' => e = .returned (.tuple #[]) ∧ RdAt w' B l k4 b4 ∧ Below B w w')
    (H5 : ∀ B w, RdAt w B l k4 b4 → Calls Tryd.prog 62 #[.pointer (some ⟨B, 0, none⟩)] w fun e w' => e = .returned (.int .i64 s) ∧ RdAt w' B l k5 b5 ∧ Below B w w')
    (H6 : ∀ B w, RdAt w B l k5 b5 → Calls Tryd.prog 61 #[.pointer (some ⟨B, 0, none⟩), .int .u8 58] w fun e w' => e = .returned (.tuple #[]) ∧ RdAt w' B l k6 b6 ∧ Below B w w')
    (HV : ∀ w, Calls Tryd.prog 54 #[.int .i64 f] w fun e w' => e = .returned (.int .i64 (wd : Nat)) ∧ w' = w)
    (H7 : ∀ B w, RdAt w B l k6 b6 → Calls Tryd.prog 63 #[.pointer (some ⟨B, 0, none⟩), .int .i64 (wd : Nat)] w fun e w' => e = .returned (.int .i64 x) ∧ RdAt w' B l l.length false ∧ Below B w w')
    (HO : ∀ w, Calls Tryd.prog 53 #[.agg #[.int .i64 n, .int .i64 d, .bool false], .int .i64 m] w fun e w' => e = .returned (.int .i64 u) ∧ Below w.heap.size w w')
    (HL : ∀ w, Calls Tryd.prog 52 #[.agg #[.int .i64 n, .int .i64 d, .bool false]] w fun e w' => e = .returned (.int .i64 lf) ∧ Below w.heap.size w w')
    (HA : ∀ w, Calls Tryd.prog 49 #[.agg #[.int .i64 n, .int .i64 d, .bool false]] w fun e w' => e = .returned (.int .i64 la) ∧ Below w.heap.size w w') :
    Calls Tryd.prog 29 #[.agg #[.int .i64 n, .int .i64 d, .bool false], .string (bs l)] w fun e w' => e = .returned (.tuple #[.int .i64 0, .int .i64 31]) ∧ Below w.heap.size w w' := by
  have HC := hideR HC
  have HF := hideR HF
  have H1 := hideR H1
  have H2 := hideR H2
  have H3 := hideR H3
  have H4 := hideR H4
  have H5 := hideR H5
  have H6 := hideR H6
  have HV := hideR HV
  have H7 := hideR H7
  have HO := hideR HO
  have HL := hideR HL
  have HA := hideR HA
  have hsz := bs_size l
  subst hs0
  rw [Int.add_zero] at hV
  go_enter Tryd.func29, Tryd.ntmps29
  go_wp2_with fail
  go_at_call 21
  refine (HC.out _).mono ?_
  rintro e w1 ⟨rfl, b1⟩
  have A1 := ((RateAt.new w n d false).keep b1)
  have B1 := bup (bel1 w _) b1
  clear b1
  obtain ⟨_, a0, a1, a2⟩ := id A1
  go_wp2_with fail
  go_at_call 51
  refine (HF.out _).mono ?_
  rintro e w2 ⟨rfl, b2⟩
  have A2 := (A1.keep b2)
  have B2 := bup B1 b2
  clear A1 B1 a0 a1 a2
  clear b2
  obtain ⟨_, a0, a1, a2⟩ := id A2
  go_wp2_with fail
  have hAX := A2.1
  have X2 := RdAt.new w2 l
  have A2 := A2.alloc (.cells #[.string (bs l), .int .i64 0, .bool false] 87)
  have B2 := bup B2 (bel1 w2 (.cells #[.string (bs l), .int .i64 0, .bool false] 87))
  have hWX := B2.size
  go_at_call 60
  refine (H1.out _ _ X2).mono ?_
  rintro e w3 ⟨rfl, X3, b3⟩
  have A3 := A2.under b3 hAX
  have B3 := B2.trans (b3.mono (Nat.le_of_lt hAX))
  clear A2 B2 X2 b3  a0 a1 a2 H1
  clear hWX
  generalize w2.heap.size = X at *
  obtain ⟨_, a0, a1, a2⟩ := id A3
  obtain ⟨_, x0, x1, x2, x3, x4⟩ := id X3
  go_wp2_with fail
  go_at_call 61
  refine (H2.out _ _ X3).mono ?_
  rintro e w4 ⟨rfl, X4, b4⟩
  have A4 := A3.under b4 hAX
  have B4 := B3.trans (b4.mono (Nat.le_of_lt hAX))
  clear A3 B3 X3 b4 x0 x1 x2 x3 x4 a0 a1 a2 H2
  obtain ⟨_, a0, a1, a2⟩ := id A4
  obtain ⟨_, x0, x1, x2, x3, x4⟩ := id X4
  go_wp2_with fail
  go_at_call 62
  refine (H3.out _ _ X4).mono ?_
  rintro e w5 ⟨rfl, X5, b5⟩
  have A5 := A4.under b5 hAX
  have B5 := B4.trans (b5.mono (Nat.le_of_lt hAX))
  clear A4 B4 X4 b5 x0 x1 x2 x3 x4 a0 a1 a2 H3
  obtain ⟨_, a0, a1, a2⟩ := id A5
  obtain ⟨_, x0, x1, x2, x3, x4⟩ := id X5
  go_wp2_with fail
  go_at_call 61
  refine (H4.out _ _ X5).mono ?_
  rintro e w6 ⟨rfl, X6, b6⟩
  have A6 := A5.under b6 hAX
  have B6 := B5.trans (b6.mono (Nat.le_of_lt hAX))
  clear A5 B5 X5 b6 x0 x1 x2 x3 x4 a0 a1 a2 H4
  obtain ⟨_, a0, a1, a2⟩ := id A6
  obtain ⟨_, x0, x1, x2, x3, x4⟩ := id X6
  go_wp2_with fail
  go_at_call 62
  refine (H5.out _ _ X6).mono ?_
  rintro e w7 ⟨rfl, X7, b7⟩
  have A7 := A6.under b7 hAX
  have B7 := B6.trans (b7.mono (Nat.le_of_lt hAX))
  clear A6 B6 X6 b7 x0 x1 x2 x3 x4 a0 a1 a2 H5
  obtain ⟨_, a0, a1, a2⟩ := id A7
  obtain ⟨_, x0, x1, x2, x3, x4⟩ := id X7
  go_wp2_with fail
  go_at_call 61
  refine (H6.out _ _ X7).mono ?_
  rintro e w8 ⟨rfl, X8, b8⟩
  have A8 := A7.under b8 hAX
  have B8 := B7.trans (b8.mono (Nat.le_of_lt hAX))
  clear A7 B7 X7 b8 x0 x1 x2 x3 x4 a0 a1 a2 H6
  obtain ⟨_, a0, a1, a2⟩ := id A8
  obtain ⟨_, x0, x1, x2, x3, x4⟩ := id X8
  go_wp2_with fail
  go_at_call 54
  refine (HV.out _).mono ?_
  rintro e wv ⟨rfl, hwv⟩
  obtain rfl := hwv.symm
  go_wp2_with fail
  go_at_call 63
  refine (H7.out _ _ X8).mono ?_
  rintro e w9 ⟨rfl, X9, b9⟩
  have A9 := A8.under b9 hAX
  have B9 := B8.trans (b9.mono (Nat.le_of_lt hAX))
  clear A8 B8 X8 b9 x0 x1 x2 x3 x4 a0 a1 a2 H7
  obtain ⟨_, a0, a1, a2⟩ := id A9
  obtain ⟨_, x0, x1, x2, x3, x4⟩ := id X9
  go_wp2_with fail
  go_at_call 53
  refine (HO.out _).mono ?_
  rintro e w10 ⟨rfl, b10⟩
  have A10 := A9.keep b10
  have B10 := bup B9 b10
  clear A9 B9 b10 a0 a1 a2 HO
  obtain ⟨_, a0, a1, a2⟩ := id A10
  go_wp2_with fail
  go_at_call 52
  refine (HL.out _).mono ?_
  rintro e w11 ⟨rfl, b11⟩
  have A11 := A10.keep b11
  have B11 := bup B10 b11
  clear A10 B10 b11 a0 a1 a2 HL
  obtain ⟨_, a0, a1, a2⟩ := id A11
  go_wp2_with fail
  go_at_call 49
  refine (HA.out _).mono ?_
  rintro e w12 ⟨rfl, b12⟩
  have A12 := A11.keep b12
  have B12 := bup B11 b12
  clear A11 B11 b12 a0 a1 a2 HA
  obtain ⟨_, a0, a1, a2⟩ := id A12
  go_wp2_with fail
  go_ret2
  exact ⟨rfl, B12⟩
set_option maxRecDepth 100000 in
set_option maxHeartbeats 2000000 in
theorem rnum_k0f (n d f h m s x : Int) (l : List UInt8) (k1 k2 k3 k4 k5 k6 wd : Nat) (b1 b2 b3 b4 b5 b6 : Bool) (lf la u M V D Lm fr : Int) (hh : 0 ≤ h ∧ h ≤ 1000) (hm : 0 ≤ m ∧ m ≤ 1000) (hs : 0 ≤ s ∧ s ≤ 1000) (hx : 0 ≤ x ∧ x ≤ 1000) (hf : 0 ≤ f ∧ f ≤ 1000) (hM : 60 * h + m = M) (hV : (60 * M + s) * f = V) (hV0 : 0 ≤ V ∧ V ≤ 100000000000) (hD : M / 10 = D) (hL : lf * (M - D) = Lm) (hL0 : 0 ≤ Lm ∧ Lm ≤ 100000000) (hfr : V + x - Lm = fr) (hxf : x < f) (hs0 : s = 0) (hu : u ≤ x) (ht : fr ≤ la) (w : World)
    (HC : ∀ w, Calls Tryd.prog 21 #[.agg #[.int .i64 n, .int .i64 d, .bool false]] w fun e w' => e = .returned (.int .i64 0) ∧ Below w.heap.size w w')
    (HF : ∀ w, Calls Tryd.prog 51 #[.agg #[.int .i64 n, .int .i64 d, .bool false]] w fun e w' => e = .returned (.int .i64 f) ∧ Below w.heap.size w w')
    (H1 : ∀ B w, RdAt w B l 0 false → Calls Tryd.prog 60 #[.pointer (some ⟨B, 0, none⟩), .int .i64 2] w fun e w' => e = .returned (.int .i64 h) ∧ RdAt w' B l k1 b1 ∧ Below B w w')
    (H2 : ∀ B w, RdAt w B l k1 b1 → Calls Tryd.prog 61 #[.pointer (some ⟨B, 0, none⟩), .int .u8 58] w fun e w' => e = .returned (.tuple #[]) ∧ RdAt w' B l k2 b2 ∧ Below B w w')
    (H3 : ∀ B w, RdAt w B l k2 b2 → Calls Tryd.prog 62 #[.pointer (some ⟨B, 0, none⟩)] w fun e w' => e = .returned (.int .i64 m) ∧ RdAt w' B l k3 b3 ∧ Below B w w')
    (H4 : ∀ B w, RdAt w B l k3 b3 → Calls Tryd.prog 61 #[.pointer (some ⟨B, 0, none⟩), .int .u8 58] w fun e w' => e = .returned (.tuple #[]) ∧ RdAt w' B l k4 b4 ∧ Below B w w')
    (H5 : ∀ B w, RdAt w B l k4 b4 → Calls Tryd.prog 62 #[.pointer (some ⟨B, 0, none⟩)] w fun e w' => e = .returned (.int .i64 s) ∧ RdAt w' B l k5 b5 ∧ Below B w w')
    (H6 : ∀ B w, RdAt w B l k5 b5 → Calls Tryd.prog 61 #[.pointer (some ⟨B, 0, none⟩), .int .u8 58] w fun e w' => e = .returned (.tuple #[]) ∧ RdAt w' B l k6 b6 ∧ Below B w w')
    (HV : ∀ w, Calls Tryd.prog 54 #[.int .i64 f] w fun e w' => e = .returned (.int .i64 (wd : Nat)) ∧ w' = w)
    (H7 : ∀ B w, RdAt w B l k6 b6 → Calls Tryd.prog 63 #[.pointer (some ⟨B, 0, none⟩), .int .i64 (wd : Nat)] w fun e w' => e = .returned (.int .i64 x) ∧ RdAt w' B l l.length false ∧ Below B w w')
    (HO : ∀ w, Calls Tryd.prog 53 #[.agg #[.int .i64 n, .int .i64 d, .bool false], .int .i64 m] w fun e w' => e = .returned (.int .i64 u) ∧ Below w.heap.size w w')
    (HL : ∀ w, Calls Tryd.prog 52 #[.agg #[.int .i64 n, .int .i64 d, .bool false]] w fun e w' => e = .returned (.int .i64 lf) ∧ Below w.heap.size w w')
    (HA : ∀ w, Calls Tryd.prog 49 #[.agg #[.int .i64 n, .int .i64 d, .bool false]] w fun e w' => e = .returned (.int .i64 la) ∧ Below w.heap.size w w') :
    Calls Tryd.prog 29 #[.agg #[.int .i64 n, .int .i64 d, .bool false], .string (bs l)] w fun e w' => e = .returned (.tuple #[.int .i64 fr, .int .i64 0]) ∧ Below w.heap.size w w' := by
  have HC := hideR HC
  have HF := hideR HF
  have H1 := hideR H1
  have H2 := hideR H2
  have H3 := hideR H3
  have H4 := hideR H4
  have H5 := hideR H5
  have H6 := hideR H6
  have HV := hideR HV
  have H7 := hideR H7
  have HO := hideR HO
  have HL := hideR HL
  have HA := hideR HA
  have hsz := bs_size l
  subst hs0
  rw [Int.add_zero] at hV
  go_enter Tryd.func29, Tryd.ntmps29
  go_wp2_with fail
  go_at_call 21
  refine (HC.out _).mono ?_
  rintro e w1 ⟨rfl, b1⟩
  have A1 := ((RateAt.new w n d false).keep b1)
  have B1 := bup (bel1 w _) b1
  clear b1
  obtain ⟨_, a0, a1, a2⟩ := id A1
  go_wp2_with fail
  go_at_call 51
  refine (HF.out _).mono ?_
  rintro e w2 ⟨rfl, b2⟩
  have A2 := (A1.keep b2)
  have B2 := bup B1 b2
  clear A1 B1 a0 a1 a2
  clear b2
  obtain ⟨_, a0, a1, a2⟩ := id A2
  go_wp2_with fail
  have hAX := A2.1
  have X2 := RdAt.new w2 l
  have A2 := A2.alloc (.cells #[.string (bs l), .int .i64 0, .bool false] 87)
  have B2 := bup B2 (bel1 w2 (.cells #[.string (bs l), .int .i64 0, .bool false] 87))
  have hWX := B2.size
  go_at_call 60
  refine (H1.out _ _ X2).mono ?_
  rintro e w3 ⟨rfl, X3, b3⟩
  have A3 := A2.under b3 hAX
  have B3 := B2.trans (b3.mono (Nat.le_of_lt hAX))
  clear A2 B2 X2 b3  a0 a1 a2 H1
  clear hWX
  generalize w2.heap.size = X at *
  obtain ⟨_, a0, a1, a2⟩ := id A3
  obtain ⟨_, x0, x1, x2, x3, x4⟩ := id X3
  go_wp2_with fail
  go_at_call 61
  refine (H2.out _ _ X3).mono ?_
  rintro e w4 ⟨rfl, X4, b4⟩
  have A4 := A3.under b4 hAX
  have B4 := B3.trans (b4.mono (Nat.le_of_lt hAX))
  clear A3 B3 X3 b4 x0 x1 x2 x3 x4 a0 a1 a2 H2
  obtain ⟨_, a0, a1, a2⟩ := id A4
  obtain ⟨_, x0, x1, x2, x3, x4⟩ := id X4
  go_wp2_with fail
  go_at_call 62
  refine (H3.out _ _ X4).mono ?_
  rintro e w5 ⟨rfl, X5, b5⟩
  have A5 := A4.under b5 hAX
  have B5 := B4.trans (b5.mono (Nat.le_of_lt hAX))
  clear A4 B4 X4 b5 x0 x1 x2 x3 x4 a0 a1 a2 H3
  obtain ⟨_, a0, a1, a2⟩ := id A5
  obtain ⟨_, x0, x1, x2, x3, x4⟩ := id X5
  go_wp2_with fail
  go_at_call 61
  refine (H4.out _ _ X5).mono ?_
  rintro e w6 ⟨rfl, X6, b6⟩
  have A6 := A5.under b6 hAX
  have B6 := B5.trans (b6.mono (Nat.le_of_lt hAX))
  clear A5 B5 X5 b6 x0 x1 x2 x3 x4 a0 a1 a2 H4
  obtain ⟨_, a0, a1, a2⟩ := id A6
  obtain ⟨_, x0, x1, x2, x3, x4⟩ := id X6
  go_wp2_with fail
  go_at_call 62
  refine (H5.out _ _ X6).mono ?_
  rintro e w7 ⟨rfl, X7, b7⟩
  have A7 := A6.under b7 hAX
  have B7 := B6.trans (b7.mono (Nat.le_of_lt hAX))
  clear A6 B6 X6 b7 x0 x1 x2 x3 x4 a0 a1 a2 H5
  obtain ⟨_, a0, a1, a2⟩ := id A7
  obtain ⟨_, x0, x1, x2, x3, x4⟩ := id X7
  go_wp2_with fail
  go_at_call 61
  refine (H6.out _ _ X7).mono ?_
  rintro e w8 ⟨rfl, X8, b8⟩
  have A8 := A7.under b8 hAX
  have B8 := B7.trans (b8.mono (Nat.le_of_lt hAX))
  clear A7 B7 X7 b8 x0 x1 x2 x3 x4 a0 a1 a2 H6
  obtain ⟨_, a0, a1, a2⟩ := id A8
  obtain ⟨_, x0, x1, x2, x3, x4⟩ := id X8
  go_wp2_with fail
  go_at_call 54
  refine (HV.out _).mono ?_
  rintro e wv ⟨rfl, hwv⟩
  obtain rfl := hwv.symm
  go_wp2_with fail
  go_at_call 63
  refine (H7.out _ _ X8).mono ?_
  rintro e w9 ⟨rfl, X9, b9⟩
  have A9 := A8.under b9 hAX
  have B9 := B8.trans (b9.mono (Nat.le_of_lt hAX))
  clear A8 B8 X8 b9 x0 x1 x2 x3 x4 a0 a1 a2 H7
  obtain ⟨_, a0, a1, a2⟩ := id A9
  obtain ⟨_, x0, x1, x2, x3, x4⟩ := id X9
  go_wp2_with fail
  go_at_call 53
  refine (HO.out _).mono ?_
  rintro e w10 ⟨rfl, b10⟩
  have A10 := A9.keep b10
  have B10 := bup B9 b10
  clear A9 B9 b10 a0 a1 a2 HO
  obtain ⟨_, a0, a1, a2⟩ := id A10
  go_wp2_with fail
  go_at_call 52
  refine (HL.out _).mono ?_
  rintro e w11 ⟨rfl, b11⟩
  have A11 := A10.keep b11
  have B11 := bup B10 b11
  clear A10 B10 b11 a0 a1 a2 HL
  obtain ⟨_, a0, a1, a2⟩ := id A11
  go_wp2_with fail
  go_at_call 49
  refine (HA.out _).mono ?_
  rintro e w12 ⟨rfl, b12⟩
  have A12 := A11.keep b12
  have B12 := bup B11 b12
  clear A11 B11 b12 a0 a1 a2 HA
  obtain ⟨_, a0, a1, a2⟩ := id A12
  go_wp2_with fail
  go_ret2
  exact ⟨rfl, B12⟩
set_option maxRecDepth 100000 in
set_option maxHeartbeats 2000000 in
theorem rnum_tzf (n d f h m s x : Int) (l : List UInt8) (k1 k2 k3 k4 k5 k6 wd : Nat) (b1 b2 b3 b4 b5 b6 : Bool) (lf la M V D Lm fr : Int) (hh : 0 ≤ h ∧ h ≤ 1000) (hm : 0 ≤ m ∧ m ≤ 1000) (hs : 0 ≤ s ∧ s ≤ 1000) (hx : 0 ≤ x ∧ x ≤ 1000) (hf : 0 ≤ f ∧ f ≤ 1000) (hM : 60 * h + m = M) (hV : (60 * M + s) * f = V) (hV0 : 0 ≤ V ∧ V ≤ 100000000000) (hD : M / 10 = D) (hL : lf * (M - D) = Lm) (hL0 : 0 ≤ Lm ∧ Lm ≤ 100000000) (hfr : V + x - Lm = fr) (hxf : x < f) (hs2 : (s == 0) = false) (ht : la < fr) (w : World)
    (HC : ∀ w, Calls Tryd.prog 21 #[.agg #[.int .i64 n, .int .i64 d, .bool false]] w fun e w' => e = .returned (.int .i64 0) ∧ Below w.heap.size w w')
    (HF : ∀ w, Calls Tryd.prog 51 #[.agg #[.int .i64 n, .int .i64 d, .bool false]] w fun e w' => e = .returned (.int .i64 f) ∧ Below w.heap.size w w')
    (H1 : ∀ B w, RdAt w B l 0 false → Calls Tryd.prog 60 #[.pointer (some ⟨B, 0, none⟩), .int .i64 2] w fun e w' => e = .returned (.int .i64 h) ∧ RdAt w' B l k1 b1 ∧ Below B w w')
    (H2 : ∀ B w, RdAt w B l k1 b1 → Calls Tryd.prog 61 #[.pointer (some ⟨B, 0, none⟩), .int .u8 58] w fun e w' => e = .returned (.tuple #[]) ∧ RdAt w' B l k2 b2 ∧ Below B w w')
    (H3 : ∀ B w, RdAt w B l k2 b2 → Calls Tryd.prog 62 #[.pointer (some ⟨B, 0, none⟩)] w fun e w' => e = .returned (.int .i64 m) ∧ RdAt w' B l k3 b3 ∧ Below B w w')
    (H4 : ∀ B w, RdAt w B l k3 b3 → Calls Tryd.prog 61 #[.pointer (some ⟨B, 0, none⟩), .int .u8 58] w fun e w' => e = .returned (.tuple #[]) ∧ RdAt w' B l k4 b4 ∧ Below B w w')
    (H5 : ∀ B w, RdAt w B l k4 b4 → Calls Tryd.prog 62 #[.pointer (some ⟨B, 0, none⟩)] w fun e w' => e = .returned (.int .i64 s) ∧ RdAt w' B l k5 b5 ∧ Below B w w')
    (H6 : ∀ B w, RdAt w B l k5 b5 → Calls Tryd.prog 61 #[.pointer (some ⟨B, 0, none⟩), .int .u8 58] w fun e w' => e = .returned (.tuple #[]) ∧ RdAt w' B l k6 b6 ∧ Below B w w')
    (HV : ∀ w, Calls Tryd.prog 54 #[.int .i64 f] w fun e w' => e = .returned (.int .i64 (wd : Nat)) ∧ w' = w)
    (H7 : ∀ B w, RdAt w B l k6 b6 → Calls Tryd.prog 63 #[.pointer (some ⟨B, 0, none⟩), .int .i64 (wd : Nat)] w fun e w' => e = .returned (.int .i64 x) ∧ RdAt w' B l l.length false ∧ Below B w w')
    (HL : ∀ w, Calls Tryd.prog 52 #[.agg #[.int .i64 n, .int .i64 d, .bool false]] w fun e w' => e = .returned (.int .i64 lf) ∧ Below w.heap.size w w')
    (HA : ∀ w, Calls Tryd.prog 49 #[.agg #[.int .i64 n, .int .i64 d, .bool false]] w fun e w' => e = .returned (.int .i64 la) ∧ Below w.heap.size w w') :
    Calls Tryd.prog 29 #[.agg #[.int .i64 n, .int .i64 d, .bool false], .string (bs l)] w fun e w' => e = .returned (.tuple #[.int .i64 0, .int .i64 31]) ∧ Below w.heap.size w w' := by
  have HC := hideR HC
  have HF := hideR HF
  have H1 := hideR H1
  have H2 := hideR H2
  have H3 := hideR H3
  have H4 := hideR H4
  have H5 := hideR H5
  have H6 := hideR H6
  have HV := hideR HV
  have H7 := hideR H7
  have HL := hideR HL
  have HA := hideR HA
  have hsz := bs_size l
  go_enter Tryd.func29, Tryd.ntmps29
  go_wp2_with fail
  go_at_call 21
  refine (HC.out _).mono ?_
  rintro e w1 ⟨rfl, b1⟩
  have A1 := ((RateAt.new w n d false).keep b1)
  have B1 := bup (bel1 w _) b1
  clear b1
  obtain ⟨_, a0, a1, a2⟩ := id A1
  go_wp2_with fail
  go_at_call 51
  refine (HF.out _).mono ?_
  rintro e w2 ⟨rfl, b2⟩
  have A2 := (A1.keep b2)
  have B2 := bup B1 b2
  clear A1 B1 a0 a1 a2
  clear b2
  obtain ⟨_, a0, a1, a2⟩ := id A2
  go_wp2_with fail
  have hAX := A2.1
  have X2 := RdAt.new w2 l
  have A2 := A2.alloc (.cells #[.string (bs l), .int .i64 0, .bool false] 87)
  have B2 := bup B2 (bel1 w2 (.cells #[.string (bs l), .int .i64 0, .bool false] 87))
  have hWX := B2.size
  go_at_call 60
  refine (H1.out _ _ X2).mono ?_
  rintro e w3 ⟨rfl, X3, b3⟩
  have A3 := A2.under b3 hAX
  have B3 := B2.trans (b3.mono (Nat.le_of_lt hAX))
  clear A2 B2 X2 b3  a0 a1 a2 H1
  clear hWX
  generalize w2.heap.size = X at *
  obtain ⟨_, a0, a1, a2⟩ := id A3
  obtain ⟨_, x0, x1, x2, x3, x4⟩ := id X3
  go_wp2_with fail
  go_at_call 61
  refine (H2.out _ _ X3).mono ?_
  rintro e w4 ⟨rfl, X4, b4⟩
  have A4 := A3.under b4 hAX
  have B4 := B3.trans (b4.mono (Nat.le_of_lt hAX))
  clear A3 B3 X3 b4 x0 x1 x2 x3 x4 a0 a1 a2 H2
  obtain ⟨_, a0, a1, a2⟩ := id A4
  obtain ⟨_, x0, x1, x2, x3, x4⟩ := id X4
  go_wp2_with fail
  go_at_call 62
  refine (H3.out _ _ X4).mono ?_
  rintro e w5 ⟨rfl, X5, b5⟩
  have A5 := A4.under b5 hAX
  have B5 := B4.trans (b5.mono (Nat.le_of_lt hAX))
  clear A4 B4 X4 b5 x0 x1 x2 x3 x4 a0 a1 a2 H3
  obtain ⟨_, a0, a1, a2⟩ := id A5
  obtain ⟨_, x0, x1, x2, x3, x4⟩ := id X5
  go_wp2_with fail
  go_at_call 61
  refine (H4.out _ _ X5).mono ?_
  rintro e w6 ⟨rfl, X6, b6⟩
  have A6 := A5.under b6 hAX
  have B6 := B5.trans (b6.mono (Nat.le_of_lt hAX))
  clear A5 B5 X5 b6 x0 x1 x2 x3 x4 a0 a1 a2 H4
  obtain ⟨_, a0, a1, a2⟩ := id A6
  obtain ⟨_, x0, x1, x2, x3, x4⟩ := id X6
  go_wp2_with fail
  go_at_call 62
  refine (H5.out _ _ X6).mono ?_
  rintro e w7 ⟨rfl, X7, b7⟩
  have A7 := A6.under b7 hAX
  have B7 := B6.trans (b7.mono (Nat.le_of_lt hAX))
  clear A6 B6 X6 b7 x0 x1 x2 x3 x4 a0 a1 a2 H5
  obtain ⟨_, a0, a1, a2⟩ := id A7
  obtain ⟨_, x0, x1, x2, x3, x4⟩ := id X7
  go_wp2_with fail
  go_at_call 61
  refine (H6.out _ _ X7).mono ?_
  rintro e w8 ⟨rfl, X8, b8⟩
  have A8 := A7.under b8 hAX
  have B8 := B7.trans (b8.mono (Nat.le_of_lt hAX))
  clear A7 B7 X7 b8 x0 x1 x2 x3 x4 a0 a1 a2 H6
  obtain ⟨_, a0, a1, a2⟩ := id A8
  obtain ⟨_, x0, x1, x2, x3, x4⟩ := id X8
  go_wp2_with fail
  go_at_call 54
  refine (HV.out _).mono ?_
  rintro e wv ⟨rfl, hwv⟩
  obtain rfl := hwv.symm
  go_wp2_with fail
  go_at_call 63
  refine (H7.out _ _ X8).mono ?_
  rintro e w9 ⟨rfl, X9, b9⟩
  have A9 := A8.under b9 hAX
  have B9 := B8.trans (b9.mono (Nat.le_of_lt hAX))
  clear A8 B8 X8 b9 x0 x1 x2 x3 x4 a0 a1 a2 H7
  obtain ⟨_, a0, a1, a2⟩ := id A9
  obtain ⟨_, x0, x1, x2, x3, x4⟩ := id X9
  go_wp2_with fail
  go_at_call 52
  refine (HL.out _).mono ?_
  rintro e w10 ⟨rfl, b10⟩
  have A10 := A9.keep b10
  have B10 := bup B9 b10
  clear A9 B9 b10 a0 a1 a2 HL
  obtain ⟨_, a0, a1, a2⟩ := id A10
  go_wp2_with fail
  go_at_call 49
  refine (HA.out _).mono ?_
  rintro e w11 ⟨rfl, b11⟩
  have A11 := A10.keep b11
  have B11 := bup B10 b11
  clear A10 B10 b11 a0 a1 a2 HA
  obtain ⟨_, a0, a1, a2⟩ := id A11
  go_wp2_with fail
  go_ret2
  exact ⟨rfl, B11⟩
set_option maxRecDepth 100000 in
set_option maxHeartbeats 2000000 in
theorem rnum_kzf (n d f h m s x : Int) (l : List UInt8) (k1 k2 k3 k4 k5 k6 wd : Nat) (b1 b2 b3 b4 b5 b6 : Bool) (lf la M V D Lm fr : Int) (hh : 0 ≤ h ∧ h ≤ 1000) (hm : 0 ≤ m ∧ m ≤ 1000) (hs : 0 ≤ s ∧ s ≤ 1000) (hx : 0 ≤ x ∧ x ≤ 1000) (hf : 0 ≤ f ∧ f ≤ 1000) (hM : 60 * h + m = M) (hV : (60 * M + s) * f = V) (hV0 : 0 ≤ V ∧ V ≤ 100000000000) (hD : M / 10 = D) (hL : lf * (M - D) = Lm) (hL0 : 0 ≤ Lm ∧ Lm ≤ 100000000) (hfr : V + x - Lm = fr) (hxf : x < f) (hs2 : (s == 0) = false) (ht : fr ≤ la) (w : World)
    (HC : ∀ w, Calls Tryd.prog 21 #[.agg #[.int .i64 n, .int .i64 d, .bool false]] w fun e w' => e = .returned (.int .i64 0) ∧ Below w.heap.size w w')
    (HF : ∀ w, Calls Tryd.prog 51 #[.agg #[.int .i64 n, .int .i64 d, .bool false]] w fun e w' => e = .returned (.int .i64 f) ∧ Below w.heap.size w w')
    (H1 : ∀ B w, RdAt w B l 0 false → Calls Tryd.prog 60 #[.pointer (some ⟨B, 0, none⟩), .int .i64 2] w fun e w' => e = .returned (.int .i64 h) ∧ RdAt w' B l k1 b1 ∧ Below B w w')
    (H2 : ∀ B w, RdAt w B l k1 b1 → Calls Tryd.prog 61 #[.pointer (some ⟨B, 0, none⟩), .int .u8 58] w fun e w' => e = .returned (.tuple #[]) ∧ RdAt w' B l k2 b2 ∧ Below B w w')
    (H3 : ∀ B w, RdAt w B l k2 b2 → Calls Tryd.prog 62 #[.pointer (some ⟨B, 0, none⟩)] w fun e w' => e = .returned (.int .i64 m) ∧ RdAt w' B l k3 b3 ∧ Below B w w')
    (H4 : ∀ B w, RdAt w B l k3 b3 → Calls Tryd.prog 61 #[.pointer (some ⟨B, 0, none⟩), .int .u8 58] w fun e w' => e = .returned (.tuple #[]) ∧ RdAt w' B l k4 b4 ∧ Below B w w')
    (H5 : ∀ B w, RdAt w B l k4 b4 → Calls Tryd.prog 62 #[.pointer (some ⟨B, 0, none⟩)] w fun e w' => e = .returned (.int .i64 s) ∧ RdAt w' B l k5 b5 ∧ Below B w w')
    (H6 : ∀ B w, RdAt w B l k5 b5 → Calls Tryd.prog 61 #[.pointer (some ⟨B, 0, none⟩), .int .u8 58] w fun e w' => e = .returned (.tuple #[]) ∧ RdAt w' B l k6 b6 ∧ Below B w w')
    (HV : ∀ w, Calls Tryd.prog 54 #[.int .i64 f] w fun e w' => e = .returned (.int .i64 (wd : Nat)) ∧ w' = w)
    (H7 : ∀ B w, RdAt w B l k6 b6 → Calls Tryd.prog 63 #[.pointer (some ⟨B, 0, none⟩), .int .i64 (wd : Nat)] w fun e w' => e = .returned (.int .i64 x) ∧ RdAt w' B l l.length false ∧ Below B w w')
    (HL : ∀ w, Calls Tryd.prog 52 #[.agg #[.int .i64 n, .int .i64 d, .bool false]] w fun e w' => e = .returned (.int .i64 lf) ∧ Below w.heap.size w w')
    (HA : ∀ w, Calls Tryd.prog 49 #[.agg #[.int .i64 n, .int .i64 d, .bool false]] w fun e w' => e = .returned (.int .i64 la) ∧ Below w.heap.size w w') :
    Calls Tryd.prog 29 #[.agg #[.int .i64 n, .int .i64 d, .bool false], .string (bs l)] w fun e w' => e = .returned (.tuple #[.int .i64 fr, .int .i64 0]) ∧ Below w.heap.size w w' := by
  have HC := hideR HC
  have HF := hideR HF
  have H1 := hideR H1
  have H2 := hideR H2
  have H3 := hideR H3
  have H4 := hideR H4
  have H5 := hideR H5
  have H6 := hideR H6
  have HV := hideR HV
  have H7 := hideR H7
  have HL := hideR HL
  have HA := hideR HA
  have hsz := bs_size l
  go_enter Tryd.func29, Tryd.ntmps29
  go_wp2_with fail
  go_at_call 21
  refine (HC.out _).mono ?_
  rintro e w1 ⟨rfl, b1⟩
  have A1 := ((RateAt.new w n d false).keep b1)
  have B1 := bup (bel1 w _) b1
  clear b1
  obtain ⟨_, a0, a1, a2⟩ := id A1
  go_wp2_with fail
  go_at_call 51
  refine (HF.out _).mono ?_
  rintro e w2 ⟨rfl, b2⟩
  have A2 := (A1.keep b2)
  have B2 := bup B1 b2
  clear A1 B1 a0 a1 a2
  clear b2
  obtain ⟨_, a0, a1, a2⟩ := id A2
  go_wp2_with fail
  have hAX := A2.1
  have X2 := RdAt.new w2 l
  have A2 := A2.alloc (.cells #[.string (bs l), .int .i64 0, .bool false] 87)
  have B2 := bup B2 (bel1 w2 (.cells #[.string (bs l), .int .i64 0, .bool false] 87))
  have hWX := B2.size
  go_at_call 60
  refine (H1.out _ _ X2).mono ?_
  rintro e w3 ⟨rfl, X3, b3⟩
  have A3 := A2.under b3 hAX
  have B3 := B2.trans (b3.mono (Nat.le_of_lt hAX))
  clear A2 B2 X2 b3  a0 a1 a2 H1
  clear hWX
  generalize w2.heap.size = X at *
  obtain ⟨_, a0, a1, a2⟩ := id A3
  obtain ⟨_, x0, x1, x2, x3, x4⟩ := id X3
  go_wp2_with fail
  go_at_call 61
  refine (H2.out _ _ X3).mono ?_
  rintro e w4 ⟨rfl, X4, b4⟩
  have A4 := A3.under b4 hAX
  have B4 := B3.trans (b4.mono (Nat.le_of_lt hAX))
  clear A3 B3 X3 b4 x0 x1 x2 x3 x4 a0 a1 a2 H2
  obtain ⟨_, a0, a1, a2⟩ := id A4
  obtain ⟨_, x0, x1, x2, x3, x4⟩ := id X4
  go_wp2_with fail
  go_at_call 62
  refine (H3.out _ _ X4).mono ?_
  rintro e w5 ⟨rfl, X5, b5⟩
  have A5 := A4.under b5 hAX
  have B5 := B4.trans (b5.mono (Nat.le_of_lt hAX))
  clear A4 B4 X4 b5 x0 x1 x2 x3 x4 a0 a1 a2 H3
  obtain ⟨_, a0, a1, a2⟩ := id A5
  obtain ⟨_, x0, x1, x2, x3, x4⟩ := id X5
  go_wp2_with fail
  go_at_call 61
  refine (H4.out _ _ X5).mono ?_
  rintro e w6 ⟨rfl, X6, b6⟩
  have A6 := A5.under b6 hAX
  have B6 := B5.trans (b6.mono (Nat.le_of_lt hAX))
  clear A5 B5 X5 b6 x0 x1 x2 x3 x4 a0 a1 a2 H4
  obtain ⟨_, a0, a1, a2⟩ := id A6
  obtain ⟨_, x0, x1, x2, x3, x4⟩ := id X6
  go_wp2_with fail
  go_at_call 62
  refine (H5.out _ _ X6).mono ?_
  rintro e w7 ⟨rfl, X7, b7⟩
  have A7 := A6.under b7 hAX
  have B7 := B6.trans (b7.mono (Nat.le_of_lt hAX))
  clear A6 B6 X6 b7 x0 x1 x2 x3 x4 a0 a1 a2 H5
  obtain ⟨_, a0, a1, a2⟩ := id A7
  obtain ⟨_, x0, x1, x2, x3, x4⟩ := id X7
  go_wp2_with fail
  go_at_call 61
  refine (H6.out _ _ X7).mono ?_
  rintro e w8 ⟨rfl, X8, b8⟩
  have A8 := A7.under b8 hAX
  have B8 := B7.trans (b8.mono (Nat.le_of_lt hAX))
  clear A7 B7 X7 b8 x0 x1 x2 x3 x4 a0 a1 a2 H6
  obtain ⟨_, a0, a1, a2⟩ := id A8
  obtain ⟨_, x0, x1, x2, x3, x4⟩ := id X8
  go_wp2_with fail
  go_at_call 54
  refine (HV.out _).mono ?_
  rintro e wv ⟨rfl, hwv⟩
  obtain rfl := hwv.symm
  go_wp2_with fail
  go_at_call 63
  refine (H7.out _ _ X8).mono ?_
  rintro e w9 ⟨rfl, X9, b9⟩
  have A9 := A8.under b9 hAX
  have B9 := B8.trans (b9.mono (Nat.le_of_lt hAX))
  clear A8 B8 X8 b9 x0 x1 x2 x3 x4 a0 a1 a2 H7
  obtain ⟨_, a0, a1, a2⟩ := id A9
  obtain ⟨_, x0, x1, x2, x3, x4⟩ := id X9
  go_wp2_with fail
  go_at_call 52
  refine (HL.out _).mono ?_
  rintro e w10 ⟨rfl, b10⟩
  have A10 := A9.keep b10
  have B10 := bup B9 b10
  clear A9 B9 b10 a0 a1 a2 HL
  obtain ⟨_, a0, a1, a2⟩ := id A10
  go_wp2_with fail
  go_at_call 49
  refine (HA.out _).mono ?_
  rintro e w11 ⟨rfl, b11⟩
  have A11 := A10.keep b11
  have B11 := bup B10 b11
  clear A10 B10 b11 a0 a1 a2 HA
  obtain ⟨_, a0, a1, a2⟩ := id A11
  go_wp2_with fail
  go_ret2
  exact ⟨rfl, B11⟩
set_option maxRecDepth 100000 in
set_option maxHeartbeats 2000000 in
theorem rnum_xt (n d f h m s x : Int) (l : List UInt8) (k1 k2 k3 k4 k5 k6 k7 wd : Nat) (b1 b2 b3 b4 b5 b6 : Bool) (w : World)
    (HC : ∀ w, Calls Tryd.prog 21 #[.agg #[.int .i64 n, .int .i64 d, .bool true]] w fun e w' => e = .returned (.int .i64 0) ∧ Below w.heap.size w w')
    (HF : ∀ w, Calls Tryd.prog 51 #[.agg #[.int .i64 n, .int .i64 d, .bool true]] w fun e w' => e = .returned (.int .i64 f) ∧ Below w.heap.size w w')
    (H1 : ∀ B w, RdAt w B l 0 false → Calls Tryd.prog 60 #[.pointer (some ⟨B, 0, none⟩), .int .i64 2] w fun e w' => e = .returned (.int .i64 h) ∧ RdAt w' B l k1 b1 ∧ Below B w w')
    (H2 : ∀ B w, RdAt w B l k1 b1 → Calls Tryd.prog 61 #[.pointer (some ⟨B, 0, none⟩), .int .u8 58] w fun e w' => e = .returned (.tuple #[]) ∧ RdAt w' B l k2 b2 ∧ Below B w w')
    (H3 : ∀ B w, RdAt w B l k2 b2 → Calls Tryd.prog 62 #[.pointer (some ⟨B, 0, none⟩)] w fun e w' => e = .returned (.int .i64 m) ∧ RdAt w' B l k3 b3 ∧ Below B w w')
    (H4 : ∀ B w, RdAt w B l k3 b3 → Calls Tryd.prog 61 #[.pointer (some ⟨B, 0, none⟩), .int .u8 58] w fun e w' => e = .returned (.tuple #[]) ∧ RdAt w' B l k4 b4 ∧ Below B w w')
    (H5 : ∀ B w, RdAt w B l k4 b4 → Calls Tryd.prog 62 #[.pointer (some ⟨B, 0, none⟩)] w fun e w' => e = .returned (.int .i64 s) ∧ RdAt w' B l k5 b5 ∧ Below B w w')
    (H6 : ∀ B w, RdAt w B l k5 b5 → Calls Tryd.prog 61 #[.pointer (some ⟨B, 0, none⟩), .int .u8 59] w fun e w' => e = .returned (.tuple #[]) ∧ RdAt w' B l k6 b6 ∧ Below B w w')
    (HV : ∀ w, Calls Tryd.prog 54 #[.int .i64 f] w fun e w' => e = .returned (.int .i64 (wd : Nat)) ∧ w' = w)
    (H7 : ∀ B w, RdAt w B l k6 b6 → Calls Tryd.prog 63 #[.pointer (some ⟨B, 0, none⟩), .int .i64 (wd : Nat)] w fun e w' => e = .returned (.int .i64 x) ∧ RdAt w' B l k7 true ∧ Below B w w') :
    Calls Tryd.prog 29 #[.agg #[.int .i64 n, .int .i64 d, .bool true], .string (bs l)] w fun e w' => e = .returned (.tuple #[.int .i64 0, .int .i64 13]) ∧ Below w.heap.size w w' := by
  have HC := hideR HC
  have HF := hideR HF
  have H1 := hideR H1
  have H2 := hideR H2
  have H3 := hideR H3
  have H4 := hideR H4
  have H5 := hideR H5
  have H6 := hideR H6
  have HV := hideR HV
  have H7 := hideR H7
  go_enter Tryd.func29, Tryd.ntmps29
  go_wp2_with fail
  go_at_call 21
  refine (HC.out _).mono ?_
  rintro e w1 ⟨rfl, b1⟩
  have A1 := ((RateAt.new w n d true).keep b1)
  have B1 := bup (bel1 w _) b1
  clear b1
  obtain ⟨_, a0, a1, a2⟩ := id A1
  go_wp2_with fail
  go_at_call 51
  refine (HF.out _).mono ?_
  rintro e w2 ⟨rfl, b2⟩
  have A2 := (A1.keep b2)
  have B2 := bup B1 b2
  clear A1 B1 a0 a1 a2
  clear b2
  obtain ⟨_, a0, a1, a2⟩ := id A2
  go_wp2_with fail
  have hAX := A2.1
  have X2 := RdAt.new w2 l
  have A2 := A2.alloc (.cells #[.string (bs l), .int .i64 0, .bool false] 87)
  have B2 := bup B2 (bel1 w2 (.cells #[.string (bs l), .int .i64 0, .bool false] 87))
  have hWX := B2.size
  go_at_call 60
  refine (H1.out _ _ X2).mono ?_
  rintro e w3 ⟨rfl, X3, b3⟩
  have A3 := A2.under b3 hAX
  have B3 := B2.trans (b3.mono (Nat.le_of_lt hAX))
  clear A2 B2 X2 b3  a0 a1 a2 H1
  clear hWX
  generalize w2.heap.size = X at *
  obtain ⟨_, a0, a1, a2⟩ := id A3
  obtain ⟨_, x0, x1, x2, x3, x4⟩ := id X3
  go_wp2_with fail
  go_at_call 61
  refine (H2.out _ _ X3).mono ?_
  rintro e w4 ⟨rfl, X4, b4⟩
  have A4 := A3.under b4 hAX
  have B4 := B3.trans (b4.mono (Nat.le_of_lt hAX))
  clear A3 B3 X3 b4 x0 x1 x2 x3 x4 a0 a1 a2 H2
  obtain ⟨_, a0, a1, a2⟩ := id A4
  obtain ⟨_, x0, x1, x2, x3, x4⟩ := id X4
  go_wp2_with fail
  go_at_call 62
  refine (H3.out _ _ X4).mono ?_
  rintro e w5 ⟨rfl, X5, b5⟩
  have A5 := A4.under b5 hAX
  have B5 := B4.trans (b5.mono (Nat.le_of_lt hAX))
  clear A4 B4 X4 b5 x0 x1 x2 x3 x4 a0 a1 a2 H3
  obtain ⟨_, a0, a1, a2⟩ := id A5
  obtain ⟨_, x0, x1, x2, x3, x4⟩ := id X5
  go_wp2_with fail
  go_at_call 61
  refine (H4.out _ _ X5).mono ?_
  rintro e w6 ⟨rfl, X6, b6⟩
  have A6 := A5.under b6 hAX
  have B6 := B5.trans (b6.mono (Nat.le_of_lt hAX))
  clear A5 B5 X5 b6 x0 x1 x2 x3 x4 a0 a1 a2 H4
  obtain ⟨_, a0, a1, a2⟩ := id A6
  obtain ⟨_, x0, x1, x2, x3, x4⟩ := id X6
  go_wp2_with fail
  go_at_call 62
  refine (H5.out _ _ X6).mono ?_
  rintro e w7 ⟨rfl, X7, b7⟩
  have A7 := A6.under b7 hAX
  have B7 := B6.trans (b7.mono (Nat.le_of_lt hAX))
  clear A6 B6 X6 b7 x0 x1 x2 x3 x4 a0 a1 a2 H5
  obtain ⟨_, a0, a1, a2⟩ := id A7
  obtain ⟨_, x0, x1, x2, x3, x4⟩ := id X7
  go_wp2_with fail
  go_at_call 61
  refine (H6.out _ _ X7).mono ?_
  rintro e w8 ⟨rfl, X8, b8⟩
  have A8 := A7.under b8 hAX
  have B8 := B7.trans (b8.mono (Nat.le_of_lt hAX))
  clear A7 B7 X7 b8 x0 x1 x2 x3 x4 a0 a1 a2 H6
  obtain ⟨_, a0, a1, a2⟩ := id A8
  obtain ⟨_, x0, x1, x2, x3, x4⟩ := id X8
  go_wp2_with fail
  go_at_call 54
  refine (HV.out _).mono ?_
  rintro e wv ⟨rfl, hwv⟩
  obtain rfl := hwv.symm
  go_wp2_with fail
  go_at_call 63
  refine (H7.out _ _ X8).mono ?_
  rintro e w9 ⟨rfl, X9, b9⟩
  have A9 := A8.under b9 hAX
  have B9 := B8.trans (b9.mono (Nat.le_of_lt hAX))
  clear A8 B8 X8 b9 x0 x1 x2 x3 x4 a0 a1 a2 H7
  obtain ⟨_, a0, a1, a2⟩ := id A9
  obtain ⟨_, x0, x1, x2, x3, x4⟩ := id X9
  go_wp2_with fail
  go_ret2
  exact ⟨rfl, B9⟩
set_option maxRecDepth 100000 in
set_option maxHeartbeats 2000000 in
theorem rnum_yt (n d f h m s x : Int) (l : List UInt8) (k1 k2 k3 k4 k5 k6 k7 wd : Nat) (b1 b2 b3 b4 b5 b6 : Bool) (hk : ((k7 : Int) != (l.length : Int)) = true) (w : World)
    (HC : ∀ w, Calls Tryd.prog 21 #[.agg #[.int .i64 n, .int .i64 d, .bool true]] w fun e w' => e = .returned (.int .i64 0) ∧ Below w.heap.size w w')
    (HF : ∀ w, Calls Tryd.prog 51 #[.agg #[.int .i64 n, .int .i64 d, .bool true]] w fun e w' => e = .returned (.int .i64 f) ∧ Below w.heap.size w w')
    (H1 : ∀ B w, RdAt w B l 0 false → Calls Tryd.prog 60 #[.pointer (some ⟨B, 0, none⟩), .int .i64 2] w fun e w' => e = .returned (.int .i64 h) ∧ RdAt w' B l k1 b1 ∧ Below B w w')
    (H2 : ∀ B w, RdAt w B l k1 b1 → Calls Tryd.prog 61 #[.pointer (some ⟨B, 0, none⟩), .int .u8 58] w fun e w' => e = .returned (.tuple #[]) ∧ RdAt w' B l k2 b2 ∧ Below B w w')
    (H3 : ∀ B w, RdAt w B l k2 b2 → Calls Tryd.prog 62 #[.pointer (some ⟨B, 0, none⟩)] w fun e w' => e = .returned (.int .i64 m) ∧ RdAt w' B l k3 b3 ∧ Below B w w')
    (H4 : ∀ B w, RdAt w B l k3 b3 → Calls Tryd.prog 61 #[.pointer (some ⟨B, 0, none⟩), .int .u8 58] w fun e w' => e = .returned (.tuple #[]) ∧ RdAt w' B l k4 b4 ∧ Below B w w')
    (H5 : ∀ B w, RdAt w B l k4 b4 → Calls Tryd.prog 62 #[.pointer (some ⟨B, 0, none⟩)] w fun e w' => e = .returned (.int .i64 s) ∧ RdAt w' B l k5 b5 ∧ Below B w w')
    (H6 : ∀ B w, RdAt w B l k5 b5 → Calls Tryd.prog 61 #[.pointer (some ⟨B, 0, none⟩), .int .u8 59] w fun e w' => e = .returned (.tuple #[]) ∧ RdAt w' B l k6 b6 ∧ Below B w w')
    (HV : ∀ w, Calls Tryd.prog 54 #[.int .i64 f] w fun e w' => e = .returned (.int .i64 (wd : Nat)) ∧ w' = w)
    (H7 : ∀ B w, RdAt w B l k6 b6 → Calls Tryd.prog 63 #[.pointer (some ⟨B, 0, none⟩), .int .i64 (wd : Nat)] w fun e w' => e = .returned (.int .i64 x) ∧ RdAt w' B l k7 false ∧ Below B w w') :
    Calls Tryd.prog 29 #[.agg #[.int .i64 n, .int .i64 d, .bool true], .string (bs l)] w fun e w' => e = .returned (.tuple #[.int .i64 0, .int .i64 13]) ∧ Below w.heap.size w w' := by
  have HC := hideR HC
  have HF := hideR HF
  have H1 := hideR H1
  have H2 := hideR H2
  have H3 := hideR H3
  have H4 := hideR H4
  have H5 := hideR H5
  have H6 := hideR H6
  have HV := hideR HV
  have H7 := hideR H7
  have hsz := bs_size l
  go_enter Tryd.func29, Tryd.ntmps29
  go_wp2_with fail
  go_at_call 21
  refine (HC.out _).mono ?_
  rintro e w1 ⟨rfl, b1⟩
  have A1 := ((RateAt.new w n d true).keep b1)
  have B1 := bup (bel1 w _) b1
  clear b1
  obtain ⟨_, a0, a1, a2⟩ := id A1
  go_wp2_with fail
  go_at_call 51
  refine (HF.out _).mono ?_
  rintro e w2 ⟨rfl, b2⟩
  have A2 := (A1.keep b2)
  have B2 := bup B1 b2
  clear A1 B1 a0 a1 a2
  clear b2
  obtain ⟨_, a0, a1, a2⟩ := id A2
  go_wp2_with fail
  have hAX := A2.1
  have X2 := RdAt.new w2 l
  have A2 := A2.alloc (.cells #[.string (bs l), .int .i64 0, .bool false] 87)
  have B2 := bup B2 (bel1 w2 (.cells #[.string (bs l), .int .i64 0, .bool false] 87))
  have hWX := B2.size
  go_at_call 60
  refine (H1.out _ _ X2).mono ?_
  rintro e w3 ⟨rfl, X3, b3⟩
  have A3 := A2.under b3 hAX
  have B3 := B2.trans (b3.mono (Nat.le_of_lt hAX))
  clear A2 B2 X2 b3  a0 a1 a2 H1
  clear hWX
  generalize w2.heap.size = X at *
  obtain ⟨_, a0, a1, a2⟩ := id A3
  obtain ⟨_, x0, x1, x2, x3, x4⟩ := id X3
  go_wp2_with fail
  go_at_call 61
  refine (H2.out _ _ X3).mono ?_
  rintro e w4 ⟨rfl, X4, b4⟩
  have A4 := A3.under b4 hAX
  have B4 := B3.trans (b4.mono (Nat.le_of_lt hAX))
  clear A3 B3 X3 b4 x0 x1 x2 x3 x4 a0 a1 a2 H2
  obtain ⟨_, a0, a1, a2⟩ := id A4
  obtain ⟨_, x0, x1, x2, x3, x4⟩ := id X4
  go_wp2_with fail
  go_at_call 62
  refine (H3.out _ _ X4).mono ?_
  rintro e w5 ⟨rfl, X5, b5⟩
  have A5 := A4.under b5 hAX
  have B5 := B4.trans (b5.mono (Nat.le_of_lt hAX))
  clear A4 B4 X4 b5 x0 x1 x2 x3 x4 a0 a1 a2 H3
  obtain ⟨_, a0, a1, a2⟩ := id A5
  obtain ⟨_, x0, x1, x2, x3, x4⟩ := id X5
  go_wp2_with fail
  go_at_call 61
  refine (H4.out _ _ X5).mono ?_
  rintro e w6 ⟨rfl, X6, b6⟩
  have A6 := A5.under b6 hAX
  have B6 := B5.trans (b6.mono (Nat.le_of_lt hAX))
  clear A5 B5 X5 b6 x0 x1 x2 x3 x4 a0 a1 a2 H4
  obtain ⟨_, a0, a1, a2⟩ := id A6
  obtain ⟨_, x0, x1, x2, x3, x4⟩ := id X6
  go_wp2_with fail
  go_at_call 62
  refine (H5.out _ _ X6).mono ?_
  rintro e w7 ⟨rfl, X7, b7⟩
  have A7 := A6.under b7 hAX
  have B7 := B6.trans (b7.mono (Nat.le_of_lt hAX))
  clear A6 B6 X6 b7 x0 x1 x2 x3 x4 a0 a1 a2 H5
  obtain ⟨_, a0, a1, a2⟩ := id A7
  obtain ⟨_, x0, x1, x2, x3, x4⟩ := id X7
  go_wp2_with fail
  go_at_call 61
  refine (H6.out _ _ X7).mono ?_
  rintro e w8 ⟨rfl, X8, b8⟩
  have A8 := A7.under b8 hAX
  have B8 := B7.trans (b8.mono (Nat.le_of_lt hAX))
  clear A7 B7 X7 b8 x0 x1 x2 x3 x4 a0 a1 a2 H6
  obtain ⟨_, a0, a1, a2⟩ := id A8
  obtain ⟨_, x0, x1, x2, x3, x4⟩ := id X8
  go_wp2_with fail
  go_at_call 54
  refine (HV.out _).mono ?_
  rintro e wv ⟨rfl, hwv⟩
  obtain rfl := hwv.symm
  go_wp2_with fail
  go_at_call 63
  refine (H7.out _ _ X8).mono ?_
  rintro e w9 ⟨rfl, X9, b9⟩
  have A9 := A8.under b9 hAX
  have B9 := B8.trans (b9.mono (Nat.le_of_lt hAX))
  clear A8 B8 X8 b9 x0 x1 x2 x3 x4 a0 a1 a2 H7
  obtain ⟨_, a0, a1, a2⟩ := id A9
  obtain ⟨_, x0, x1, x2, x3, x4⟩ := id X9
  go_wp2_with fail
  go_ret2
  exact ⟨rfl, B9⟩
set_option maxRecDepth 100000 in
set_option maxHeartbeats 2000000 in
theorem rnum_zt (n d f h m s x : Int) (l : List UInt8) (k1 k2 k3 k4 k5 k6 wd : Nat) (b1 b2 b3 b4 b5 b6 : Bool) (hx : f ≤ x) (w : World)
    (HC : ∀ w, Calls Tryd.prog 21 #[.agg #[.int .i64 n, .int .i64 d, .bool true]] w fun e w' => e = .returned (.int .i64 0) ∧ Below w.heap.size w w')
    (HF : ∀ w, Calls Tryd.prog 51 #[.agg #[.int .i64 n, .int .i64 d, .bool true]] w fun e w' => e = .returned (.int .i64 f) ∧ Below w.heap.size w w')
    (H1 : ∀ B w, RdAt w B l 0 false → Calls Tryd.prog 60 #[.pointer (some ⟨B, 0, none⟩), .int .i64 2] w fun e w' => e = .returned (.int .i64 h) ∧ RdAt w' B l k1 b1 ∧ Below B w w')
    (H2 : ∀ B w, RdAt w B l k1 b1 → Calls Tryd.prog 61 #[.pointer (some ⟨B, 0, none⟩), .int .u8 58] w fun e w' => e = .returned (.tuple #[]) ∧ RdAt w' B l k2 b2 ∧ Below B w w')
    (H3 : ∀ B w, RdAt w B l k2 b2 → Calls Tryd.prog 62 #[.pointer (some ⟨B, 0, none⟩)] w fun e w' => e = .returned (.int .i64 m) ∧ RdAt w' B l k3 b3 ∧ Below B w w')
    (H4 : ∀ B w, RdAt w B l k3 b3 → Calls Tryd.prog 61 #[.pointer (some ⟨B, 0, none⟩), .int .u8 58] w fun e w' => e = .returned (.tuple #[]) ∧ RdAt w' B l k4 b4 ∧ Below B w w')
    (H5 : ∀ B w, RdAt w B l k4 b4 → Calls Tryd.prog 62 #[.pointer (some ⟨B, 0, none⟩)] w fun e w' => e = .returned (.int .i64 s) ∧ RdAt w' B l k5 b5 ∧ Below B w w')
    (H6 : ∀ B w, RdAt w B l k5 b5 → Calls Tryd.prog 61 #[.pointer (some ⟨B, 0, none⟩), .int .u8 59] w fun e w' => e = .returned (.tuple #[]) ∧ RdAt w' B l k6 b6 ∧ Below B w w')
    (HV : ∀ w, Calls Tryd.prog 54 #[.int .i64 f] w fun e w' => e = .returned (.int .i64 (wd : Nat)) ∧ w' = w)
    (H7 : ∀ B w, RdAt w B l k6 b6 → Calls Tryd.prog 63 #[.pointer (some ⟨B, 0, none⟩), .int .i64 (wd : Nat)] w fun e w' => e = .returned (.int .i64 x) ∧ RdAt w' B l l.length false ∧ Below B w w') :
    Calls Tryd.prog 29 #[.agg #[.int .i64 n, .int .i64 d, .bool true], .string (bs l)] w fun e w' => e = .returned (.tuple #[.int .i64 0, .int .i64 13]) ∧ Below w.heap.size w w' := by
  have HC := hideR HC
  have HF := hideR HF
  have H1 := hideR H1
  have H2 := hideR H2
  have H3 := hideR H3
  have H4 := hideR H4
  have H5 := hideR H5
  have H6 := hideR H6
  have HV := hideR HV
  have H7 := hideR H7
  have hsz := bs_size l
  go_enter Tryd.func29, Tryd.ntmps29
  go_wp2_with fail
  go_at_call 21
  refine (HC.out _).mono ?_
  rintro e w1 ⟨rfl, b1⟩
  have A1 := ((RateAt.new w n d true).keep b1)
  have B1 := bup (bel1 w _) b1
  clear b1
  obtain ⟨_, a0, a1, a2⟩ := id A1
  go_wp2_with fail
  go_at_call 51
  refine (HF.out _).mono ?_
  rintro e w2 ⟨rfl, b2⟩
  have A2 := (A1.keep b2)
  have B2 := bup B1 b2
  clear A1 B1 a0 a1 a2
  clear b2
  obtain ⟨_, a0, a1, a2⟩ := id A2
  go_wp2_with fail
  have hAX := A2.1
  have X2 := RdAt.new w2 l
  have A2 := A2.alloc (.cells #[.string (bs l), .int .i64 0, .bool false] 87)
  have B2 := bup B2 (bel1 w2 (.cells #[.string (bs l), .int .i64 0, .bool false] 87))
  have hWX := B2.size
  go_at_call 60
  refine (H1.out _ _ X2).mono ?_
  rintro e w3 ⟨rfl, X3, b3⟩
  have A3 := A2.under b3 hAX
  have B3 := B2.trans (b3.mono (Nat.le_of_lt hAX))
  clear A2 B2 X2 b3  a0 a1 a2 H1
  clear hWX
  generalize w2.heap.size = X at *
  obtain ⟨_, a0, a1, a2⟩ := id A3
  obtain ⟨_, x0, x1, x2, x3, x4⟩ := id X3
  go_wp2_with fail
  go_at_call 61
  refine (H2.out _ _ X3).mono ?_
  rintro e w4 ⟨rfl, X4, b4⟩
  have A4 := A3.under b4 hAX
  have B4 := B3.trans (b4.mono (Nat.le_of_lt hAX))
  clear A3 B3 X3 b4 x0 x1 x2 x3 x4 a0 a1 a2 H2
  obtain ⟨_, a0, a1, a2⟩ := id A4
  obtain ⟨_, x0, x1, x2, x3, x4⟩ := id X4
  go_wp2_with fail
  go_at_call 62
  refine (H3.out _ _ X4).mono ?_
  rintro e w5 ⟨rfl, X5, b5⟩
  have A5 := A4.under b5 hAX
  have B5 := B4.trans (b5.mono (Nat.le_of_lt hAX))
  clear A4 B4 X4 b5 x0 x1 x2 x3 x4 a0 a1 a2 H3
  obtain ⟨_, a0, a1, a2⟩ := id A5
  obtain ⟨_, x0, x1, x2, x3, x4⟩ := id X5
  go_wp2_with fail
  go_at_call 61
  refine (H4.out _ _ X5).mono ?_
  rintro e w6 ⟨rfl, X6, b6⟩
  have A6 := A5.under b6 hAX
  have B6 := B5.trans (b6.mono (Nat.le_of_lt hAX))
  clear A5 B5 X5 b6 x0 x1 x2 x3 x4 a0 a1 a2 H4
  obtain ⟨_, a0, a1, a2⟩ := id A6
  obtain ⟨_, x0, x1, x2, x3, x4⟩ := id X6
  go_wp2_with fail
  go_at_call 62
  refine (H5.out _ _ X6).mono ?_
  rintro e w7 ⟨rfl, X7, b7⟩
  have A7 := A6.under b7 hAX
  have B7 := B6.trans (b7.mono (Nat.le_of_lt hAX))
  clear A6 B6 X6 b7 x0 x1 x2 x3 x4 a0 a1 a2 H5
  obtain ⟨_, a0, a1, a2⟩ := id A7
  obtain ⟨_, x0, x1, x2, x3, x4⟩ := id X7
  go_wp2_with fail
  go_at_call 61
  refine (H6.out _ _ X7).mono ?_
  rintro e w8 ⟨rfl, X8, b8⟩
  have A8 := A7.under b8 hAX
  have B8 := B7.trans (b8.mono (Nat.le_of_lt hAX))
  clear A7 B7 X7 b8 x0 x1 x2 x3 x4 a0 a1 a2 H6
  obtain ⟨_, a0, a1, a2⟩ := id A8
  obtain ⟨_, x0, x1, x2, x3, x4⟩ := id X8
  go_wp2_with fail
  go_at_call 54
  refine (HV.out _).mono ?_
  rintro e wv ⟨rfl, hwv⟩
  obtain rfl := hwv.symm
  go_wp2_with fail
  go_at_call 63
  refine (H7.out _ _ X8).mono ?_
  rintro e w9 ⟨rfl, X9, b9⟩
  have A9 := A8.under b9 hAX
  have B9 := B8.trans (b9.mono (Nat.le_of_lt hAX))
  clear A8 B8 X8 b9 x0 x1 x2 x3 x4 a0 a1 a2 H7
  obtain ⟨_, a0, a1, a2⟩ := id A9
  obtain ⟨_, x0, x1, x2, x3, x4⟩ := id X9
  go_wp2_with fail
  go_ret2
  exact ⟨rfl, B9⟩
set_option maxRecDepth 100000 in
set_option maxHeartbeats 2000000 in
theorem rnum_dt (n d f h m x : Int) (l : List UInt8) (k1 k2 k3 k4 k5 k6 wd : Nat) (b1 b2 b3 b4 b5 b6 : Bool) (u : Int) (hx : x < f) (hu : x < u) (w : World)
    (HC : ∀ w, Calls Tryd.prog 21 #[.agg #[.int .i64 n, .int .i64 d, .bool true]] w fun e w' => e = .returned (.int .i64 0) ∧ Below w.heap.size w w')
    (HF : ∀ w, Calls Tryd.prog 51 #[.agg #[.int .i64 n, .int .i64 d, .bool true]] w fun e w' => e = .returned (.int .i64 f) ∧ Below w.heap.size w w')
    (H1 : ∀ B w, RdAt w B l 0 false → Calls Tryd.prog 60 #[.pointer (some ⟨B, 0, none⟩), .int .i64 2] w fun e w' => e = .returned (.int .i64 h) ∧ RdAt w' B l k1 b1 ∧ Below B w w')
    (H2 : ∀ B w, RdAt w B l k1 b1 → Calls Tryd.prog 61 #[.pointer (some ⟨B, 0, none⟩), .int .u8 58] w fun e w' => e = .returned (.tuple #[]) ∧ RdAt w' B l k2 b2 ∧ Below B w w')
    (H3 : ∀ B w, RdAt w B l k2 b2 → Calls Tryd.prog 62 #[.pointer (some ⟨B, 0, none⟩)] w fun e w' => e = .returned (.int .i64 m) ∧ RdAt w' B l k3 b3 ∧ Below B w w')
    (H4 : ∀ B w, RdAt w B l k3 b3 → Calls Tryd.prog 61 #[.pointer (some ⟨B, 0, none⟩), .int .u8 58] w fun e w' => e = .returned (.tuple #[]) ∧ RdAt w' B l k4 b4 ∧ Below B w w')
    (H5 : ∀ B w, RdAt w B l k4 b4 → Calls Tryd.prog 62 #[.pointer (some ⟨B, 0, none⟩)] w fun e w' => e = .returned (.int .i64 0) ∧ RdAt w' B l k5 b5 ∧ Below B w w')
    (H6 : ∀ B w, RdAt w B l k5 b5 → Calls Tryd.prog 61 #[.pointer (some ⟨B, 0, none⟩), .int .u8 59] w fun e w' => e = .returned (.tuple #[]) ∧ RdAt w' B l k6 b6 ∧ Below B w w')
    (HV : ∀ w, Calls Tryd.prog 54 #[.int .i64 f] w fun e w' => e = .returned (.int .i64 (wd : Nat)) ∧ w' = w)
    (H7 : ∀ B w, RdAt w B l k6 b6 → Calls Tryd.prog 63 #[.pointer (some ⟨B, 0, none⟩), .int .i64 (wd : Nat)] w fun e w' => e = .returned (.int .i64 x) ∧ RdAt w' B l l.length false ∧ Below B w w')
    (HO : ∀ w, Calls Tryd.prog 53 #[.agg #[.int .i64 n, .int .i64 d, .bool true], .int .i64 m] w fun e w' => e = .returned (.int .i64 u) ∧ Below w.heap.size w w') :
    Calls Tryd.prog 29 #[.agg #[.int .i64 n, .int .i64 d, .bool true], .string (bs l)] w fun e w' => e = .returned (.tuple #[.int .i64 0, .int .i64 15]) ∧ Below w.heap.size w w' := by
  have HC := hideR HC
  have HF := hideR HF
  have H1 := hideR H1
  have H2 := hideR H2
  have H3 := hideR H3
  have H4 := hideR H4
  have H5 := hideR H5
  have H6 := hideR H6
  have HV := hideR HV
  have H7 := hideR H7
  have HO := hideR HO
  have hsz := bs_size l
  go_enter Tryd.func29, Tryd.ntmps29
  go_wp2_with fail
  go_at_call 21
  refine (HC.out _).mono ?_
  rintro e w1 ⟨rfl, b1⟩
  have A1 := ((RateAt.new w n d true).keep b1)
  have B1 := bup (bel1 w _) b1
  clear b1
  obtain ⟨_, a0, a1, a2⟩ := id A1
  go_wp2_with fail
  go_at_call 51
  refine (HF.out _).mono ?_
  rintro e w2 ⟨rfl, b2⟩
  have A2 := (A1.keep b2)
  have B2 := bup B1 b2
  clear A1 B1 a0 a1 a2
  clear b2
  obtain ⟨_, a0, a1, a2⟩ := id A2
  go_wp2_with fail
  have hAX := A2.1
  have X2 := RdAt.new w2 l
  have A2 := A2.alloc (.cells #[.string (bs l), .int .i64 0, .bool false] 87)
  have B2 := bup B2 (bel1 w2 (.cells #[.string (bs l), .int .i64 0, .bool false] 87))
  have hWX := B2.size
  go_at_call 60
  refine (H1.out _ _ X2).mono ?_
  rintro e w3 ⟨rfl, X3, b3⟩
  have A3 := A2.under b3 hAX
  have B3 := B2.trans (b3.mono (Nat.le_of_lt hAX))
  clear A2 B2 X2 b3  a0 a1 a2 H1
  clear hWX
  generalize w2.heap.size = X at *
  obtain ⟨_, a0, a1, a2⟩ := id A3
  obtain ⟨_, x0, x1, x2, x3, x4⟩ := id X3
  go_wp2_with fail
  go_at_call 61
  refine (H2.out _ _ X3).mono ?_
  rintro e w4 ⟨rfl, X4, b4⟩
  have A4 := A3.under b4 hAX
  have B4 := B3.trans (b4.mono (Nat.le_of_lt hAX))
  clear A3 B3 X3 b4 x0 x1 x2 x3 x4 a0 a1 a2 H2
  obtain ⟨_, a0, a1, a2⟩ := id A4
  obtain ⟨_, x0, x1, x2, x3, x4⟩ := id X4
  go_wp2_with fail
  go_at_call 62
  refine (H3.out _ _ X4).mono ?_
  rintro e w5 ⟨rfl, X5, b5⟩
  have A5 := A4.under b5 hAX
  have B5 := B4.trans (b5.mono (Nat.le_of_lt hAX))
  clear A4 B4 X4 b5 x0 x1 x2 x3 x4 a0 a1 a2 H3
  obtain ⟨_, a0, a1, a2⟩ := id A5
  obtain ⟨_, x0, x1, x2, x3, x4⟩ := id X5
  go_wp2_with fail
  go_at_call 61
  refine (H4.out _ _ X5).mono ?_
  rintro e w6 ⟨rfl, X6, b6⟩
  have A6 := A5.under b6 hAX
  have B6 := B5.trans (b6.mono (Nat.le_of_lt hAX))
  clear A5 B5 X5 b6 x0 x1 x2 x3 x4 a0 a1 a2 H4
  obtain ⟨_, a0, a1, a2⟩ := id A6
  obtain ⟨_, x0, x1, x2, x3, x4⟩ := id X6
  go_wp2_with fail
  go_at_call 62
  refine (H5.out _ _ X6).mono ?_
  rintro e w7 ⟨rfl, X7, b7⟩
  have A7 := A6.under b7 hAX
  have B7 := B6.trans (b7.mono (Nat.le_of_lt hAX))
  clear A6 B6 X6 b7 x0 x1 x2 x3 x4 a0 a1 a2 H5
  obtain ⟨_, a0, a1, a2⟩ := id A7
  obtain ⟨_, x0, x1, x2, x3, x4⟩ := id X7
  go_wp2_with fail
  go_at_call 61
  refine (H6.out _ _ X7).mono ?_
  rintro e w8 ⟨rfl, X8, b8⟩
  have A8 := A7.under b8 hAX
  have B8 := B7.trans (b8.mono (Nat.le_of_lt hAX))
  clear A7 B7 X7 b8 x0 x1 x2 x3 x4 a0 a1 a2 H6
  obtain ⟨_, a0, a1, a2⟩ := id A8
  obtain ⟨_, x0, x1, x2, x3, x4⟩ := id X8
  go_wp2_with fail
  go_at_call 54
  refine (HV.out _).mono ?_
  rintro e wv ⟨rfl, hwv⟩
  obtain rfl := hwv.symm
  go_wp2_with fail
  go_at_call 63
  refine (H7.out _ _ X8).mono ?_
  rintro e w9 ⟨rfl, X9, b9⟩
  have A9 := A8.under b9 hAX
  have B9 := B8.trans (b9.mono (Nat.le_of_lt hAX))
  clear A8 B8 X8 b9 x0 x1 x2 x3 x4 a0 a1 a2 H7
  obtain ⟨_, a0, a1, a2⟩ := id A9
  obtain ⟨_, x0, x1, x2, x3, x4⟩ := id X9
  go_wp2_with fail
  go_at_call 53
  refine (HO.out _).mono ?_
  rintro e w10 ⟨rfl, b10⟩
  have A10 := A9.keep b10
  have B10 := bup B9 b10
  clear A9 B9 b10 a0 a1 a2 HO
  obtain ⟨_, a0, a1, a2⟩ := id A10
  go_wp2_with fail
  go_ret2
  exact ⟨rfl, B10⟩
set_option maxRecDepth 100000 in
set_option maxHeartbeats 2000000 in
theorem rnum_t0t (n d f h m s x : Int) (l : List UInt8) (k1 k2 k3 k4 k5 k6 wd : Nat) (b1 b2 b3 b4 b5 b6 : Bool) (lf la u M V D Lm fr : Int) (hh : 0 ≤ h ∧ h ≤ 1000) (hm : 0 ≤ m ∧ m ≤ 1000) (hs : 0 ≤ s ∧ s ≤ 1000) (hx : 0 ≤ x ∧ x ≤ 1000) (hf : 0 ≤ f ∧ f ≤ 1000) (hM : 60 * h + m = M) (hV : (60 * M + s) * f = V) (hV0 : 0 ≤ V ∧ V ≤ 100000000000) (hD : M / 10 = D) (hL : lf * (M - D) = Lm) (hL0 : 0 ≤ Lm ∧ Lm ≤ 100000000) (hfr : V + x - Lm = fr) (hxf : x < f) (hs0 : s = 0) (hu : u ≤ x) (ht : la < fr) (w : World)
    (HC : ∀ w, Calls Tryd.prog 21 #[.agg #[.int .i64 n, .int .i64 d, .bool true]] w fun e w' => e = .returned (.int .i64 0) ∧ Below w.heap.size w w')
    (HF : ∀ w, Calls Tryd.prog 51 #[.agg #[.int .i64 n, .int .i64 d, .bool true]] w fun e w' => e = .returned (.int .i64 f) ∧ Below w.heap.size w w')
    (H1 : ∀ B w, RdAt w B l 0 false → Calls Tryd.prog 60 #[.pointer (some ⟨B, 0, none⟩), .int .i64 2] w fun e w' => e = .returned (.int .i64 h) ∧ RdAt w' B l k1 b1 ∧ Below B w w')
    (H2 : ∀ B w, RdAt w B l k1 b1 → Calls Tryd.prog 61 #[.pointer (some ⟨B, 0, none⟩), .int .u8 58] w fun e w' => e = .returned (.tuple #[]) ∧ RdAt w' B l k2 b2 ∧ Below B w w')
    (H3 : ∀ B w, RdAt w B l k2 b2 → Calls Tryd.prog 62 #[.pointer (some ⟨B, 0, none⟩)] w fun e w' => e = .returned (.int .i64 m) ∧ RdAt w' B l k3 b3 ∧ Below B w w')
    (H4 : ∀ B w, RdAt w B l k3 b3 → Calls Tryd.prog 61 #[.pointer (some ⟨B, 0, none⟩), .int .u8 58] w fun e w' => e = .returned (.tuple #[]) ∧ RdAt w' B l k4 b4 ∧ Below B w w')
    (H5 : ∀ B w, RdAt w B l k4 b4 → Calls Tryd.prog 62 #[.pointer (some ⟨B, 0, none⟩)] w fun e w' => e = .returned (.int .i64 s) ∧ RdAt w' B l k5 b5 ∧ Below B w w')
    (H6 : ∀ B w, RdAt w B l k5 b5 → Calls Tryd.prog 61 #[.pointer (some ⟨B, 0, none⟩), .int .u8 59] w fun e w' => e = .returned (.tuple #[]) ∧ RdAt w' B l k6 b6 ∧ Below B w w')
    (HV : ∀ w, Calls Tryd.prog 54 #[.int .i64 f] w fun e w' => e = .returned (.int .i64 (wd : Nat)) ∧ w' = w)
    (H7 : ∀ B w, RdAt w B l k6 b6 → Calls Tryd.prog 63 #[.pointer (some ⟨B, 0, none⟩), .int .i64 (wd : Nat)] w fun e w' => e = .returned (.int .i64 x) ∧ RdAt w' B l l.length false ∧ Below B w w')
    (HO : ∀ w, Calls Tryd.prog 53 #[.agg #[.int .i64 n, .int .i64 d, .bool true], .int .i64 m] w fun e w' => e = .returned (.int .i64 u) ∧ Below w.heap.size w w')
    (HL : ∀ w, Calls Tryd.prog 52 #[.agg #[.int .i64 n, .int .i64 d, .bool true]] w fun e w' => e = .returned (.int .i64 lf) ∧ Below w.heap.size w w')
    (HA : ∀ w, Calls Tryd.prog 49 #[.agg #[.int .i64 n, .int .i64 d, .bool true]] w fun e w' => e = .returned (.int .i64 la) ∧ Below w.heap.size w w') :
    Calls Tryd.prog 29 #[.agg #[.int .i64 n, .int .i64 d, .bool true], .string (bs l)] w fun e w' => e = .returned (.tuple #[.int .i64 0, .int .i64 31]) ∧ Below w.heap.size w w' := by
  have HC := hideR HC
  have HF := hideR HF
  have H1 := hideR H1
  have H2 := hideR H2
  have H3 := hideR H3
  have H4 := hideR H4
  have H5 := hideR H5
  have H6 := hideR H6
  have HV := hideR HV
  have H7 := hideR H7
  have HO := hideR HO
  have HL := hideR HL
  have HA := hideR HA
  have hsz := bs_size l
  subst hs0
  rw [Int.add_zero] at hV
  go_enter Tryd.func29, Tryd.ntmps29
  go_wp2_with fail
  go_at_call 21
  refine (HC.out _).mono ?_
  rintro e w1 ⟨rfl, b1⟩
  have A1 := ((RateAt.new w n d true).keep b1)
  have B1 := bup (bel1 w _) b1
  clear b1
  obtain ⟨_, a0, a1, a2⟩ := id A1
  go_wp2_with fail
  go_at_call 51
  refine (HF.out _).mono ?_
  rintro e w2 ⟨rfl, b2⟩
  have A2 := (A1.keep b2)
  have B2 := bup B1 b2
  clear A1 B1 a0 a1 a2
  clear b2
  obtain ⟨_, a0, a1, a2⟩ := id A2
  go_wp2_with fail
  have hAX := A2.1
  have X2 := RdAt.new w2 l
  have A2 := A2.alloc (.cells #[.string (bs l), .int .i64 0, .bool false] 87)
  have B2 := bup B2 (bel1 w2 (.cells #[.string (bs l), .int .i64 0, .bool false] 87))
  have hWX := B2.size
  go_at_call 60
  refine (H1.out _ _ X2).mono ?_
  rintro e w3 ⟨rfl, X3, b3⟩
  have A3 := A2.under b3 hAX
  have B3 := B2.trans (b3.mono (Nat.le_of_lt hAX))
  clear A2 B2 X2 b3  a0 a1 a2 H1
  clear hWX
  generalize w2.heap.size = X at *
  obtain ⟨_, a0, a1, a2⟩ := id A3
  obtain ⟨_, x0, x1, x2, x3, x4⟩ := id X3
  go_wp2_with fail
  go_at_call 61
  refine (H2.out _ _ X3).mono ?_
  rintro e w4 ⟨rfl, X4, b4⟩
  have A4 := A3.under b4 hAX
  have B4 := B3.trans (b4.mono (Nat.le_of_lt hAX))
  clear A3 B3 X3 b4 x0 x1 x2 x3 x4 a0 a1 a2 H2
  obtain ⟨_, a0, a1, a2⟩ := id A4
  obtain ⟨_, x0, x1, x2, x3, x4⟩ := id X4
  go_wp2_with fail
  go_at_call 62
  refine (H3.out _ _ X4).mono ?_
  rintro e w5 ⟨rfl, X5, b5⟩
  have A5 := A4.under b5 hAX
  have B5 := B4.trans (b5.mono (Nat.le_of_lt hAX))
  clear A4 B4 X4 b5 x0 x1 x2 x3 x4 a0 a1 a2 H3
  obtain ⟨_, a0, a1, a2⟩ := id A5
  obtain ⟨_, x0, x1, x2, x3, x4⟩ := id X5
  go_wp2_with fail
  go_at_call 61
  refine (H4.out _ _ X5).mono ?_
  rintro e w6 ⟨rfl, X6, b6⟩
  have A6 := A5.under b6 hAX
  have B6 := B5.trans (b6.mono (Nat.le_of_lt hAX))
  clear A5 B5 X5 b6 x0 x1 x2 x3 x4 a0 a1 a2 H4
  obtain ⟨_, a0, a1, a2⟩ := id A6
  obtain ⟨_, x0, x1, x2, x3, x4⟩ := id X6
  go_wp2_with fail
  go_at_call 62
  refine (H5.out _ _ X6).mono ?_
  rintro e w7 ⟨rfl, X7, b7⟩
  have A7 := A6.under b7 hAX
  have B7 := B6.trans (b7.mono (Nat.le_of_lt hAX))
  clear A6 B6 X6 b7 x0 x1 x2 x3 x4 a0 a1 a2 H5
  obtain ⟨_, a0, a1, a2⟩ := id A7
  obtain ⟨_, x0, x1, x2, x3, x4⟩ := id X7
  go_wp2_with fail
  go_at_call 61
  refine (H6.out _ _ X7).mono ?_
  rintro e w8 ⟨rfl, X8, b8⟩
  have A8 := A7.under b8 hAX
  have B8 := B7.trans (b8.mono (Nat.le_of_lt hAX))
  clear A7 B7 X7 b8 x0 x1 x2 x3 x4 a0 a1 a2 H6
  obtain ⟨_, a0, a1, a2⟩ := id A8
  obtain ⟨_, x0, x1, x2, x3, x4⟩ := id X8
  go_wp2_with fail
  go_at_call 54
  refine (HV.out _).mono ?_
  rintro e wv ⟨rfl, hwv⟩
  obtain rfl := hwv.symm
  go_wp2_with fail
  go_at_call 63
  refine (H7.out _ _ X8).mono ?_
  rintro e w9 ⟨rfl, X9, b9⟩
  have A9 := A8.under b9 hAX
  have B9 := B8.trans (b9.mono (Nat.le_of_lt hAX))
  clear A8 B8 X8 b9 x0 x1 x2 x3 x4 a0 a1 a2 H7
  obtain ⟨_, a0, a1, a2⟩ := id A9
  obtain ⟨_, x0, x1, x2, x3, x4⟩ := id X9
  go_wp2_with fail
  go_at_call 53
  refine (HO.out _).mono ?_
  rintro e w10 ⟨rfl, b10⟩
  have A10 := A9.keep b10
  have B10 := bup B9 b10
  clear A9 B9 b10 a0 a1 a2 HO
  obtain ⟨_, a0, a1, a2⟩ := id A10
  go_wp2_with fail
  go_at_call 52
  refine (HL.out _).mono ?_
  rintro e w11 ⟨rfl, b11⟩
  have A11 := A10.keep b11
  have B11 := bup B10 b11
  clear A10 B10 b11 a0 a1 a2 HL
  obtain ⟨_, a0, a1, a2⟩ := id A11
  go_wp2_with fail
  go_at_call 49
  refine (HA.out _).mono ?_
  rintro e w12 ⟨rfl, b12⟩
  have A12 := A11.keep b12
  have B12 := bup B11 b12
  clear A11 B11 b12 a0 a1 a2 HA
  obtain ⟨_, a0, a1, a2⟩ := id A12
  go_wp2_with fail
  go_ret2
  exact ⟨rfl, B12⟩
set_option maxRecDepth 100000 in
set_option maxHeartbeats 2000000 in
theorem rnum_k0t (n d f h m s x : Int) (l : List UInt8) (k1 k2 k3 k4 k5 k6 wd : Nat) (b1 b2 b3 b4 b5 b6 : Bool) (lf la u M V D Lm fr : Int) (hh : 0 ≤ h ∧ h ≤ 1000) (hm : 0 ≤ m ∧ m ≤ 1000) (hs : 0 ≤ s ∧ s ≤ 1000) (hx : 0 ≤ x ∧ x ≤ 1000) (hf : 0 ≤ f ∧ f ≤ 1000) (hM : 60 * h + m = M) (hV : (60 * M + s) * f = V) (hV0 : 0 ≤ V ∧ V ≤ 100000000000) (hD : M / 10 = D) (hL : lf * (M - D) = Lm) (hL0 : 0 ≤ Lm ∧ Lm ≤ 100000000) (hfr : V + x - Lm = fr) (hxf : x < f) (hs0 : s = 0) (hu : u ≤ x) (ht : fr ≤ la) (w : World)
    (HC : ∀ w, Calls Tryd.prog 21 #[.agg #[.int .i64 n, .int .i64 d, .bool true]] w fun e w' => e = .returned (.int .i64 0) ∧ Below w.heap.size w w')
    (HF : ∀ w, Calls Tryd.prog 51 #[.agg #[.int .i64 n, .int .i64 d, .bool true]] w fun e w' => e = .returned (.int .i64 f) ∧ Below w.heap.size w w')
    (H1 : ∀ B w, RdAt w B l 0 false → Calls Tryd.prog 60 #[.pointer (some ⟨B, 0, none⟩), .int .i64 2] w fun e w' => e = .returned (.int .i64 h) ∧ RdAt w' B l k1 b1 ∧ Below B w w')
    (H2 : ∀ B w, RdAt w B l k1 b1 → Calls Tryd.prog 61 #[.pointer (some ⟨B, 0, none⟩), .int .u8 58] w fun e w' => e = .returned (.tuple #[]) ∧ RdAt w' B l k2 b2 ∧ Below B w w')
    (H3 : ∀ B w, RdAt w B l k2 b2 → Calls Tryd.prog 62 #[.pointer (some ⟨B, 0, none⟩)] w fun e w' => e = .returned (.int .i64 m) ∧ RdAt w' B l k3 b3 ∧ Below B w w')
    (H4 : ∀ B w, RdAt w B l k3 b3 → Calls Tryd.prog 61 #[.pointer (some ⟨B, 0, none⟩), .int .u8 58] w fun e w' => e = .returned (.tuple #[]) ∧ RdAt w' B l k4 b4 ∧ Below B w w')
    (H5 : ∀ B w, RdAt w B l k4 b4 → Calls Tryd.prog 62 #[.pointer (some ⟨B, 0, none⟩)] w fun e w' => e = .returned (.int .i64 s) ∧ RdAt w' B l k5 b5 ∧ Below B w w')
    (H6 : ∀ B w, RdAt w B l k5 b5 → Calls Tryd.prog 61 #[.pointer (some ⟨B, 0, none⟩), .int .u8 59] w fun e w' => e = .returned (.tuple #[]) ∧ RdAt w' B l k6 b6 ∧ Below B w w')
    (HV : ∀ w, Calls Tryd.prog 54 #[.int .i64 f] w fun e w' => e = .returned (.int .i64 (wd : Nat)) ∧ w' = w)
    (H7 : ∀ B w, RdAt w B l k6 b6 → Calls Tryd.prog 63 #[.pointer (some ⟨B, 0, none⟩), .int .i64 (wd : Nat)] w fun e w' => e = .returned (.int .i64 x) ∧ RdAt w' B l l.length false ∧ Below B w w')
    (HO : ∀ w, Calls Tryd.prog 53 #[.agg #[.int .i64 n, .int .i64 d, .bool true], .int .i64 m] w fun e w' => e = .returned (.int .i64 u) ∧ Below w.heap.size w w')
    (HL : ∀ w, Calls Tryd.prog 52 #[.agg #[.int .i64 n, .int .i64 d, .bool true]] w fun e w' => e = .returned (.int .i64 lf) ∧ Below w.heap.size w w')
    (HA : ∀ w, Calls Tryd.prog 49 #[.agg #[.int .i64 n, .int .i64 d, .bool true]] w fun e w' => e = .returned (.int .i64 la) ∧ Below w.heap.size w w') :
    Calls Tryd.prog 29 #[.agg #[.int .i64 n, .int .i64 d, .bool true], .string (bs l)] w fun e w' => e = .returned (.tuple #[.int .i64 fr, .int .i64 0]) ∧ Below w.heap.size w w' := by
  have HC := hideR HC
  have HF := hideR HF
  have H1 := hideR H1
  have H2 := hideR H2
  have H3 := hideR H3
  have H4 := hideR H4
  have H5 := hideR H5
  have H6 := hideR H6
  have HV := hideR HV
  have H7 := hideR H7
  have HO := hideR HO
  have HL := hideR HL
  have HA := hideR HA
  have hsz := bs_size l
  subst hs0
  rw [Int.add_zero] at hV
  go_enter Tryd.func29, Tryd.ntmps29
  go_wp2_with fail
  go_at_call 21
  refine (HC.out _).mono ?_
  rintro e w1 ⟨rfl, b1⟩
  have A1 := ((RateAt.new w n d true).keep b1)
  have B1 := bup (bel1 w _) b1
  clear b1
  obtain ⟨_, a0, a1, a2⟩ := id A1
  go_wp2_with fail
  go_at_call 51
  refine (HF.out _).mono ?_
  rintro e w2 ⟨rfl, b2⟩
  have A2 := (A1.keep b2)
  have B2 := bup B1 b2
  clear A1 B1 a0 a1 a2
  clear b2
  obtain ⟨_, a0, a1, a2⟩ := id A2
  go_wp2_with fail
  have hAX := A2.1
  have X2 := RdAt.new w2 l
  have A2 := A2.alloc (.cells #[.string (bs l), .int .i64 0, .bool false] 87)
  have B2 := bup B2 (bel1 w2 (.cells #[.string (bs l), .int .i64 0, .bool false] 87))
  have hWX := B2.size
  go_at_call 60
  refine (H1.out _ _ X2).mono ?_
  rintro e w3 ⟨rfl, X3, b3⟩
  have A3 := A2.under b3 hAX
  have B3 := B2.trans (b3.mono (Nat.le_of_lt hAX))
  clear A2 B2 X2 b3  a0 a1 a2 H1
  clear hWX
  generalize w2.heap.size = X at *
  obtain ⟨_, a0, a1, a2⟩ := id A3
  obtain ⟨_, x0, x1, x2, x3, x4⟩ := id X3
  go_wp2_with fail
  go_at_call 61
  refine (H2.out _ _ X3).mono ?_
  rintro e w4 ⟨rfl, X4, b4⟩
  have A4 := A3.under b4 hAX
  have B4 := B3.trans (b4.mono (Nat.le_of_lt hAX))
  clear A3 B3 X3 b4 x0 x1 x2 x3 x4 a0 a1 a2 H2
  obtain ⟨_, a0, a1, a2⟩ := id A4
  obtain ⟨_, x0, x1, x2, x3, x4⟩ := id X4
  go_wp2_with fail
  go_at_call 62
  refine (H3.out _ _ X4).mono ?_
  rintro e w5 ⟨rfl, X5, b5⟩
  have A5 := A4.under b5 hAX
  have B5 := B4.trans (b5.mono (Nat.le_of_lt hAX))
  clear A4 B4 X4 b5 x0 x1 x2 x3 x4 a0 a1 a2 H3
  obtain ⟨_, a0, a1, a2⟩ := id A5
  obtain ⟨_, x0, x1, x2, x3, x4⟩ := id X5
  go_wp2_with fail
  go_at_call 61
  refine (H4.out _ _ X5).mono ?_
  rintro e w6 ⟨rfl, X6, b6⟩
  have A6 := A5.under b6 hAX
  have B6 := B5.trans (b6.mono (Nat.le_of_lt hAX))
  clear A5 B5 X5 b6 x0 x1 x2 x3 x4 a0 a1 a2 H4
  obtain ⟨_, a0, a1, a2⟩ := id A6
  obtain ⟨_, x0, x1, x2, x3, x4⟩ := id X6
  go_wp2_with fail
  go_at_call 62
  refine (H5.out _ _ X6).mono ?_
  rintro e w7 ⟨rfl, X7, b7⟩
  have A7 := A6.under b7 hAX
  have B7 := B6.trans (b7.mono (Nat.le_of_lt hAX))
  clear A6 B6 X6 b7 x0 x1 x2 x3 x4 a0 a1 a2 H5
  obtain ⟨_, a0, a1, a2⟩ := id A7
  obtain ⟨_, x0, x1, x2, x3, x4⟩ := id X7
  go_wp2_with fail
  go_at_call 61
  refine (H6.out _ _ X7).mono ?_
  rintro e w8 ⟨rfl, X8, b8⟩
  have A8 := A7.under b8 hAX
  have B8 := B7.trans (b8.mono (Nat.le_of_lt hAX))
  clear A7 B7 X7 b8 x0 x1 x2 x3 x4 a0 a1 a2 H6
  obtain ⟨_, a0, a1, a2⟩ := id A8
  obtain ⟨_, x0, x1, x2, x3, x4⟩ := id X8
  go_wp2_with fail
  go_at_call 54
  refine (HV.out _).mono ?_
  rintro e wv ⟨rfl, hwv⟩
  obtain rfl := hwv.symm
  go_wp2_with fail
  go_at_call 63
  refine (H7.out _ _ X8).mono ?_
  rintro e w9 ⟨rfl, X9, b9⟩
  have A9 := A8.under b9 hAX
  have B9 := B8.trans (b9.mono (Nat.le_of_lt hAX))
  clear A8 B8 X8 b9 x0 x1 x2 x3 x4 a0 a1 a2 H7
  obtain ⟨_, a0, a1, a2⟩ := id A9
  obtain ⟨_, x0, x1, x2, x3, x4⟩ := id X9
  go_wp2_with fail
  go_at_call 53
  refine (HO.out _).mono ?_
  rintro e w10 ⟨rfl, b10⟩
  have A10 := A9.keep b10
  have B10 := bup B9 b10
  clear A9 B9 b10 a0 a1 a2 HO
  obtain ⟨_, a0, a1, a2⟩ := id A10
  go_wp2_with fail
  go_at_call 52
  refine (HL.out _).mono ?_
  rintro e w11 ⟨rfl, b11⟩
  have A11 := A10.keep b11
  have B11 := bup B10 b11
  clear A10 B10 b11 a0 a1 a2 HL
  obtain ⟨_, a0, a1, a2⟩ := id A11
  go_wp2_with fail
  go_at_call 49
  refine (HA.out _).mono ?_
  rintro e w12 ⟨rfl, b12⟩
  have A12 := A11.keep b12
  have B12 := bup B11 b12
  clear A11 B11 b12 a0 a1 a2 HA
  obtain ⟨_, a0, a1, a2⟩ := id A12
  go_wp2_with fail
  go_ret2
  exact ⟨rfl, B12⟩
set_option maxRecDepth 100000 in
set_option maxHeartbeats 2000000 in
theorem rnum_tzt (n d f h m s x : Int) (l : List UInt8) (k1 k2 k3 k4 k5 k6 wd : Nat) (b1 b2 b3 b4 b5 b6 : Bool) (lf la M V D Lm fr : Int) (hh : 0 ≤ h ∧ h ≤ 1000) (hm : 0 ≤ m ∧ m ≤ 1000) (hs : 0 ≤ s ∧ s ≤ 1000) (hx : 0 ≤ x ∧ x ≤ 1000) (hf : 0 ≤ f ∧ f ≤ 1000) (hM : 60 * h + m = M) (hV : (60 * M + s) * f = V) (hV0 : 0 ≤ V ∧ V ≤ 100000000000) (hD : M / 10 = D) (hL : lf * (M - D) = Lm) (hL0 : 0 ≤ Lm ∧ Lm ≤ 100000000) (hfr : V + x - Lm = fr) (hxf : x < f) (hs2 : (s == 0) = false) (ht : la < fr) (w : World)
    (HC : ∀ w, Calls Tryd.prog 21 #[.agg #[.int .i64 n, .int .i64 d, .bool true]] w fun e w' => e = .returned (.int .i64 0) ∧ Below w.heap.size w w')
    (HF : ∀ w, Calls Tryd.prog 51 #[.agg #[.int .i64 n, .int .i64 d, .bool true]] w fun e w' => e = .returned (.int .i64 f) ∧ Below w.heap.size w w')
    (H1 : ∀ B w, RdAt w B l 0 false → Calls Tryd.prog 60 #[.pointer (some ⟨B, 0, none⟩), .int .i64 2] w fun e w' => e = .returned (.int .i64 h) ∧ RdAt w' B l k1 b1 ∧ Below B w w')
    (H2 : ∀ B w, RdAt w B l k1 b1 → Calls Tryd.prog 61 #[.pointer (some ⟨B, 0, none⟩), .int .u8 58] w fun e w' => e = .returned (.tuple #[]) ∧ RdAt w' B l k2 b2 ∧ Below B w w')
    (H3 : ∀ B w, RdAt w B l k2 b2 → Calls Tryd.prog 62 #[.pointer (some ⟨B, 0, none⟩)] w fun e w' => e = .returned (.int .i64 m) ∧ RdAt w' B l k3 b3 ∧ Below B w w')
    (H4 : ∀ B w, RdAt w B l k3 b3 → Calls Tryd.prog 61 #[.pointer (some ⟨B, 0, none⟩), .int .u8 58] w fun e w' => e = .returned (.tuple #[]) ∧ RdAt w' B l k4 b4 ∧ Below B w w')
    (H5 : ∀ B w, RdAt w B l k4 b4 → Calls Tryd.prog 62 #[.pointer (some ⟨B, 0, none⟩)] w fun e w' => e = .returned (.int .i64 s) ∧ RdAt w' B l k5 b5 ∧ Below B w w')
    (H6 : ∀ B w, RdAt w B l k5 b5 → Calls Tryd.prog 61 #[.pointer (some ⟨B, 0, none⟩), .int .u8 59] w fun e w' => e = .returned (.tuple #[]) ∧ RdAt w' B l k6 b6 ∧ Below B w w')
    (HV : ∀ w, Calls Tryd.prog 54 #[.int .i64 f] w fun e w' => e = .returned (.int .i64 (wd : Nat)) ∧ w' = w)
    (H7 : ∀ B w, RdAt w B l k6 b6 → Calls Tryd.prog 63 #[.pointer (some ⟨B, 0, none⟩), .int .i64 (wd : Nat)] w fun e w' => e = .returned (.int .i64 x) ∧ RdAt w' B l l.length false ∧ Below B w w')
    (HL : ∀ w, Calls Tryd.prog 52 #[.agg #[.int .i64 n, .int .i64 d, .bool true]] w fun e w' => e = .returned (.int .i64 lf) ∧ Below w.heap.size w w')
    (HA : ∀ w, Calls Tryd.prog 49 #[.agg #[.int .i64 n, .int .i64 d, .bool true]] w fun e w' => e = .returned (.int .i64 la) ∧ Below w.heap.size w w') :
    Calls Tryd.prog 29 #[.agg #[.int .i64 n, .int .i64 d, .bool true], .string (bs l)] w fun e w' => e = .returned (.tuple #[.int .i64 0, .int .i64 31]) ∧ Below w.heap.size w w' := by
  have HC := hideR HC
  have HF := hideR HF
  have H1 := hideR H1
  have H2 := hideR H2
  have H3 := hideR H3
  have H4 := hideR H4
  have H5 := hideR H5
  have H6 := hideR H6
  have HV := hideR HV
  have H7 := hideR H7
  have HL := hideR HL
  have HA := hideR HA
  have hsz := bs_size l
  go_enter Tryd.func29, Tryd.ntmps29
  go_wp2_with fail
  go_at_call 21
  refine (HC.out _).mono ?_
  rintro e w1 ⟨rfl, b1⟩
  have A1 := ((RateAt.new w n d true).keep b1)
  have B1 := bup (bel1 w _) b1
  clear b1
  obtain ⟨_, a0, a1, a2⟩ := id A1
  go_wp2_with fail
  go_at_call 51
  refine (HF.out _).mono ?_
  rintro e w2 ⟨rfl, b2⟩
  have A2 := (A1.keep b2)
  have B2 := bup B1 b2
  clear A1 B1 a0 a1 a2
  clear b2
  obtain ⟨_, a0, a1, a2⟩ := id A2
  go_wp2_with fail
  have hAX := A2.1
  have X2 := RdAt.new w2 l
  have A2 := A2.alloc (.cells #[.string (bs l), .int .i64 0, .bool false] 87)
  have B2 := bup B2 (bel1 w2 (.cells #[.string (bs l), .int .i64 0, .bool false] 87))
  have hWX := B2.size
  go_at_call 60
  refine (H1.out _ _ X2).mono ?_
  rintro e w3 ⟨rfl, X3, b3⟩
  have A3 := A2.under b3 hAX
  have B3 := B2.trans (b3.mono (Nat.le_of_lt hAX))
  clear A2 B2 X2 b3  a0 a1 a2 H1
  clear hWX
  generalize w2.heap.size = X at *
  obtain ⟨_, a0, a1, a2⟩ := id A3
  obtain ⟨_, x0, x1, x2, x3, x4⟩ := id X3
  go_wp2_with fail
  go_at_call 61
  refine (H2.out _ _ X3).mono ?_
  rintro e w4 ⟨rfl, X4, b4⟩
  have A4 := A3.under b4 hAX
  have B4 := B3.trans (b4.mono (Nat.le_of_lt hAX))
  clear A3 B3 X3 b4 x0 x1 x2 x3 x4 a0 a1 a2 H2
  obtain ⟨_, a0, a1, a2⟩ := id A4
  obtain ⟨_, x0, x1, x2, x3, x4⟩ := id X4
  go_wp2_with fail
  go_at_call 62
  refine (H3.out _ _ X4).mono ?_
  rintro e w5 ⟨rfl, X5, b5⟩
  have A5 := A4.under b5 hAX
  have B5 := B4.trans (b5.mono (Nat.le_of_lt hAX))
  clear A4 B4 X4 b5 x0 x1 x2 x3 x4 a0 a1 a2 H3
  obtain ⟨_, a0, a1, a2⟩ := id A5
  obtain ⟨_, x0, x1, x2, x3, x4⟩ := id X5
  go_wp2_with fail
  go_at_call 61
  refine (H4.out _ _ X5).mono ?_
  rintro e w6 ⟨rfl, X6, b6⟩
  have A6 := A5.under b6 hAX
  have B6 := B5.trans (b6.mono (Nat.le_of_lt hAX))
  clear A5 B5 X5 b6 x0 x1 x2 x3 x4 a0 a1 a2 H4
  obtain ⟨_, a0, a1, a2⟩ := id A6
  obtain ⟨_, x0, x1, x2, x3, x4⟩ := id X6
  go_wp2_with fail
  go_at_call 62
  refine (H5.out _ _ X6).mono ?_
  rintro e w7 ⟨rfl, X7, b7⟩
  have A7 := A6.under b7 hAX
  have B7 := B6.trans (b7.mono (Nat.le_of_lt hAX))
  clear A6 B6 X6 b7 x0 x1 x2 x3 x4 a0 a1 a2 H5
  obtain ⟨_, a0, a1, a2⟩ := id A7
  obtain ⟨_, x0, x1, x2, x3, x4⟩ := id X7
  go_wp2_with fail
  go_at_call 61
  refine (H6.out _ _ X7).mono ?_
  rintro e w8 ⟨rfl, X8, b8⟩
  have A8 := A7.under b8 hAX
  have B8 := B7.trans (b8.mono (Nat.le_of_lt hAX))
  clear A7 B7 X7 b8 x0 x1 x2 x3 x4 a0 a1 a2 H6
  obtain ⟨_, a0, a1, a2⟩ := id A8
  obtain ⟨_, x0, x1, x2, x3, x4⟩ := id X8
  go_wp2_with fail
  go_at_call 54
  refine (HV.out _).mono ?_
  rintro e wv ⟨rfl, hwv⟩
  obtain rfl := hwv.symm
  go_wp2_with fail
  go_at_call 63
  refine (H7.out _ _ X8).mono ?_
  rintro e w9 ⟨rfl, X9, b9⟩
  have A9 := A8.under b9 hAX
  have B9 := B8.trans (b9.mono (Nat.le_of_lt hAX))
  clear A8 B8 X8 b9 x0 x1 x2 x3 x4 a0 a1 a2 H7
  obtain ⟨_, a0, a1, a2⟩ := id A9
  obtain ⟨_, x0, x1, x2, x3, x4⟩ := id X9
  go_wp2_with fail
  go_at_call 52
  refine (HL.out _).mono ?_
  rintro e w10 ⟨rfl, b10⟩
  have A10 := A9.keep b10
  have B10 := bup B9 b10
  clear A9 B9 b10 a0 a1 a2 HL
  obtain ⟨_, a0, a1, a2⟩ := id A10
  go_wp2_with fail
  go_at_call 49
  refine (HA.out _).mono ?_
  rintro e w11 ⟨rfl, b11⟩
  have A11 := A10.keep b11
  have B11 := bup B10 b11
  clear A10 B10 b11 a0 a1 a2 HA
  obtain ⟨_, a0, a1, a2⟩ := id A11
  go_wp2_with fail
  go_ret2
  exact ⟨rfl, B11⟩
set_option maxRecDepth 100000 in
set_option maxHeartbeats 2000000 in
theorem rnum_kzt (n d f h m s x : Int) (l : List UInt8) (k1 k2 k3 k4 k5 k6 wd : Nat) (b1 b2 b3 b4 b5 b6 : Bool) (lf la M V D Lm fr : Int) (hh : 0 ≤ h ∧ h ≤ 1000) (hm : 0 ≤ m ∧ m ≤ 1000) (hs : 0 ≤ s ∧ s ≤ 1000) (hx : 0 ≤ x ∧ x ≤ 1000) (hf : 0 ≤ f ∧ f ≤ 1000) (hM : 60 * h + m = M) (hV : (60 * M + s) * f = V) (hV0 : 0 ≤ V ∧ V ≤ 100000000000) (hD : M / 10 = D) (hL : lf * (M - D) = Lm) (hL0 : 0 ≤ Lm ∧ Lm ≤ 100000000) (hfr : V + x - Lm = fr) (hxf : x < f) (hs2 : (s == 0) = false) (ht : fr ≤ la) (w : World)
    (HC : ∀ w, Calls Tryd.prog 21 #[.agg #[.int .i64 n, .int .i64 d, .bool true]] w fun e w' => e = .returned (.int .i64 0) ∧ Below w.heap.size w w')
    (HF : ∀ w, Calls Tryd.prog 51 #[.agg #[.int .i64 n, .int .i64 d, .bool true]] w fun e w' => e = .returned (.int .i64 f) ∧ Below w.heap.size w w')
    (H1 : ∀ B w, RdAt w B l 0 false → Calls Tryd.prog 60 #[.pointer (some ⟨B, 0, none⟩), .int .i64 2] w fun e w' => e = .returned (.int .i64 h) ∧ RdAt w' B l k1 b1 ∧ Below B w w')
    (H2 : ∀ B w, RdAt w B l k1 b1 → Calls Tryd.prog 61 #[.pointer (some ⟨B, 0, none⟩), .int .u8 58] w fun e w' => e = .returned (.tuple #[]) ∧ RdAt w' B l k2 b2 ∧ Below B w w')
    (H3 : ∀ B w, RdAt w B l k2 b2 → Calls Tryd.prog 62 #[.pointer (some ⟨B, 0, none⟩)] w fun e w' => e = .returned (.int .i64 m) ∧ RdAt w' B l k3 b3 ∧ Below B w w')
    (H4 : ∀ B w, RdAt w B l k3 b3 → Calls Tryd.prog 61 #[.pointer (some ⟨B, 0, none⟩), .int .u8 58] w fun e w' => e = .returned (.tuple #[]) ∧ RdAt w' B l k4 b4 ∧ Below B w w')
    (H5 : ∀ B w, RdAt w B l k4 b4 → Calls Tryd.prog 62 #[.pointer (some ⟨B, 0, none⟩)] w fun e w' => e = .returned (.int .i64 s) ∧ RdAt w' B l k5 b5 ∧ Below B w w')
    (H6 : ∀ B w, RdAt w B l k5 b5 → Calls Tryd.prog 61 #[.pointer (some ⟨B, 0, none⟩), .int .u8 59] w fun e w' => e = .returned (.tuple #[]) ∧ RdAt w' B l k6 b6 ∧ Below B w w')
    (HV : ∀ w, Calls Tryd.prog 54 #[.int .i64 f] w fun e w' => e = .returned (.int .i64 (wd : Nat)) ∧ w' = w)
    (H7 : ∀ B w, RdAt w B l k6 b6 → Calls Tryd.prog 63 #[.pointer (some ⟨B, 0, none⟩), .int .i64 (wd : Nat)] w fun e w' => e = .returned (.int .i64 x) ∧ RdAt w' B l l.length false ∧ Below B w w')
    (HL : ∀ w, Calls Tryd.prog 52 #[.agg #[.int .i64 n, .int .i64 d, .bool true]] w fun e w' => e = .returned (.int .i64 lf) ∧ Below w.heap.size w w')
    (HA : ∀ w, Calls Tryd.prog 49 #[.agg #[.int .i64 n, .int .i64 d, .bool true]] w fun e w' => e = .returned (.int .i64 la) ∧ Below w.heap.size w w') :
    Calls Tryd.prog 29 #[.agg #[.int .i64 n, .int .i64 d, .bool true], .string (bs l)] w fun e w' => e = .returned (.tuple #[.int .i64 fr, .int .i64 0]) ∧ Below w.heap.size w w' := by
  have HC := hideR HC
  have HF := hideR HF
  have H1 := hideR H1
  have H2 := hideR H2
  have H3 := hideR H3
  have H4 := hideR H4
  have H5 := hideR H5
  have H6 := hideR H6
  have HV := hideR HV
  have H7 := hideR H7
  have HL := hideR HL
  have HA := hideR HA
  have hsz := bs_size l
  go_enter Tryd.func29, Tryd.ntmps29
  go_wp2_with fail
  go_at_call 21
  refine (HC.out _).mono ?_
  rintro e w1 ⟨rfl, b1⟩
  have A1 := ((RateAt.new w n d true).keep b1)
  have B1 := bup (bel1 w _) b1
  clear b1
  obtain ⟨_, a0, a1, a2⟩ := id A1
  go_wp2_with fail
  go_at_call 51
  refine (HF.out _).mono ?_
  rintro e w2 ⟨rfl, b2⟩
  have A2 := (A1.keep b2)
  have B2 := bup B1 b2
  clear A1 B1 a0 a1 a2
  clear b2
  obtain ⟨_, a0, a1, a2⟩ := id A2
  go_wp2_with fail
  have hAX := A2.1
  have X2 := RdAt.new w2 l
  have A2 := A2.alloc (.cells #[.string (bs l), .int .i64 0, .bool false] 87)
  have B2 := bup B2 (bel1 w2 (.cells #[.string (bs l), .int .i64 0, .bool false] 87))
  have hWX := B2.size
  go_at_call 60
  refine (H1.out _ _ X2).mono ?_
  rintro e w3 ⟨rfl, X3, b3⟩
  have A3 := A2.under b3 hAX
  have B3 := B2.trans (b3.mono (Nat.le_of_lt hAX))
  clear A2 B2 X2 b3  a0 a1 a2 H1
  clear hWX
  generalize w2.heap.size = X at *
  obtain ⟨_, a0, a1, a2⟩ := id A3
  obtain ⟨_, x0, x1, x2, x3, x4⟩ := id X3
  go_wp2_with fail
  go_at_call 61
  refine (H2.out _ _ X3).mono ?_
  rintro e w4 ⟨rfl, X4, b4⟩
  have A4 := A3.under b4 hAX
  have B4 := B3.trans (b4.mono (Nat.le_of_lt hAX))
  clear A3 B3 X3 b4 x0 x1 x2 x3 x4 a0 a1 a2 H2
  obtain ⟨_, a0, a1, a2⟩ := id A4
  obtain ⟨_, x0, x1, x2, x3, x4⟩ := id X4
  go_wp2_with fail
  go_at_call 62
  refine (H3.out _ _ X4).mono ?_
  rintro e w5 ⟨rfl, X5, b5⟩
  have A5 := A4.under b5 hAX
  have B5 := B4.trans (b5.mono (Nat.le_of_lt hAX))
  clear A4 B4 X4 b5 x0 x1 x2 x3 x4 a0 a1 a2 H3
  obtain ⟨_, a0, a1, a2⟩ := id A5
  obtain ⟨_, x0, x1, x2, x3, x4⟩ := id X5
  go_wp2_with fail
  go_at_call 61
  refine (H4.out _ _ X5).mono ?_
  rintro e w6 ⟨rfl, X6, b6⟩
  have A6 := A5.under b6 hAX
  have B6 := B5.trans (b6.mono (Nat.le_of_lt hAX))
  clear A5 B5 X5 b6 x0 x1 x2 x3 x4 a0 a1 a2 H4
  obtain ⟨_, a0, a1, a2⟩ := id A6
  obtain ⟨_, x0, x1, x2, x3, x4⟩ := id X6
  go_wp2_with fail
  go_at_call 62
  refine (H5.out _ _ X6).mono ?_
  rintro e w7 ⟨rfl, X7, b7⟩
  have A7 := A6.under b7 hAX
  have B7 := B6.trans (b7.mono (Nat.le_of_lt hAX))
  clear A6 B6 X6 b7 x0 x1 x2 x3 x4 a0 a1 a2 H5
  obtain ⟨_, a0, a1, a2⟩ := id A7
  obtain ⟨_, x0, x1, x2, x3, x4⟩ := id X7
  go_wp2_with fail
  go_at_call 61
  refine (H6.out _ _ X7).mono ?_
  rintro e w8 ⟨rfl, X8, b8⟩
  have A8 := A7.under b8 hAX
  have B8 := B7.trans (b8.mono (Nat.le_of_lt hAX))
  clear A7 B7 X7 b8 x0 x1 x2 x3 x4 a0 a1 a2 H6
  obtain ⟨_, a0, a1, a2⟩ := id A8
  obtain ⟨_, x0, x1, x2, x3, x4⟩ := id X8
  go_wp2_with fail
  go_at_call 54
  refine (HV.out _).mono ?_
  rintro e wv ⟨rfl, hwv⟩
  obtain rfl := hwv.symm
  go_wp2_with fail
  go_at_call 63
  refine (H7.out _ _ X8).mono ?_
  rintro e w9 ⟨rfl, X9, b9⟩
  have A9 := A8.under b9 hAX
  have B9 := B8.trans (b9.mono (Nat.le_of_lt hAX))
  clear A8 B8 X8 b9 x0 x1 x2 x3 x4 a0 a1 a2 H7
  obtain ⟨_, a0, a1, a2⟩ := id A9
  obtain ⟨_, x0, x1, x2, x3, x4⟩ := id X9
  go_wp2_with fail
  go_at_call 52
  refine (HL.out _).mono ?_
  rintro e w10 ⟨rfl, b10⟩
  have A10 := A9.keep b10
  have B10 := bup B9 b10
  clear A9 B9 b10 a0 a1 a2 HL
  obtain ⟨_, a0, a1, a2⟩ := id A10
  go_wp2_with fail
  go_at_call 49
  refine (HA.out _).mono ?_
  rintro e w11 ⟨rfl, b11⟩
  have A11 := A10.keep b11
  have B11 := bup B10 b11
  clear A10 B10 b11 a0 a1 a2 HA
  obtain ⟨_, a0, a1, a2⟩ := id A11
  go_wp2_with fail
  go_ret2
  exact ⟨rfl, B11⟩
end Go.Proofs.YtaipdckakgohjaaDoor
