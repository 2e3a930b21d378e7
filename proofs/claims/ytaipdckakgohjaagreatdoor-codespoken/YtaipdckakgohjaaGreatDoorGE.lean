/- Several texts, one behind the other. -/
import Derived.Test.YtaipdckakgohjaaGreatDoorCRefA
import Derived.Test.YtaipdckakgohjaaGreatDoorCRefD
import Derived.Test.YtaipdckakgohjaaGreatDoorCRefG
import Derived.Test.YtaipdckakgohjaaGreatDoorCdS
import Derived.Test.YtaipdckakgohjaaGreatDoorGC
import Derived.Test.YtaipdckakgohjaaGreatDoorGD
import Derived.Test.YtaipdckakgohjaaGreatDoorRefB4
/- surtitleref5.ParseClock: walks. -/
namespace Go.Proofs.YtaipdckakgohjaaGreatDoor
open Go.RowKit Go.Shelf
attribute [local go_sem] Oper.semAt_some

theorem frozB {V U : World} {B i : Nat} (e : U.heap[B]? = V.heap[B]?) : U.frozen? ⟨B, i, none⟩ = V.frozen? ⟨B, i, none⟩ := by
  unfold World.frozen?
  rw [e]
theorem Two.under {V U : World} {A B : Nat} {x y : Value} (h : Two V A x y) (k : Below B V U) (hAB : A < B) : Two U A x y :=
  ⟨Nat.lt_of_lt_of_le h.1 k.size, (k.cell (p := ⟨A, 0, none⟩) hAB).trans h.2.1, (k.cell (p := ⟨A, 1, none⟩) hAB).trans h.2.2.1, (frozB (k.block A hAB)).trans h.2.2.2.1, (frozB (k.block A hAB)).trans h.2.2.2.2⟩
set_option maxRecDepth 100000 in
set_option maxHeartbeats 2000000 in
theorem rpclock_kind (fm : Int) (l : List UInt8) (w : World)
    (HG : ∀ w, Calls Tryz.prog 28 #[.int .i64 fm] w fun e w' => e = .returned (.int .i64 0) ∧ w' = w) :
    Calls Tryz.prog 8 #[.int .i64 fm, .string (bs l)] w fun e w' => e = .returned (.tuple #[.agg #[.int .i64 0, .int .i64 0], .int .i64 5]) ∧ Below w.heap.size w w' := by
  have HG := hideR HG
  go_enter Tryz.func8, Tryz.ntmps8
  go_wp2_with fail
  have Z0 := Two.new w (.int .i64 0) (.int .i64 0) 24
  go_at_call 28
  refine (HG.out _).mono ?_
  rintro e wg ⟨rfl, hwg⟩
  obtain rfl := hwg.symm
  obtain ⟨_, z0, z1, z2, z3⟩ := id Z0
  go_wp2_with fail
  exact bodyPost_ret (v := .tuple #[.agg #[.int .i64 0, .int .i64 0], .int .i64 5]) (by simp [results, Tryz.results8, go_sem, z0, z1]) rfl ⟨rfl, bel1 w _⟩
set_option maxRecDepth 100000 in
set_option maxHeartbeats 2000000 in
theorem rpclock_1x (h m s x : Int) (l : List UInt8) (k1 k2 k3 k4 k5 k6 k7 : Nat) (b1 b2 b3 b4 b5 b6 : Bool) (w : World)
    (HG : ∀ w, Calls Tryz.prog 28 #[.int .i64 1] w fun e w' => e = .returned (.int .i64 1000) ∧ w' = w)
    (H1 : ∀ B w, RdAt w B l 0 false → Calls Tryz.prog 29 #[.pointer (some ⟨B, 0, none⟩), .int .i64 2] w fun e w' => e = .returned (.int .i64 h) ∧ RdAt w' B l k1 b1 ∧ Below B w w')
    (H2 : ∀ B w, RdAt w B l k1 b1 → Calls Tryz.prog 30 #[.pointer (some ⟨B, 0, none⟩), .int .u8 58] w fun e w' => e = .returned (.tuple #[]) ∧ RdAt w' B l k2 b2 ∧ Below B w w')
    (H3 : ∀ B w, RdAt w B l k2 b2 → Calls Tryz.prog 31 #[.pointer (some ⟨B, 0, none⟩)] w fun e w' => e = .returned (.int .i64 m) ∧ RdAt w' B l k3 b3 ∧ Below B w w')
    (H4 : ∀ B w, RdAt w B l k3 b3 → Calls Tryz.prog 30 #[.pointer (some ⟨B, 0, none⟩), .int .u8 58] w fun e w' => e = .returned (.tuple #[]) ∧ RdAt w' B l k4 b4 ∧ Below B w w')
    (H5 : ∀ B w, RdAt w B l k4 b4 → Calls Tryz.prog 31 #[.pointer (some ⟨B, 0, none⟩)] w fun e w' => e = .returned (.int .i64 s) ∧ RdAt w' B l k5 b5 ∧ Below B w w')
    (H6 : ∀ B w, RdAt w B l k5 b5 → Calls Tryz.prog 30 #[.pointer (some ⟨B, 0, none⟩), .int .u8 44] w fun e w' => e = .returned (.tuple #[]) ∧ RdAt w' B l k6 b6 ∧ Below B w w')
    (H7 : ∀ B w, RdAt w B l k6 b6 → Calls Tryz.prog 32 #[.pointer (some ⟨B, 0, none⟩), .int .i64 3] w fun e w' => e = .returned (.int .i64 x) ∧ RdAt w' B l k7 true ∧ Below B w w') :
    Calls Tryz.prog 8 #[.int .i64 1, .string (bs l)] w fun e w' => e = .returned (.tuple #[.agg #[.int .i64 0, .int .i64 0], .int .i64 13]) ∧ Below w.heap.size w w' := by
  have HG := hideR HG
  have H1 := hideR H1
  have H2 := hideR H2
  have H3 := hideR H3
  have H4 := hideR H4
  have H5 := hideR H5
  have H6 := hideR H6
  have H7 := hideR H7
  have hsz := bs_size l
  go_enter Tryz.func8, Tryz.ntmps8
  go_wp2_with fail
  have Z0 := Two.new w (.int .i64 0) (.int .i64 0) 24
  go_at_call 28
  refine (HG.out _).mono ?_
  rintro e wg ⟨rfl, hwg⟩
  obtain rfl := hwg.symm
  have X0 := (RdAt.new (w.alloc (.cells #[.int .i64 0, .int .i64 0] 24)) l).at (B2 := w.heap.size + 1) (by simp)
  have B0 := bel2 w (.cells #[.int .i64 0, .int .i64 0] 24) (.cells #[.string (bs l), .int .i64 0, .bool false] 66)
  have Z0 := Z0.alloc (.cells #[.string (bs l), .int .i64 0, .bool false] 66)
  have hAX : w.heap.size < w.heap.size + 1 := Nat.lt_succ_self _
  obtain ⟨_, x0, x1, x2, x3, x4⟩ := id X0
  obtain ⟨_, z0, z1, z2, z3⟩ := id Z0
  go_wp2_with fail
  go_at_call 29
  refine (H1.out _ _ X0).mono ?_
  rintro e w1 ⟨rfl, X1, b1⟩
  have B1 := B0.trans (b1.mono (Nat.le_of_lt hAX))
  have Z1 := Z0.under b1 hAX
  clear B0 X0 Z0 b1 x0 x1 x2 x3 x4 z0 z1 z2 z3 H1
  generalize w.heap.size + 1 = X at *
  obtain ⟨_, x0, x1, x2, x3, x4⟩ := id X1
  obtain ⟨_, z0, z1, z2, z3⟩ := id Z1
  go_wp2_with fail
  go_at_call 30
  refine (H2.out _ _ X1).mono ?_
  rintro e w2 ⟨rfl, X2, b2⟩
  have B2 := B1.trans (b2.mono (Nat.le_of_lt hAX))
  have Z2 := Z1.under b2 hAX
  clear B1 X1 Z1 b2 x0 x1 x2 x3 x4 z0 z1 z2 z3 H2
  obtain ⟨_, x0, x1, x2, x3, x4⟩ := id X2
  obtain ⟨_, z0, z1, z2, z3⟩ := id Z2
  go_wp2_with fail
  go_at_call 31
  refine (H3.out _ _ X2).mono ?_
  rintro e w3 ⟨rfl, X3, b3⟩
  have B3 := B2.trans (b3.mono (Nat.le_of_lt hAX))
  have Z3 := Z2.under b3 hAX
  clear B2 X2 Z2 b3 x0 x1 x2 x3 x4 z0 z1 z2 z3 H3
  obtain ⟨_, x0, x1, x2, x3, x4⟩ := id X3
  obtain ⟨_, z0, z1, z2, z3⟩ := id Z3
  go_wp2_with fail
  go_at_call 30
  refine (H4.out _ _ X3).mono ?_
  rintro e w4 ⟨rfl, X4, b4⟩
  have B4 := B3.trans (b4.mono (Nat.le_of_lt hAX))
  have Z4 := Z3.under b4 hAX
  clear B3 X3 Z3 b4 x0 x1 x2 x3 x4 z0 z1 z2 z3 H4
  obtain ⟨_, x0, x1, x2, x3, x4⟩ := id X4
  obtain ⟨_, z0, z1, z2, z3⟩ := id Z4
  go_wp2_with fail
  go_at_call 31
  refine (H5.out _ _ X4).mono ?_
  rintro e w5 ⟨rfl, X5, b5⟩
  have B5 := B4.trans (b5.mono (Nat.le_of_lt hAX))
  have Z5 := Z4.under b5 hAX
  clear B4 X4 Z4 b5 x0 x1 x2 x3 x4 z0 z1 z2 z3 H5
  obtain ⟨_, x0, x1, x2, x3, x4⟩ := id X5
  obtain ⟨_, z0, z1, z2, z3⟩ := id Z5
  go_wp2_with fail
  go_at_call 30
  refine (H6.out _ _ X5).mono ?_
  rintro e w6 ⟨rfl, X6, b6⟩
  have B6 := B5.trans (b6.mono (Nat.le_of_lt hAX))
  have Z6 := Z5.under b6 hAX
  clear B5 X5 Z5 b6 x0 x1 x2 x3 x4 z0 z1 z2 z3 H6
  obtain ⟨_, x0, x1, x2, x3, x4⟩ := id X6
  obtain ⟨_, z0, z1, z2, z3⟩ := id Z6
  go_wp2_with fail
  go_at_call 32
  refine (H7.out _ _ X6).mono ?_
  rintro e w7 ⟨rfl, X7, b7⟩
  have B7 := B6.trans (b7.mono (Nat.le_of_lt hAX))
  have Z7 := Z6.under b7 hAX
  clear B6 X6 Z6 b7 x0 x1 x2 x3 x4 z0 z1 z2 z3 H7
  obtain ⟨_, x0, x1, x2, x3, x4⟩ := id X7
  obtain ⟨_, z0, z1, z2, z3⟩ := id Z7
  go_wp2_with fail
  exact bodyPost_ret (v := .tuple #[.agg #[.int .i64 0, .int .i64 0], .int .i64 13]) (by simp [results, Tryz.results8, go_sem, z0, z1]) rfl ⟨rfl, (B7.setCell (p := ⟨w.heap.size, 0, none⟩) (Nat.le_refl _) _).setCell (p := ⟨w.heap.size, 1, none⟩) (Nat.le_refl _) _⟩
set_option maxRecDepth 100000 in
set_option maxHeartbeats 2000000 in
theorem rpclock_1y (h m s x : Int) (l : List UInt8) (k1 k2 k3 k4 k5 k6 k7 : Nat) (b1 b2 b3 b4 b5 b6 : Bool) (hk : ((k7 : Int) != (l.length : Int)) = true) (w : World)
    (HG : ∀ w, Calls Tryz.prog 28 #[.int .i64 1] w fun e w' => e = .returned (.int .i64 1000) ∧ w' = w)
    (H1 : ∀ B w, RdAt w B l 0 false → Calls Tryz.prog 29 #[.pointer (some ⟨B, 0, none⟩), .int .i64 2] w fun e w' => e = .returned (.int .i64 h) ∧ RdAt w' B l k1 b1 ∧ Below B w w')
    (H2 : ∀ B w, RdAt w B l k1 b1 → Calls Tryz.prog 30 #[.pointer (some ⟨B, 0, none⟩), .int .u8 58] w fun e w' => e = .returned (.tuple #[]) ∧ RdAt w' B l k2 b2 ∧ Below B w w')
    (H3 : ∀ B w, RdAt w B l k2 b2 → Calls Tryz.prog 31 #[.pointer (some ⟨B, 0, none⟩)] w fun e w' => e = .returned (.int .i64 m) ∧ RdAt w' B l k3 b3 ∧ Below B w w')
    (H4 : ∀ B w, RdAt w B l k3 b3 → Calls Tryz.prog 30 #[.pointer (some ⟨B, 0, none⟩), .int .u8 58] w fun e w' => e = .returned (.tuple #[]) ∧ RdAt w' B l k4 b4 ∧ Below B w w')
    (H5 : ∀ B w, RdAt w B l k4 b4 → Calls Tryz.prog 31 #[.pointer (some ⟨B, 0, none⟩)] w fun e w' => e = .returned (.int .i64 s) ∧ RdAt w' B l k5 b5 ∧ Below B w w')
    (H6 : ∀ B w, RdAt w B l k5 b5 → Calls Tryz.prog 30 #[.pointer (some ⟨B, 0, none⟩), .int .u8 44] w fun e w' => e = .returned (.tuple #[]) ∧ RdAt w' B l k6 b6 ∧ Below B w w')
    (H7 : ∀ B w, RdAt w B l k6 b6 → Calls Tryz.prog 32 #[.pointer (some ⟨B, 0, none⟩), .int .i64 3] w fun e w' => e = .returned (.int .i64 x) ∧ RdAt w' B l k7 false ∧ Below B w w') :
    Calls Tryz.prog 8 #[.int .i64 1, .string (bs l)] w fun e w' => e = .returned (.tuple #[.agg #[.int .i64 0, .int .i64 0], .int .i64 13]) ∧ Below w.heap.size w w' := by
  have HG := hideR HG
  have H1 := hideR H1
  have H2 := hideR H2
  have H3 := hideR H3
  have H4 := hideR H4
  have H5 := hideR H5
  have H6 := hideR H6
  have H7 := hideR H7
  have hsz := bs_size l
  go_enter Tryz.func8, Tryz.ntmps8
  go_wp2_with fail
  have Z0 := Two.new w (.int .i64 0) (.int .i64 0) 24
  go_at_call 28
  refine (HG.out _).mono ?_
  rintro e wg ⟨rfl, hwg⟩
  obtain rfl := hwg.symm
  have X0 := (RdAt.new (w.alloc (.cells #[.int .i64 0, .int .i64 0] 24)) l).at (B2 := w.heap.size + 1) (by simp)
  have B0 := bel2 w (.cells #[.int .i64 0, .int .i64 0] 24) (.cells #[.string (bs l), .int .i64 0, .bool false] 66)
  have Z0 := Z0.alloc (.cells #[.string (bs l), .int .i64 0, .bool false] 66)
  have hAX : w.heap.size < w.heap.size + 1 := Nat.lt_succ_self _
  obtain ⟨_, x0, x1, x2, x3, x4⟩ := id X0
  obtain ⟨_, z0, z1, z2, z3⟩ := id Z0
  go_wp2_with fail
  go_at_call 29
  refine (H1.out _ _ X0).mono ?_
  rintro e w1 ⟨rfl, X1, b1⟩
  have B1 := B0.trans (b1.mono (Nat.le_of_lt hAX))
  have Z1 := Z0.under b1 hAX
  clear B0 X0 Z0 b1 x0 x1 x2 x3 x4 z0 z1 z2 z3 H1
  generalize w.heap.size + 1 = X at *
  obtain ⟨_, x0, x1, x2, x3, x4⟩ := id X1
  obtain ⟨_, z0, z1, z2, z3⟩ := id Z1
  go_wp2_with fail
  go_at_call 30
  refine (H2.out _ _ X1).mono ?_
  rintro e w2 ⟨rfl, X2, b2⟩
  have B2 := B1.trans (b2.mono (Nat.le_of_lt hAX))
  have Z2 := Z1.under b2 hAX
  clear B1 X1 Z1 b2 x0 x1 x2 x3 x4 z0 z1 z2 z3 H2
  obtain ⟨_, x0, x1, x2, x3, x4⟩ := id X2
  obtain ⟨_, z0, z1, z2, z3⟩ := id Z2
  go_wp2_with fail
  go_at_call 31
  refine (H3.out _ _ X2).mono ?_
  rintro e w3 ⟨rfl, X3, b3⟩
  have B3 := B2.trans (b3.mono (Nat.le_of_lt hAX))
  have Z3 := Z2.under b3 hAX
  clear B2 X2 Z2 b3 x0 x1 x2 x3 x4 z0 z1 z2 z3 H3
  obtain ⟨_, x0, x1, x2, x3, x4⟩ := id X3
  obtain ⟨_, z0, z1, z2, z3⟩ := id Z3
  go_wp2_with fail
  go_at_call 30
  refine (H4.out _ _ X3).mono ?_
  rintro e w4 ⟨rfl, X4, b4⟩
  have B4 := B3.trans (b4.mono (Nat.le_of_lt hAX))
  have Z4 := Z3.under b4 hAX
  clear B3 X3 Z3 b4 x0 x1 x2 x3 x4 z0 z1 z2 z3 H4
  obtain ⟨_, x0, x1, x2, x3, x4⟩ := id X4
  obtain ⟨_, z0, z1, z2, z3⟩ := id Z4
  go_wp2_with fail
  go_at_call 31
  refine (H5.out _ _ X4).mono ?_
  rintro e w5 ⟨rfl, X5, b5⟩
  have B5 := B4.trans (b5.mono (Nat.le_of_lt hAX))
  have Z5 := Z4.under b5 hAX
  clear B4 X4 Z4 b5 x0 x1 x2 x3 x4 z0 z1 z2 z3 H5
  obtain ⟨_, x0, x1, x2, x3, x4⟩ := id X5
  obtain ⟨_, z0, z1, z2, z3⟩ := id Z5
  go_wp2_with fail
  go_at_call 30
  refine (H6.out _ _ X5).mono ?_
  rintro e w6 ⟨rfl, X6, b6⟩
  have B6 := B5.trans (b6.mono (Nat.le_of_lt hAX))
  have Z6 := Z5.under b6 hAX
  clear B5 X5 Z5 b6 x0 x1 x2 x3 x4 z0 z1 z2 z3 H6
  obtain ⟨_, x0, x1, x2, x3, x4⟩ := id X6
  obtain ⟨_, z0, z1, z2, z3⟩ := id Z6
  go_wp2_with fail
  go_at_call 32
  refine (H7.out _ _ X6).mono ?_
  rintro e w7 ⟨rfl, X7, b7⟩
  have B7 := B6.trans (b7.mono (Nat.le_of_lt hAX))
  have Z7 := Z6.under b7 hAX
  clear B6 X6 Z6 b7 x0 x1 x2 x3 x4 z0 z1 z2 z3 H7
  obtain ⟨_, x0, x1, x2, x3, x4⟩ := id X7
  obtain ⟨_, z0, z1, z2, z3⟩ := id Z7
  go_wp2_with fail
  exact bodyPost_ret (v := .tuple #[.agg #[.int .i64 0, .int .i64 0], .int .i64 13]) (by simp [results, Tryz.results8, go_sem, z0, z1]) rfl ⟨rfl, (B7.setCell (p := ⟨w.heap.size, 0, none⟩) (Nat.le_refl _) _).setCell (p := ⟨w.heap.size, 1, none⟩) (Nat.le_refl _) _⟩
set_option maxRecDepth 100000 in
set_option maxHeartbeats 2000000 in
theorem rpclock_1t (h m s x : Int) (l : List UInt8) (k1 k2 k3 k4 k5 k6 : Nat) (b1 b2 b3 b4 b5 b6 : Bool) (P V : Int) (hh : 0 ≤ h ∧ h ≤ 1000) (hm : 0 ≤ m ∧ m ≤ 1000) (hs : 0 ≤ s ∧ s ≤ 1000) (hx : 0 ≤ x ∧ x ≤ 1000) (hP : 3600 * h + 60 * m + s = P) (hP0 : 0 ≤ P ∧ P ≤ 4000000) (hV : P * 1000 + x = V) (ht : 360000000 < V) (w : World)
    (HG : ∀ w, Calls Tryz.prog 28 #[.int .i64 1] w fun e w' => e = .returned (.int .i64 1000) ∧ w' = w)
    (H1 : ∀ B w, RdAt w B l 0 false → Calls Tryz.prog 29 #[.pointer (some ⟨B, 0, none⟩), .int .i64 2] w fun e w' => e = .returned (.int .i64 h) ∧ RdAt w' B l k1 b1 ∧ Below B w w')
    (H2 : ∀ B w, RdAt w B l k1 b1 → Calls Tryz.prog 30 #[.pointer (some ⟨B, 0, none⟩), .int .u8 58] w fun e w' => e = .returned (.tuple #[]) ∧ RdAt w' B l k2 b2 ∧ Below B w w')
    (H3 : ∀ B w, RdAt w B l k2 b2 → Calls Tryz.prog 31 #[.pointer (some ⟨B, 0, none⟩)] w fun e w' => e = .returned (.int .i64 m) ∧ RdAt w' B l k3 b3 ∧ Below B w w')
    (H4 : ∀ B w, RdAt w B l k3 b3 → Calls Tryz.prog 30 #[.pointer (some ⟨B, 0, none⟩), .int .u8 58] w fun e w' => e = .returned (.tuple #[]) ∧ RdAt w' B l k4 b4 ∧ Below B w w')
    (H5 : ∀ B w, RdAt w B l k4 b4 → Calls Tryz.prog 31 #[.pointer (some ⟨B, 0, none⟩)] w fun e w' => e = .returned (.int .i64 s) ∧ RdAt w' B l k5 b5 ∧ Below B w w')
    (H6 : ∀ B w, RdAt w B l k5 b5 → Calls Tryz.prog 30 #[.pointer (some ⟨B, 0, none⟩), .int .u8 44] w fun e w' => e = .returned (.tuple #[]) ∧ RdAt w' B l k6 b6 ∧ Below B w w')
    (H7 : ∀ B w, RdAt w B l k6 b6 → Calls Tryz.prog 32 #[.pointer (some ⟨B, 0, none⟩), .int .i64 3] w fun e w' => e = .returned (.int .i64 x) ∧ RdAt w' B l l.length false ∧ Below B w w') :
    Calls Tryz.prog 8 #[.int .i64 1, .string (bs l)] w fun e w' => e = .returned (.tuple #[.agg #[.int .i64 0, .int .i64 0], .int .i64 31]) ∧ Below w.heap.size w w' := by
  have HG := hideR HG
  have H1 := hideR H1
  have H2 := hideR H2
  have H3 := hideR H3
  have H4 := hideR H4
  have H5 := hideR H5
  have H6 := hideR H6
  have H7 := hideR H7
  have hsz := bs_size l
  have HAR := hideR (And.intro hh (And.intro hm (And.intro hs (And.intro hx (And.intro hP (And.intro hP0 (And.intro hV (ht))))))))
  clear ht hV hP0 hP hx hs hm hh
  go_enter Tryz.func8, Tryz.ntmps8
  go_wp2_with fail
  have Z0 := Two.new w (.int .i64 0) (.int .i64 0) 24
  go_at_call 28
  refine (HG.out _).mono ?_
  rintro e wg ⟨rfl, hwg⟩
  obtain rfl := hwg.symm
  have X0 := (RdAt.new (w.alloc (.cells #[.int .i64 0, .int .i64 0] 24)) l).at (B2 := w.heap.size + 1) (by simp)
  have B0 := bel2 w (.cells #[.int .i64 0, .int .i64 0] 24) (.cells #[.string (bs l), .int .i64 0, .bool false] 66)
  have Z0 := Z0.alloc (.cells #[.string (bs l), .int .i64 0, .bool false] 66)
  have hAX : w.heap.size < w.heap.size + 1 := Nat.lt_succ_self _
  obtain ⟨_, x0, x1, x2, x3, x4⟩ := id X0
  obtain ⟨_, z0, z1, z2, z3⟩ := id Z0
  go_wp2_with fail
  go_at_call 29
  refine (H1.out _ _ X0).mono ?_
  rintro e w1 ⟨rfl, X1, b1⟩
  have B1 := B0.trans (b1.mono (Nat.le_of_lt hAX))
  have Z1 := Z0.under b1 hAX
  clear B0 X0 Z0 b1 x0 x1 x2 x3 x4 z0 z1 z2 z3 H1
  generalize w.heap.size + 1 = X at *
  obtain ⟨_, x0, x1, x2, x3, x4⟩ := id X1
  obtain ⟨_, z0, z1, z2, z3⟩ := id Z1
  go_wp2_with fail
  go_at_call 30
  refine (H2.out _ _ X1).mono ?_
  rintro e w2 ⟨rfl, X2, b2⟩
  have B2 := B1.trans (b2.mono (Nat.le_of_lt hAX))
  have Z2 := Z1.under b2 hAX
  clear B1 X1 Z1 b2 x0 x1 x2 x3 x4 z0 z1 z2 z3 H2
  obtain ⟨_, x0, x1, x2, x3, x4⟩ := id X2
  obtain ⟨_, z0, z1, z2, z3⟩ := id Z2
  go_wp2_with fail
  go_at_call 31
  refine (H3.out _ _ X2).mono ?_
  rintro e w3 ⟨rfl, X3, b3⟩
  have B3 := B2.trans (b3.mono (Nat.le_of_lt hAX))
  have Z3 := Z2.under b3 hAX
  clear B2 X2 Z2 b3 x0 x1 x2 x3 x4 z0 z1 z2 z3 H3
  obtain ⟨_, x0, x1, x2, x3, x4⟩ := id X3
  obtain ⟨_, z0, z1, z2, z3⟩ := id Z3
  go_wp2_with fail
  go_at_call 30
  refine (H4.out _ _ X3).mono ?_
  rintro e w4 ⟨rfl, X4, b4⟩
  have B4 := B3.trans (b4.mono (Nat.le_of_lt hAX))
  have Z4 := Z3.under b4 hAX
  clear B3 X3 Z3 b4 x0 x1 x2 x3 x4 z0 z1 z2 z3 H4
  obtain ⟨_, x0, x1, x2, x3, x4⟩ := id X4
  obtain ⟨_, z0, z1, z2, z3⟩ := id Z4
  go_wp2_with fail
  go_at_call 31
  refine (H5.out _ _ X4).mono ?_
  rintro e w5 ⟨rfl, X5, b5⟩
  have B5 := B4.trans (b5.mono (Nat.le_of_lt hAX))
  have Z5 := Z4.under b5 hAX
  clear B4 X4 Z4 b5 x0 x1 x2 x3 x4 z0 z1 z2 z3 H5
  obtain ⟨_, x0, x1, x2, x3, x4⟩ := id X5
  obtain ⟨_, z0, z1, z2, z3⟩ := id Z5
  go_wp2_with fail
  go_at_call 30
  refine (H6.out _ _ X5).mono ?_
  rintro e w6 ⟨rfl, X6, b6⟩
  have B6 := B5.trans (b6.mono (Nat.le_of_lt hAX))
  have Z6 := Z5.under b6 hAX
  clear B5 X5 Z5 b6 x0 x1 x2 x3 x4 z0 z1 z2 z3 H6
  obtain ⟨_, x0, x1, x2, x3, x4⟩ := id X6
  obtain ⟨_, z0, z1, z2, z3⟩ := id Z6
  go_wp2_with fail
  go_at_call 32
  refine (H7.out _ _ X6).mono ?_
  rintro e w7 ⟨rfl, X7, b7⟩
  have B7 := B6.trans (b7.mono (Nat.le_of_lt hAX))
  have Z7 := Z6.under b7 hAX
  clear B6 X6 Z6 b7 x0 x1 x2 x3 x4 z0 z1 z2 z3 H7
  obtain ⟨_, x0, x1, x2, x3, x4⟩ := id X7
  obtain ⟨_, z0, z1, z2, z3⟩ := id Z7
  obtain ⟨hh, hm, hs, hx, hP, hP0, hV, ht⟩ := HAR.out
  go_wp2_with fail
  exact bodyPost_ret (v := .tuple #[.agg #[.int .i64 0, .int .i64 0], .int .i64 31]) (by simp [results, Tryz.results8, go_sem, z0, z1]) rfl ⟨rfl, (B7.setCell (p := ⟨w.heap.size, 0, none⟩) (Nat.le_refl _) _).setCell (p := ⟨w.heap.size, 1, none⟩) (Nat.le_refl _) _⟩
set_option maxRecDepth 100000 in
set_option maxHeartbeats 2000000 in
theorem rpclock_1k (h m s x : Int) (l : List UInt8) (k1 k2 k3 k4 k5 k6 : Nat) (b1 b2 b3 b4 b5 b6 : Bool) (P V : Int) (hh : 0 ≤ h ∧ h ≤ 1000) (hm : 0 ≤ m ∧ m ≤ 1000) (hs : 0 ≤ s ∧ s ≤ 1000) (hx : 0 ≤ x ∧ x ≤ 1000) (hP : 3600 * h + 60 * m + s = P) (hP0 : 0 ≤ P ∧ P ≤ 4000000) (hV : P * 1000 + x = V) (ht : V ≤ 360000000) (a b : Int) (w : World)
    (HG : ∀ w, Calls Tryz.prog 28 #[.int .i64 1] w fun e w' => e = .returned (.int .i64 1000) ∧ w' = w)
    (H1 : ∀ B w, RdAt w B l 0 false → Calls Tryz.prog 29 #[.pointer (some ⟨B, 0, none⟩), .int .i64 2] w fun e w' => e = .returned (.int .i64 h) ∧ RdAt w' B l k1 b1 ∧ Below B w w')
    (H2 : ∀ B w, RdAt w B l k1 b1 → Calls Tryz.prog 30 #[.pointer (some ⟨B, 0, none⟩), .int .u8 58] w fun e w' => e = .returned (.tuple #[]) ∧ RdAt w' B l k2 b2 ∧ Below B w w')
    (H3 : ∀ B w, RdAt w B l k2 b2 → Calls Tryz.prog 31 #[.pointer (some ⟨B, 0, none⟩)] w fun e w' => e = .returned (.int .i64 m) ∧ RdAt w' B l k3 b3 ∧ Below B w w')
    (H4 : ∀ B w, RdAt w B l k3 b3 → Calls Tryz.prog 30 #[.pointer (some ⟨B, 0, none⟩), .int .u8 58] w fun e w' => e = .returned (.tuple #[]) ∧ RdAt w' B l k4 b4 ∧ Below B w w')
    (H5 : ∀ B w, RdAt w B l k4 b4 → Calls Tryz.prog 31 #[.pointer (some ⟨B, 0, none⟩)] w fun e w' => e = .returned (.int .i64 s) ∧ RdAt w' B l k5 b5 ∧ Below B w w')
    (H6 : ∀ B w, RdAt w B l k5 b5 → Calls Tryz.prog 30 #[.pointer (some ⟨B, 0, none⟩), .int .u8 44] w fun e w' => e = .returned (.tuple #[]) ∧ RdAt w' B l k6 b6 ∧ Below B w w')
    (H7 : ∀ B w, RdAt w B l k6 b6 → Calls Tryz.prog 32 #[.pointer (some ⟨B, 0, none⟩), .int .i64 3] w fun e w' => e = .returned (.int .i64 x) ∧ RdAt w' B l l.length false ∧ Below B w w')
    (HL : ∀ w, Calls Tryz.prog 33 #[.int .i64 V, .int .i64 1000] w fun e w' => e = .returned (.agg #[.int .i64 a, .int .i64 b]) ∧ Below w.heap.size w w') :
    Calls Tryz.prog 8 #[.int .i64 1, .string (bs l)] w fun e w' => e = .returned (.tuple #[.agg #[.int .i64 a, .int .i64 b], .int .i64 0]) ∧ Below w.heap.size w w' := by
  have HG := hideR HG
  have H1 := hideR H1
  have H2 := hideR H2
  have H3 := hideR H3
  have H4 := hideR H4
  have H5 := hideR H5
  have H6 := hideR H6
  have H7 := hideR H7
  have HL := hideR HL
  have hsz := bs_size l
  have HAR := hideR (And.intro hh (And.intro hm (And.intro hs (And.intro hx (And.intro hP (And.intro hP0 (And.intro hV (ht))))))))
  clear ht hV hP0 hP hx hs hm hh
  go_enter Tryz.func8, Tryz.ntmps8
  go_wp2_with fail
  have Z0 := Two.new w (.int .i64 0) (.int .i64 0) 24
  go_at_call 28
  refine (HG.out _).mono ?_
  rintro e wg ⟨rfl, hwg⟩
  obtain rfl := hwg.symm
  have X0 := (RdAt.new (w.alloc (.cells #[.int .i64 0, .int .i64 0] 24)) l).at (B2 := w.heap.size + 1) (by simp)
  have B0 := bel2 w (.cells #[.int .i64 0, .int .i64 0] 24) (.cells #[.string (bs l), .int .i64 0, .bool false] 66)
  have Z0 := Z0.alloc (.cells #[.string (bs l), .int .i64 0, .bool false] 66)
  have hAX : w.heap.size < w.heap.size + 1 := Nat.lt_succ_self _
  obtain ⟨_, x0, x1, x2, x3, x4⟩ := id X0
  obtain ⟨_, z0, z1, z2, z3⟩ := id Z0
  go_wp2_with fail
  go_at_call 29
  refine (H1.out _ _ X0).mono ?_
  rintro e w1 ⟨rfl, X1, b1⟩
  have B1 := B0.trans (b1.mono (Nat.le_of_lt hAX))
  have Z1 := Z0.under b1 hAX
  clear B0 X0 Z0 b1 x0 x1 x2 x3 x4 z0 z1 z2 z3 H1
  generalize w.heap.size + 1 = X at *
  obtain ⟨_, x0, x1, x2, x3, x4⟩ := id X1
  obtain ⟨_, z0, z1, z2, z3⟩ := id Z1
  go_wp2_with fail
  go_at_call 30
  refine (H2.out _ _ X1).mono ?_
  rintro e w2 ⟨rfl, X2, b2⟩
  have B2 := B1.trans (b2.mono (Nat.le_of_lt hAX))
  have Z2 := Z1.under b2 hAX
  clear B1 X1 Z1 b2 x0 x1 x2 x3 x4 z0 z1 z2 z3 H2
  obtain ⟨_, x0, x1, x2, x3, x4⟩ := id X2
  obtain ⟨_, z0, z1, z2, z3⟩ := id Z2
  go_wp2_with fail
  go_at_call 31
  refine (H3.out _ _ X2).mono ?_
  rintro e w3 ⟨rfl, X3, b3⟩
  have B3 := B2.trans (b3.mono (Nat.le_of_lt hAX))
  have Z3 := Z2.under b3 hAX
  clear B2 X2 Z2 b3 x0 x1 x2 x3 x4 z0 z1 z2 z3 H3
  obtain ⟨_, x0, x1, x2, x3, x4⟩ := id X3
  obtain ⟨_, z0, z1, z2, z3⟩ := id Z3
  go_wp2_with fail
  go_at_call 30
  refine (H4.out _ _ X3).mono ?_
  rintro e w4 ⟨rfl, X4, b4⟩
  have B4 := B3.trans (b4.mono (Nat.le_of_lt hAX))
  have Z4 := Z3.under b4 hAX
  clear B3 X3 Z3 b4 x0 x1 x2 x3 x4 z0 z1 z2 z3 H4
  obtain ⟨_, x0, x1, x2, x3, x4⟩ := id X4
  obtain ⟨_, z0, z1, z2, z3⟩ := id Z4
  go_wp2_with fail
  go_at_call 31
  refine (H5.out _ _ X4).mono ?_
  rintro e w5 ⟨rfl, X5, b5⟩
  have B5 := B4.trans (b5.mono (Nat.le_of_lt hAX))
  have Z5 := Z4.under b5 hAX
  clear B4 X4 Z4 b5 x0 x1 x2 x3 x4 z0 z1 z2 z3 H5
  obtain ⟨_, x0, x1, x2, x3, x4⟩ := id X5
  obtain ⟨_, z0, z1, z2, z3⟩ := id Z5
  go_wp2_with fail
  go_at_call 30
  refine (H6.out _ _ X5).mono ?_
  rintro e w6 ⟨rfl, X6, b6⟩
  have B6 := B5.trans (b6.mono (Nat.le_of_lt hAX))
  have Z6 := Z5.under b6 hAX
  clear B5 X5 Z5 b6 x0 x1 x2 x3 x4 z0 z1 z2 z3 H6
  obtain ⟨_, x0, x1, x2, x3, x4⟩ := id X6
  obtain ⟨_, z0, z1, z2, z3⟩ := id Z6
  go_wp2_with fail
  go_at_call 32
  refine (H7.out _ _ X6).mono ?_
  rintro e w7 ⟨rfl, X7, b7⟩
  have B7 := B6.trans (b7.mono (Nat.le_of_lt hAX))
  have Z7 := Z6.under b7 hAX
  clear B6 X6 Z6 b7 x0 x1 x2 x3 x4 z0 z1 z2 z3 H7
  obtain ⟨_, x0, x1, x2, x3, x4⟩ := id X7
  obtain ⟨_, z0, z1, z2, z3⟩ := id Z7
  obtain ⟨hh, hm, hs, hx, hP, hP0, hV, ht⟩ := HAR.out
  go_wp2_with fail
  go_at_call 33
  refine (HL.out _).mono ?_
  rintro e w8 ⟨rfl, b8⟩
  have B8 := bup B7 b8
  have Z8 := Z7.keep b8
  clear z0 z1 z2 z3
  obtain ⟨_, z0, z1, z2, z3⟩ := id Z8
  go_wp2_with fail
  exact bodyPost_ret (v := .tuple #[.agg #[.int .i64 a, .int .i64 b], .int .i64 0]) (by simp [results, Tryz.results8, go_sem, z0, z1]) rfl ⟨rfl, (B8.setCell (p := ⟨w.heap.size, 0, none⟩) (Nat.le_refl _) _).setCell (p := ⟨w.heap.size, 1, none⟩) (Nat.le_refl _) _⟩
set_option maxRecDepth 100000 in
set_option maxHeartbeats 2000000 in
theorem rpclock_2x (h m s x : Int) (l : List UInt8) (k1 k2 k3 k4 k5 k6 k7 : Nat) (b1 b2 b3 b4 b5 b6 : Bool) (h9 : ((l.length : Int) != 9) = true) (_hlb : l.length ≤ 9223372036854775807) (w : World)
    (HG : ∀ w, Calls Tryz.prog 28 #[.int .i64 2] w fun e w' => e = .returned (.int .i64 1000) ∧ w' = w)
    (H1 : ∀ B w, RdAt w B l 0 false → Calls Tryz.prog 29 #[.pointer (some ⟨B, 0, none⟩), .int .i64 2] w fun e w' => e = .returned (.int .i64 h) ∧ RdAt w' B l k1 b1 ∧ Below B w w')
    (H2 : ∀ B w, RdAt w B l k1 b1 → Calls Tryz.prog 30 #[.pointer (some ⟨B, 0, none⟩), .int .u8 58] w fun e w' => e = .returned (.tuple #[]) ∧ RdAt w' B l k2 b2 ∧ Below B w w')
    (H3 : ∀ B w, RdAt w B l k2 b2 → Calls Tryz.prog 31 #[.pointer (some ⟨B, 0, none⟩)] w fun e w' => e = .returned (.int .i64 m) ∧ RdAt w' B l k3 b3 ∧ Below B w w')
    (H4 : ∀ B w, RdAt w B l k3 b3 → Calls Tryz.prog 30 #[.pointer (some ⟨B, 0, none⟩), .int .u8 58] w fun e w' => e = .returned (.tuple #[]) ∧ RdAt w' B l k4 b4 ∧ Below B w w')
    (H5 : ∀ B w, RdAt w B l k4 b4 → Calls Tryz.prog 31 #[.pointer (some ⟨B, 0, none⟩)] w fun e w' => e = .returned (.int .i64 s) ∧ RdAt w' B l k5 b5 ∧ Below B w w')
    (H6 : ∀ B w, RdAt w B l k5 b5 → Calls Tryz.prog 30 #[.pointer (some ⟨B, 0, none⟩), .int .u8 46] w fun e w' => e = .returned (.tuple #[]) ∧ RdAt w' B l k6 b6 ∧ Below B w w')
    (H7 : ∀ B w, RdAt w B l k6 b6 → Calls Tryz.prog 32 #[.pointer (some ⟨B, 0, none⟩), .int .i64 3] w fun e w' => e = .returned (.int .i64 x) ∧ RdAt w' B l k7 true ∧ Below B w w') :
    Calls Tryz.prog 8 #[.int .i64 2, .string (bs l)] w fun e w' => e = .returned (.tuple #[.agg #[.int .i64 0, .int .i64 0], .int .i64 13]) ∧ Below w.heap.size w w' := by
  have HG := hideR HG
  have H1 := hideR H1
  have H2 := hideR H2
  have H3 := hideR H3
  have H4 := hideR H4
  have H5 := hideR H5
  have H6 := hideR H6
  have H7 := hideR H7
  have hsz := bs_size l
  go_enter Tryz.func8, Tryz.ntmps8
  go_wp2_with fail
  have Z0 := Two.new w (.int .i64 0) (.int .i64 0) 24
  go_at_call 28
  refine (HG.out _).mono ?_
  rintro e wg ⟨rfl, hwg⟩
  obtain rfl := hwg.symm
  have X0 := (RdAt.new (w.alloc (.cells #[.int .i64 0, .int .i64 0] 24)) l).at (B2 := w.heap.size + 1) (by simp)
  have B0 := bel2 w (.cells #[.int .i64 0, .int .i64 0] 24) (.cells #[.string (bs l), .int .i64 0, .bool false] 66)
  have Z0 := Z0.alloc (.cells #[.string (bs l), .int .i64 0, .bool false] 66)
  have hAX : w.heap.size < w.heap.size + 1 := Nat.lt_succ_self _
  obtain ⟨_, x0, x1, x2, x3, x4⟩ := id X0
  obtain ⟨_, z0, z1, z2, z3⟩ := id Z0
  go_wp2_with fail
  go_at_call 29
  refine (H1.out _ _ X0).mono ?_
  rintro e w1 ⟨rfl, X1, b1⟩
  have B1 := B0.trans (b1.mono (Nat.le_of_lt hAX))
  have Z1 := Z0.under b1 hAX
  clear B0 X0 Z0 b1 x0 x1 x2 x3 x4 z0 z1 z2 z3 H1
  generalize w.heap.size + 1 = X at *
  obtain ⟨_, x0, x1, x2, x3, x4⟩ := id X1
  obtain ⟨_, z0, z1, z2, z3⟩ := id Z1
  go_wp2_with fail
  go_at_call 30
  refine (H2.out _ _ X1).mono ?_
  rintro e w2 ⟨rfl, X2, b2⟩
  have B2 := B1.trans (b2.mono (Nat.le_of_lt hAX))
  have Z2 := Z1.under b2 hAX
  clear B1 X1 Z1 b2 x0 x1 x2 x3 x4 z0 z1 z2 z3 H2
  obtain ⟨_, x0, x1, x2, x3, x4⟩ := id X2
  obtain ⟨_, z0, z1, z2, z3⟩ := id Z2
  go_wp2_with fail
  go_at_call 31
  refine (H3.out _ _ X2).mono ?_
  rintro e w3 ⟨rfl, X3, b3⟩
  have B3 := B2.trans (b3.mono (Nat.le_of_lt hAX))
  have Z3 := Z2.under b3 hAX
  clear B2 X2 Z2 b3 x0 x1 x2 x3 x4 z0 z1 z2 z3 H3
  obtain ⟨_, x0, x1, x2, x3, x4⟩ := id X3
  obtain ⟨_, z0, z1, z2, z3⟩ := id Z3
  go_wp2_with fail
  go_at_call 30
  refine (H4.out _ _ X3).mono ?_
  rintro e w4 ⟨rfl, X4, b4⟩
  have B4 := B3.trans (b4.mono (Nat.le_of_lt hAX))
  have Z4 := Z3.under b4 hAX
  clear B3 X3 Z3 b4 x0 x1 x2 x3 x4 z0 z1 z2 z3 H4
  obtain ⟨_, x0, x1, x2, x3, x4⟩ := id X4
  obtain ⟨_, z0, z1, z2, z3⟩ := id Z4
  go_wp2_with fail
  go_at_call 31
  refine (H5.out _ _ X4).mono ?_
  rintro e w5 ⟨rfl, X5, b5⟩
  have B5 := B4.trans (b5.mono (Nat.le_of_lt hAX))
  have Z5 := Z4.under b5 hAX
  clear B4 X4 Z4 b5 x0 x1 x2 x3 x4 z0 z1 z2 z3 H5
  obtain ⟨_, x0, x1, x2, x3, x4⟩ := id X5
  obtain ⟨_, z0, z1, z2, z3⟩ := id Z5
  go_wp2_with fail
  go_at_call 30
  refine (H6.out _ _ X5).mono ?_
  rintro e w6 ⟨rfl, X6, b6⟩
  have B6 := B5.trans (b6.mono (Nat.le_of_lt hAX))
  have Z6 := Z5.under b6 hAX
  clear B5 X5 Z5 b6 x0 x1 x2 x3 x4 z0 z1 z2 z3 H6
  obtain ⟨_, x0, x1, x2, x3, x4⟩ := id X6
  obtain ⟨_, z0, z1, z2, z3⟩ := id Z6
  go_wp2_with fail
  go_at_call 32
  refine (H7.out _ _ X6).mono ?_
  rintro e w7 ⟨rfl, X7, b7⟩
  have B7 := B6.trans (b7.mono (Nat.le_of_lt hAX))
  have Z7 := Z6.under b7 hAX
  clear B6 X6 Z6 b7 x0 x1 x2 x3 x4 z0 z1 z2 z3 H7
  obtain ⟨_, x0, x1, x2, x3, x4⟩ := id X7
  obtain ⟨_, z0, z1, z2, z3⟩ := id Z7
  go_wp2_with fail
  exact bodyPost_ret (v := .tuple #[.agg #[.int .i64 0, .int .i64 0], .int .i64 13]) (by simp [results, Tryz.results8, go_sem, z0, z1]) rfl ⟨rfl, (B7.setCell (p := ⟨w.heap.size, 0, none⟩) (Nat.le_refl _) _).setCell (p := ⟨w.heap.size, 1, none⟩) (Nat.le_refl _) _⟩
set_option maxRecDepth 100000 in
set_option maxHeartbeats 2000000 in
theorem rpclock_2y (h m s x : Int) (l : List UInt8) (k1 k2 k3 k4 k5 k6 k7 : Nat) (b1 b2 b3 b4 b5 b6 : Bool) (hk : ((k7 : Int) != (l.length : Int)) = true) (h9 : ((l.length : Int) != 9) = true) (_hlb : l.length ≤ 9223372036854775807) (w : World)
    (HG : ∀ w, Calls Tryz.prog 28 #[.int .i64 2] w fun e w' => e = .returned (.int .i64 1000) ∧ w' = w)
    (H1 : ∀ B w, RdAt w B l 0 false → Calls Tryz.prog 29 #[.pointer (some ⟨B, 0, none⟩), .int .i64 2] w fun e w' => e = .returned (.int .i64 h) ∧ RdAt w' B l k1 b1 ∧ Below B w w')
    (H2 : ∀ B w, RdAt w B l k1 b1 → Calls Tryz.prog 30 #[.pointer (some ⟨B, 0, none⟩), .int .u8 58] w fun e w' => e = .returned (.tuple #[]) ∧ RdAt w' B l k2 b2 ∧ Below B w w')
    (H3 : ∀ B w, RdAt w B l k2 b2 → Calls Tryz.prog 31 #[.pointer (some ⟨B, 0, none⟩)] w fun e w' => e = .returned (.int .i64 m) ∧ RdAt w' B l k3 b3 ∧ Below B w w')
    (H4 : ∀ B w, RdAt w B l k3 b3 → Calls Tryz.prog 30 #[.pointer (some ⟨B, 0, none⟩), .int .u8 58] w fun e w' => e = .returned (.tuple #[]) ∧ RdAt w' B l k4 b4 ∧ Below B w w')
    (H5 : ∀ B w, RdAt w B l k4 b4 → Calls Tryz.prog 31 #[.pointer (some ⟨B, 0, none⟩)] w fun e w' => e = .returned (.int .i64 s) ∧ RdAt w' B l k5 b5 ∧ Below B w w')
    (H6 : ∀ B w, RdAt w B l k5 b5 → Calls Tryz.prog 30 #[.pointer (some ⟨B, 0, none⟩), .int .u8 46] w fun e w' => e = .returned (.tuple #[]) ∧ RdAt w' B l k6 b6 ∧ Below B w w')
    (H7 : ∀ B w, RdAt w B l k6 b6 → Calls Tryz.prog 32 #[.pointer (some ⟨B, 0, none⟩), .int .i64 3] w fun e w' => e = .returned (.int .i64 x) ∧ RdAt w' B l k7 false ∧ Below B w w') :
    Calls Tryz.prog 8 #[.int .i64 2, .string (bs l)] w fun e w' => e = .returned (.tuple #[.agg #[.int .i64 0, .int .i64 0], .int .i64 13]) ∧ Below w.heap.size w w' := by
  have HG := hideR HG
  have H1 := hideR H1
  have H2 := hideR H2
  have H3 := hideR H3
  have H4 := hideR H4
  have H5 := hideR H5
  have H6 := hideR H6
  have H7 := hideR H7
  have hsz := bs_size l
  go_enter Tryz.func8, Tryz.ntmps8
  go_wp2_with fail
  have Z0 := Two.new w (.int .i64 0) (.int .i64 0) 24
  go_at_call 28
  refine (HG.out _).mono ?_
  rintro e wg ⟨rfl, hwg⟩
  obtain rfl := hwg.symm
  have X0 := (RdAt.new (w.alloc (.cells #[.int .i64 0, .int .i64 0] 24)) l).at (B2 := w.heap.size + 1) (by simp)
  have B0 := bel2 w (.cells #[.int .i64 0, .int .i64 0] 24) (.cells #[.string (bs l), .int .i64 0, .bool false] 66)
  have Z0 := Z0.alloc (.cells #[.string (bs l), .int .i64 0, .bool false] 66)
  have hAX : w.heap.size < w.heap.size + 1 := Nat.lt_succ_self _
  obtain ⟨_, x0, x1, x2, x3, x4⟩ := id X0
  obtain ⟨_, z0, z1, z2, z3⟩ := id Z0
  go_wp2_with fail
  go_at_call 29
  refine (H1.out _ _ X0).mono ?_
  rintro e w1 ⟨rfl, X1, b1⟩
  have B1 := B0.trans (b1.mono (Nat.le_of_lt hAX))
  have Z1 := Z0.under b1 hAX
  clear B0 X0 Z0 b1 x0 x1 x2 x3 x4 z0 z1 z2 z3 H1
  generalize w.heap.size + 1 = X at *
  obtain ⟨_, x0, x1, x2, x3, x4⟩ := id X1
  obtain ⟨_, z0, z1, z2, z3⟩ := id Z1
  go_wp2_with fail
  go_at_call 30
  refine (H2.out _ _ X1).mono ?_
  rintro e w2 ⟨rfl, X2, b2⟩
  have B2 := B1.trans (b2.mono (Nat.le_of_lt hAX))
  have Z2 := Z1.under b2 hAX
  clear B1 X1 Z1 b2 x0 x1 x2 x3 x4 z0 z1 z2 z3 H2
  obtain ⟨_, x0, x1, x2, x3, x4⟩ := id X2
  obtain ⟨_, z0, z1, z2, z3⟩ := id Z2
  go_wp2_with fail
  go_at_call 31
  refine (H3.out _ _ X2).mono ?_
  rintro e w3 ⟨rfl, X3, b3⟩
  have B3 := B2.trans (b3.mono (Nat.le_of_lt hAX))
  have Z3 := Z2.under b3 hAX
  clear B2 X2 Z2 b3 x0 x1 x2 x3 x4 z0 z1 z2 z3 H3
  obtain ⟨_, x0, x1, x2, x3, x4⟩ := id X3
  obtain ⟨_, z0, z1, z2, z3⟩ := id Z3
  go_wp2_with fail
  go_at_call 30
  refine (H4.out _ _ X3).mono ?_
  rintro e w4 ⟨rfl, X4, b4⟩
  have B4 := B3.trans (b4.mono (Nat.le_of_lt hAX))
  have Z4 := Z3.under b4 hAX
  clear B3 X3 Z3 b4 x0 x1 x2 x3 x4 z0 z1 z2 z3 H4
  obtain ⟨_, x0, x1, x2, x3, x4⟩ := id X4
  obtain ⟨_, z0, z1, z2, z3⟩ := id Z4
  go_wp2_with fail
  go_at_call 31
  refine (H5.out _ _ X4).mono ?_
  rintro e w5 ⟨rfl, X5, b5⟩
  have B5 := B4.trans (b5.mono (Nat.le_of_lt hAX))
  have Z5 := Z4.under b5 hAX
  clear B4 X4 Z4 b5 x0 x1 x2 x3 x4 z0 z1 z2 z3 H5
  obtain ⟨_, x0, x1, x2, x3, x4⟩ := id X5
  obtain ⟨_, z0, z1, z2, z3⟩ := id Z5
  go_wp2_with fail
  go_at_call 30
  refine (H6.out _ _ X5).mono ?_
  rintro e w6 ⟨rfl, X6, b6⟩
  have B6 := B5.trans (b6.mono (Nat.le_of_lt hAX))
  have Z6 := Z5.under b6 hAX
  clear B5 X5 Z5 b6 x0 x1 x2 x3 x4 z0 z1 z2 z3 H6
  obtain ⟨_, x0, x1, x2, x3, x4⟩ := id X6
  obtain ⟨_, z0, z1, z2, z3⟩ := id Z6
  go_wp2_with fail
  go_at_call 32
  refine (H7.out _ _ X6).mono ?_
  rintro e w7 ⟨rfl, X7, b7⟩
  have B7 := B6.trans (b7.mono (Nat.le_of_lt hAX))
  have Z7 := Z6.under b7 hAX
  clear B6 X6 Z6 b7 x0 x1 x2 x3 x4 z0 z1 z2 z3 H7
  obtain ⟨_, x0, x1, x2, x3, x4⟩ := id X7
  obtain ⟨_, z0, z1, z2, z3⟩ := id Z7
  go_wp2_with fail
  exact bodyPost_ret (v := .tuple #[.agg #[.int .i64 0, .int .i64 0], .int .i64 13]) (by simp [results, Tryz.results8, go_sem, z0, z1]) rfl ⟨rfl, (B7.setCell (p := ⟨w.heap.size, 0, none⟩) (Nat.le_refl _) _).setCell (p := ⟨w.heap.size, 1, none⟩) (Nat.le_refl _) _⟩
set_option maxRecDepth 100000 in
set_option maxHeartbeats 2000000 in
theorem rpclock_2t (h m s x : Int) (l : List UInt8) (k1 k2 k3 k4 k5 k6 : Nat) (b1 b2 b3 b4 b5 b6 : Bool) (P V : Int) (hh : 0 ≤ h ∧ h ≤ 1000) (hm : 0 ≤ m ∧ m ≤ 1000) (hs : 0 ≤ s ∧ s ≤ 1000) (hx : 0 ≤ x ∧ x ≤ 1000) (hP : 3600 * h + 60 * m + s = P) (hP0 : 0 ≤ P ∧ P ≤ 4000000) (hV : P * 1000 + x = V) (ht : 360000000 < V) (h9 : ((l.length : Int) != 9) = true) (_hlb : l.length ≤ 9223372036854775807) (w : World)
    (HG : ∀ w, Calls Tryz.prog 28 #[.int .i64 2] w fun e w' => e = .returned (.int .i64 1000) ∧ w' = w)
    (H1 : ∀ B w, RdAt w B l 0 false → Calls Tryz.prog 29 #[.pointer (some ⟨B, 0, none⟩), .int .i64 2] w fun e w' => e = .returned (.int .i64 h) ∧ RdAt w' B l k1 b1 ∧ Below B w w')
    (H2 : ∀ B w, RdAt w B l k1 b1 → Calls Tryz.prog 30 #[.pointer (some ⟨B, 0, none⟩), .int .u8 58] w fun e w' => e = .returned (.tuple #[]) ∧ RdAt w' B l k2 b2 ∧ Below B w w')
    (H3 : ∀ B w, RdAt w B l k2 b2 → Calls Tryz.prog 31 #[.pointer (some ⟨B, 0, none⟩)] w fun e w' => e = .returned (.int .i64 m) ∧ RdAt w' B l k3 b3 ∧ Below B w w')
    (H4 : ∀ B w, RdAt w B l k3 b3 → Calls Tryz.prog 30 #[.pointer (some ⟨B, 0, none⟩), .int .u8 58] w fun e w' => e = .returned (.tuple #[]) ∧ RdAt w' B l k4 b4 ∧ Below B w w')
    (H5 : ∀ B w, RdAt w B l k4 b4 → Calls Tryz.prog 31 #[.pointer (some ⟨B, 0, none⟩)] w fun e w' => e = .returned (.int .i64 s) ∧ RdAt w' B l k5 b5 ∧ Below B w w')
    (H6 : ∀ B w, RdAt w B l k5 b5 → Calls Tryz.prog 30 #[.pointer (some ⟨B, 0, none⟩), .int .u8 46] w fun e w' => e = .returned (.tuple #[]) ∧ RdAt w' B l k6 b6 ∧ Below B w w')
    (H7 : ∀ B w, RdAt w B l k6 b6 → Calls Tryz.prog 32 #[.pointer (some ⟨B, 0, none⟩), .int .i64 3] w fun e w' => e = .returned (.int .i64 x) ∧ RdAt w' B l l.length false ∧ Below B w w') :
    Calls Tryz.prog 8 #[.int .i64 2, .string (bs l)] w fun e w' => e = .returned (.tuple #[.agg #[.int .i64 0, .int .i64 0], .int .i64 31]) ∧ Below w.heap.size w w' := by
  have HG := hideR HG
  have H1 := hideR H1
  have H2 := hideR H2
  have H3 := hideR H3
  have H4 := hideR H4
  have H5 := hideR H5
  have H6 := hideR H6
  have H7 := hideR H7
  have hsz := bs_size l
  have HAR := hideR (And.intro hh (And.intro hm (And.intro hs (And.intro hx (And.intro hP (And.intro hP0 (And.intro hV (ht))))))))
  clear ht hV hP0 hP hx hs hm hh
  go_enter Tryz.func8, Tryz.ntmps8
  go_wp2_with fail
  have Z0 := Two.new w (.int .i64 0) (.int .i64 0) 24
  go_at_call 28
  refine (HG.out _).mono ?_
  rintro e wg ⟨rfl, hwg⟩
  obtain rfl := hwg.symm
  have X0 := (RdAt.new (w.alloc (.cells #[.int .i64 0, .int .i64 0] 24)) l).at (B2 := w.heap.size + 1) (by simp)
  have B0 := bel2 w (.cells #[.int .i64 0, .int .i64 0] 24) (.cells #[.string (bs l), .int .i64 0, .bool false] 66)
  have Z0 := Z0.alloc (.cells #[.string (bs l), .int .i64 0, .bool false] 66)
  have hAX : w.heap.size < w.heap.size + 1 := Nat.lt_succ_self _
  obtain ⟨_, x0, x1, x2, x3, x4⟩ := id X0
  obtain ⟨_, z0, z1, z2, z3⟩ := id Z0
  go_wp2_with fail
  go_at_call 29
  refine (H1.out _ _ X0).mono ?_
  rintro e w1 ⟨rfl, X1, b1⟩
  have B1 := B0.trans (b1.mono (Nat.le_of_lt hAX))
  have Z1 := Z0.under b1 hAX
  clear B0 X0 Z0 b1 x0 x1 x2 x3 x4 z0 z1 z2 z3 H1
  generalize w.heap.size + 1 = X at *
  obtain ⟨_, x0, x1, x2, x3, x4⟩ := id X1
  obtain ⟨_, z0, z1, z2, z3⟩ := id Z1
  go_wp2_with fail
  go_at_call 30
  refine (H2.out _ _ X1).mono ?_
  rintro e w2 ⟨rfl, X2, b2⟩
  have B2 := B1.trans (b2.mono (Nat.le_of_lt hAX))
  have Z2 := Z1.under b2 hAX
  clear B1 X1 Z1 b2 x0 x1 x2 x3 x4 z0 z1 z2 z3 H2
  obtain ⟨_, x0, x1, x2, x3, x4⟩ := id X2
  obtain ⟨_, z0, z1, z2, z3⟩ := id Z2
  go_wp2_with fail
  go_at_call 31
  refine (H3.out _ _ X2).mono ?_
  rintro e w3 ⟨rfl, X3, b3⟩
  have B3 := B2.trans (b3.mono (Nat.le_of_lt hAX))
  have Z3 := Z2.under b3 hAX
  clear B2 X2 Z2 b3 x0 x1 x2 x3 x4 z0 z1 z2 z3 H3
  obtain ⟨_, x0, x1, x2, x3, x4⟩ := id X3
  obtain ⟨_, z0, z1, z2, z3⟩ := id Z3
  go_wp2_with fail
  go_at_call 30
  refine (H4.out _ _ X3).mono ?_
  rintro e w4 ⟨rfl, X4, b4⟩
  have B4 := B3.trans (b4.mono (Nat.le_of_lt hAX))
  have Z4 := Z3.under b4 hAX
  clear B3 X3 Z3 b4 x0 x1 x2 x3 x4 z0 z1 z2 z3 H4
  obtain ⟨_, x0, x1, x2, x3, x4⟩ := id X4
  obtain ⟨_, z0, z1, z2, z3⟩ := id Z4
  go_wp2_with fail
  go_at_call 31
  refine (H5.out _ _ X4).mono ?_
  rintro e w5 ⟨rfl, X5, b5⟩
  have B5 := B4.trans (b5.mono (Nat.le_of_lt hAX))
  have Z5 := Z4.under b5 hAX
  clear B4 X4 Z4 b5 x0 x1 x2 x3 x4 z0 z1 z2 z3 H5
  obtain ⟨_, x0, x1, x2, x3, x4⟩ := id X5
  obtain ⟨_, z0, z1, z2, z3⟩ := id Z5
  go_wp2_with fail
  go_at_call 30
  refine (H6.out _ _ X5).mono ?_
  rintro e w6 ⟨rfl, X6, b6⟩
  have B6 := B5.trans (b6.mono (Nat.le_of_lt hAX))
  have Z6 := Z5.under b6 hAX
  clear B5 X5 Z5 b6 x0 x1 x2 x3 x4 z0 z1 z2 z3 H6
  obtain ⟨_, x0, x1, x2, x3, x4⟩ := id X6
  obtain ⟨_, z0, z1, z2, z3⟩ := id Z6
  go_wp2_with fail
  go_at_call 32
  refine (H7.out _ _ X6).mono ?_
  rintro e w7 ⟨rfl, X7, b7⟩
  have B7 := B6.trans (b7.mono (Nat.le_of_lt hAX))
  have Z7 := Z6.under b7 hAX
  clear B6 X6 Z6 b7 x0 x1 x2 x3 x4 z0 z1 z2 z3 H7
  obtain ⟨_, x0, x1, x2, x3, x4⟩ := id X7
  obtain ⟨_, z0, z1, z2, z3⟩ := id Z7
  obtain ⟨hh, hm, hs, hx, hP, hP0, hV, ht⟩ := HAR.out
  go_wp2_with fail
  exact bodyPost_ret (v := .tuple #[.agg #[.int .i64 0, .int .i64 0], .int .i64 31]) (by simp [results, Tryz.results8, go_sem, z0, z1]) rfl ⟨rfl, (B7.setCell (p := ⟨w.heap.size, 0, none⟩) (Nat.le_refl _) _).setCell (p := ⟨w.heap.size, 1, none⟩) (Nat.le_refl _) _⟩
set_option maxRecDepth 100000 in
set_option maxHeartbeats 2000000 in
theorem rpclock_2k (h m s x : Int) (l : List UInt8) (k1 k2 k3 k4 k5 k6 : Nat) (b1 b2 b3 b4 b5 b6 : Bool) (P V : Int) (hh : 0 ≤ h ∧ h ≤ 1000) (hm : 0 ≤ m ∧ m ≤ 1000) (hs : 0 ≤ s ∧ s ≤ 1000) (hx : 0 ≤ x ∧ x ≤ 1000) (hP : 3600 * h + 60 * m + s = P) (hP0 : 0 ≤ P ∧ P ≤ 4000000) (hV : P * 1000 + x = V) (ht : V ≤ 360000000) (a b : Int) (h9 : ((l.length : Int) != 9) = true) (_hlb : l.length ≤ 9223372036854775807) (w : World)
    (HG : ∀ w, Calls Tryz.prog 28 #[.int .i64 2] w fun e w' => e = .returned (.int .i64 1000) ∧ w' = w)
    (H1 : ∀ B w, RdAt w B l 0 false → Calls Tryz.prog 29 #[.pointer (some ⟨B, 0, none⟩), .int .i64 2] w fun e w' => e = .returned (.int .i64 h) ∧ RdAt w' B l k1 b1 ∧ Below B w w')
    (H2 : ∀ B w, RdAt w B l k1 b1 → Calls Tryz.prog 30 #[.pointer (some ⟨B, 0, none⟩), .int .u8 58] w fun e w' => e = .returned (.tuple #[]) ∧ RdAt w' B l k2 b2 ∧ Below B w w')
    (H3 : ∀ B w, RdAt w B l k2 b2 → Calls Tryz.prog 31 #[.pointer (some ⟨B, 0, none⟩)] w fun e w' => e = .returned (.int .i64 m) ∧ RdAt w' B l k3 b3 ∧ Below B w w')
    (H4 : ∀ B w, RdAt w B l k3 b3 → Calls Tryz.prog 30 #[.pointer (some ⟨B, 0, none⟩), .int .u8 58] w fun e w' => e = .returned (.tuple #[]) ∧ RdAt w' B l k4 b4 ∧ Below B w w')
    (H5 : ∀ B w, RdAt w B l k4 b4 → Calls Tryz.prog 31 #[.pointer (some ⟨B, 0, none⟩)] w fun e w' => e = .returned (.int .i64 s) ∧ RdAt w' B l k5 b5 ∧ Below B w w')
    (H6 : ∀ B w, RdAt w B l k5 b5 → Calls Tryz.prog 30 #[.pointer (some ⟨B, 0, none⟩), .int .u8 46] w fun e w' => e = .returned (.tuple #[]) ∧ RdAt w' B l k6 b6 ∧ Below B w w')
    (H7 : ∀ B w, RdAt w B l k6 b6 → Calls Tryz.prog 32 #[.pointer (some ⟨B, 0, none⟩), .int .i64 3] w fun e w' => e = .returned (.int .i64 x) ∧ RdAt w' B l l.length false ∧ Below B w w')
    (HL : ∀ w, Calls Tryz.prog 33 #[.int .i64 V, .int .i64 1000] w fun e w' => e = .returned (.agg #[.int .i64 a, .int .i64 b]) ∧ Below w.heap.size w w') :
    Calls Tryz.prog 8 #[.int .i64 2, .string (bs l)] w fun e w' => e = .returned (.tuple #[.agg #[.int .i64 a, .int .i64 b], .int .i64 0]) ∧ Below w.heap.size w w' := by
  have HG := hideR HG
  have H1 := hideR H1
  have H2 := hideR H2
  have H3 := hideR H3
  have H4 := hideR H4
  have H5 := hideR H5
  have H6 := hideR H6
  have H7 := hideR H7
  have HL := hideR HL
  have hsz := bs_size l
  have HAR := hideR (And.intro hh (And.intro hm (And.intro hs (And.intro hx (And.intro hP (And.intro hP0 (And.intro hV (ht))))))))
  clear ht hV hP0 hP hx hs hm hh
  go_enter Tryz.func8, Tryz.ntmps8
  go_wp2_with fail
  have Z0 := Two.new w (.int .i64 0) (.int .i64 0) 24
  go_at_call 28
  refine (HG.out _).mono ?_
  rintro e wg ⟨rfl, hwg⟩
  obtain rfl := hwg.symm
  have X0 := (RdAt.new (w.alloc (.cells #[.int .i64 0, .int .i64 0] 24)) l).at (B2 := w.heap.size + 1) (by simp)
  have B0 := bel2 w (.cells #[.int .i64 0, .int .i64 0] 24) (.cells #[.string (bs l), .int .i64 0, .bool false] 66)
  have Z0 := Z0.alloc (.cells #[.string (bs l), .int .i64 0, .bool false] 66)
  have hAX : w.heap.size < w.heap.size + 1 := Nat.lt_succ_self _
  obtain ⟨_, x0, x1, x2, x3, x4⟩ := id X0
  obtain ⟨_, z0, z1, z2, z3⟩ := id Z0
  go_wp2_with fail
  go_at_call 29
  refine (H1.out _ _ X0).mono ?_
  rintro e w1 ⟨rfl, X1, b1⟩
  have B1 := B0.trans (b1.mono (Nat.le_of_lt hAX))
  have Z1 := Z0.under b1 hAX
  clear B0 X0 Z0 b1 x0 x1 x2 x3 x4 z0 z1 z2 z3 H1
  generalize w.heap.size + 1 = X at *
  obtain ⟨_, x0, x1, x2, x3, x4⟩ := id X1
  obtain ⟨_, z0, z1, z2, z3⟩ := id Z1
  go_wp2_with fail
  go_at_call 30
  refine (H2.out _ _ X1).mono ?_
  rintro e w2 ⟨rfl, X2, b2⟩
  have B2 := B1.trans (b2.mono (Nat.le_of_lt hAX))
  have Z2 := Z1.under b2 hAX
  clear B1 X1 Z1 b2 x0 x1 x2 x3 x4 z0 z1 z2 z3 H2
  obtain ⟨_, x0, x1, x2, x3, x4⟩ := id X2
  obtain ⟨_, z0, z1, z2, z3⟩ := id Z2
  go_wp2_with fail
  go_at_call 31
  refine (H3.out _ _ X2).mono ?_
  rintro e w3 ⟨rfl, X3, b3⟩
  have B3 := B2.trans (b3.mono (Nat.le_of_lt hAX))
  have Z3 := Z2.under b3 hAX
  clear B2 X2 Z2 b3 x0 x1 x2 x3 x4 z0 z1 z2 z3 H3
  obtain ⟨_, x0, x1, x2, x3, x4⟩ := id X3
  obtain ⟨_, z0, z1, z2, z3⟩ := id Z3
  go_wp2_with fail
  go_at_call 30
  refine (H4.out _ _ X3).mono ?_
  rintro e w4 ⟨rfl, X4, b4⟩
  have B4 := B3.trans (b4.mono (Nat.le_of_lt hAX))
  have Z4 := Z3.under b4 hAX
  clear B3 X3 Z3 b4 x0 x1 x2 x3 x4 z0 z1 z2 z3 H4
  obtain ⟨_, x0, x1, x2, x3, x4⟩ := id X4
  obtain ⟨_, z0, z1, z2, z3⟩ := id Z4
  go_wp2_with fail
  go_at_call 31
  refine (H5.out _ _ X4).mono ?_
  rintro e w5 ⟨rfl, X5, b5⟩
  have B5 := B4.trans (b5.mono (Nat.le_of_lt hAX))
  have Z5 := Z4.under b5 hAX
  clear B4 X4 Z4 b5 x0 x1 x2 x3 x4 z0 z1 z2 z3 H5
  obtain ⟨_, x0, x1, x2, x3, x4⟩ := id X5
  obtain ⟨_, z0, z1, z2, z3⟩ := id Z5
  go_wp2_with fail
  go_at_call 30
  refine (H6.out _ _ X5).mono ?_
  rintro e w6 ⟨rfl, X6, b6⟩
  have B6 := B5.trans (b6.mono (Nat.le_of_lt hAX))
  have Z6 := Z5.under b6 hAX
  clear B5 X5 Z5 b6 x0 x1 x2 x3 x4 z0 z1 z2 z3 H6
  obtain ⟨_, x0, x1, x2, x3, x4⟩ := id X6
  obtain ⟨_, z0, z1, z2, z3⟩ := id Z6
  go_wp2_with fail
  go_at_call 32
  refine (H7.out _ _ X6).mono ?_
  rintro e w7 ⟨rfl, X7, b7⟩
  have B7 := B6.trans (b7.mono (Nat.le_of_lt hAX))
  have Z7 := Z6.under b7 hAX
  clear B6 X6 Z6 b7 x0 x1 x2 x3 x4 z0 z1 z2 z3 H7
  obtain ⟨_, x0, x1, x2, x3, x4⟩ := id X7
  obtain ⟨_, z0, z1, z2, z3⟩ := id Z7
  obtain ⟨hh, hm, hs, hx, hP, hP0, hV, ht⟩ := HAR.out
  go_wp2_with fail
  go_at_call 33
  refine (HL.out _).mono ?_
  rintro e w8 ⟨rfl, b8⟩
  have B8 := bup B7 b8
  have Z8 := Z7.keep b8
  clear z0 z1 z2 z3
  obtain ⟨_, z0, z1, z2, z3⟩ := id Z8
  go_wp2_with fail
  exact bodyPost_ret (v := .tuple #[.agg #[.int .i64 a, .int .i64 b], .int .i64 0]) (by simp [results, Tryz.results8, go_sem, z0, z1]) rfl ⟨rfl, (B8.setCell (p := ⟨w.heap.size, 0, none⟩) (Nat.le_refl _) _).setCell (p := ⟨w.heap.size, 1, none⟩) (Nat.le_refl _) _⟩
set_option maxRecDepth 100000 in
set_option maxHeartbeats 2000000 in
theorem rpclock_sx (m s x : Int) (l : List UInt8) (k3 k4 k5 k6 k7 : Nat) (b3 b4 b5 b6 : Bool) (h9 : ((l.length : Int) != 9) = false) (_hlb : l.length ≤ 9223372036854775807) (w : World)
    (HG : ∀ w, Calls Tryz.prog 28 #[.int .i64 2] w fun e w' => e = .returned (.int .i64 1000) ∧ w' = w)
    (H3 : ∀ B w, RdAt w B l 0 false → Calls Tryz.prog 31 #[.pointer (some ⟨B, 0, none⟩)] w fun e w' => e = .returned (.int .i64 m) ∧ RdAt w' B l k3 b3 ∧ Below B w w')
    (H4 : ∀ B w, RdAt w B l k3 b3 → Calls Tryz.prog 30 #[.pointer (some ⟨B, 0, none⟩), .int .u8 58] w fun e w' => e = .returned (.tuple #[]) ∧ RdAt w' B l k4 b4 ∧ Below B w w')
    (H5 : ∀ B w, RdAt w B l k4 b4 → Calls Tryz.prog 31 #[.pointer (some ⟨B, 0, none⟩)] w fun e w' => e = .returned (.int .i64 s) ∧ RdAt w' B l k5 b5 ∧ Below B w w')
    (H6 : ∀ B w, RdAt w B l k5 b5 → Calls Tryz.prog 30 #[.pointer (some ⟨B, 0, none⟩), .int .u8 46] w fun e w' => e = .returned (.tuple #[]) ∧ RdAt w' B l k6 b6 ∧ Below B w w')
    (H7 : ∀ B w, RdAt w B l k6 b6 → Calls Tryz.prog 32 #[.pointer (some ⟨B, 0, none⟩), .int .i64 3] w fun e w' => e = .returned (.int .i64 x) ∧ RdAt w' B l k7 true ∧ Below B w w') :
    Calls Tryz.prog 8 #[.int .i64 2, .string (bs l)] w fun e w' => e = .returned (.tuple #[.agg #[.int .i64 0, .int .i64 0], .int .i64 13]) ∧ Below w.heap.size w w' := by
  have HG := hideR HG
  have H3 := hideR H3
  have H4 := hideR H4
  have H5 := hideR H5
  have H6 := hideR H6
  have H7 := hideR H7
  have hsz := bs_size l
  go_enter Tryz.func8, Tryz.ntmps8
  go_wp2_with fail
  have Z0 := Two.new w (.int .i64 0) (.int .i64 0) 24
  go_at_call 28
  refine (HG.out _).mono ?_
  rintro e wg ⟨rfl, hwg⟩
  obtain rfl := hwg.symm
  have X0 := (RdAt.new (w.alloc (.cells #[.int .i64 0, .int .i64 0] 24)) l).at (B2 := w.heap.size + 1) (by simp)
  have B0 := bel2 w (.cells #[.int .i64 0, .int .i64 0] 24) (.cells #[.string (bs l), .int .i64 0, .bool false] 66)
  have Z0 := Z0.alloc (.cells #[.string (bs l), .int .i64 0, .bool false] 66)
  have hAX : w.heap.size < w.heap.size + 1 := Nat.lt_succ_self _
  obtain ⟨_, x0, x1, x2, x3, x4⟩ := id X0
  obtain ⟨_, z0, z1, z2, z3⟩ := id Z0
  go_wp2_with fail
  go_at_call 31
  refine (H3.out _ _ X0).mono ?_
  rintro e w1 ⟨rfl, X1, b1⟩
  have B1 := B0.trans (b1.mono (Nat.le_of_lt hAX))
  have Z1 := Z0.under b1 hAX
  clear B0 X0 Z0 b1 x0 x1 x2 x3 x4 z0 z1 z2 z3 H3
  generalize w.heap.size + 1 = X at *
  obtain ⟨_, x0, x1, x2, x3, x4⟩ := id X1
  obtain ⟨_, z0, z1, z2, z3⟩ := id Z1
  go_wp2_with fail
  go_at_call 30
  refine (H4.out _ _ X1).mono ?_
  rintro e w2 ⟨rfl, X2, b2⟩
  have B2 := B1.trans (b2.mono (Nat.le_of_lt hAX))
  have Z2 := Z1.under b2 hAX
  clear B1 X1 Z1 b2 x0 x1 x2 x3 x4 z0 z1 z2 z3 H4
  obtain ⟨_, x0, x1, x2, x3, x4⟩ := id X2
  obtain ⟨_, z0, z1, z2, z3⟩ := id Z2
  go_wp2_with fail
  go_at_call 31
  refine (H5.out _ _ X2).mono ?_
  rintro e w3 ⟨rfl, X3, b3⟩
  have B3 := B2.trans (b3.mono (Nat.le_of_lt hAX))
  have Z3 := Z2.under b3 hAX
  clear B2 X2 Z2 b3 x0 x1 x2 x3 x4 z0 z1 z2 z3 H5
  obtain ⟨_, x0, x1, x2, x3, x4⟩ := id X3
  obtain ⟨_, z0, z1, z2, z3⟩ := id Z3
  go_wp2_with fail
  go_at_call 30
  refine (H6.out _ _ X3).mono ?_
  rintro e w4 ⟨rfl, X4, b4⟩
  have B4 := B3.trans (b4.mono (Nat.le_of_lt hAX))
  have Z4 := Z3.under b4 hAX
  clear B3 X3 Z3 b4 x0 x1 x2 x3 x4 z0 z1 z2 z3 H6
  obtain ⟨_, x0, x1, x2, x3, x4⟩ := id X4
  obtain ⟨_, z0, z1, z2, z3⟩ := id Z4
  go_wp2_with fail
  go_at_call 32
  refine (H7.out _ _ X4).mono ?_
  rintro e w5 ⟨rfl, X5, b5⟩
  have B5 := B4.trans (b5.mono (Nat.le_of_lt hAX))
  have Z5 := Z4.under b5 hAX
  clear B4 X4 Z4 b5 x0 x1 x2 x3 x4 z0 z1 z2 z3 H7
  obtain ⟨_, x0, x1, x2, x3, x4⟩ := id X5
  obtain ⟨_, z0, z1, z2, z3⟩ := id Z5
  go_wp2_with fail
  exact bodyPost_ret (v := .tuple #[.agg #[.int .i64 0, .int .i64 0], .int .i64 13]) (by simp [results, Tryz.results8, go_sem, z0, z1]) rfl ⟨rfl, (B5.setCell (p := ⟨w.heap.size, 0, none⟩) (Nat.le_refl _) _).setCell (p := ⟨w.heap.size, 1, none⟩) (Nat.le_refl _) _⟩
set_option maxRecDepth 100000 in
set_option maxHeartbeats 2000000 in
theorem rpclock_sy (m s x : Int) (l : List UInt8) (k3 k4 k5 k6 k7 : Nat) (b3 b4 b5 b6 : Bool) (hk : ((k7 : Int) != (l.length : Int)) = true) (h9 : ((l.length : Int) != 9) = false) (_hlb : l.length ≤ 9223372036854775807) (w : World)
    (HG : ∀ w, Calls Tryz.prog 28 #[.int .i64 2] w fun e w' => e = .returned (.int .i64 1000) ∧ w' = w)
    (H3 : ∀ B w, RdAt w B l 0 false → Calls Tryz.prog 31 #[.pointer (some ⟨B, 0, none⟩)] w fun e w' => e = .returned (.int .i64 m) ∧ RdAt w' B l k3 b3 ∧ Below B w w')
    (H4 : ∀ B w, RdAt w B l k3 b3 → Calls Tryz.prog 30 #[.pointer (some ⟨B, 0, none⟩), .int .u8 58] w fun e w' => e = .returned (.tuple #[]) ∧ RdAt w' B l k4 b4 ∧ Below B w w')
    (H5 : ∀ B w, RdAt w B l k4 b4 → Calls Tryz.prog 31 #[.pointer (some ⟨B, 0, none⟩)] w fun e w' => e = .returned (.int .i64 s) ∧ RdAt w' B l k5 b5 ∧ Below B w w')
    (H6 : ∀ B w, RdAt w B l k5 b5 → Calls Tryz.prog 30 #[.pointer (some ⟨B, 0, none⟩), .int .u8 46] w fun e w' => e = .returned (.tuple #[]) ∧ RdAt w' B l k6 b6 ∧ Below B w w')
    (H7 : ∀ B w, RdAt w B l k6 b6 → Calls Tryz.prog 32 #[.pointer (some ⟨B, 0, none⟩), .int .i64 3] w fun e w' => e = .returned (.int .i64 x) ∧ RdAt w' B l k7 false ∧ Below B w w') :
    Calls Tryz.prog 8 #[.int .i64 2, .string (bs l)] w fun e w' => e = .returned (.tuple #[.agg #[.int .i64 0, .int .i64 0], .int .i64 13]) ∧ Below w.heap.size w w' := by
  have HG := hideR HG
  have H3 := hideR H3
  have H4 := hideR H4
  have H5 := hideR H5
  have H6 := hideR H6
  have H7 := hideR H7
  have hsz := bs_size l
  go_enter Tryz.func8, Tryz.ntmps8
  go_wp2_with fail
  have Z0 := Two.new w (.int .i64 0) (.int .i64 0) 24
  go_at_call 28
  refine (HG.out _).mono ?_
  rintro e wg ⟨rfl, hwg⟩
  obtain rfl := hwg.symm
  have X0 := (RdAt.new (w.alloc (.cells #[.int .i64 0, .int .i64 0] 24)) l).at (B2 := w.heap.size + 1) (by simp)
  have B0 := bel2 w (.cells #[.int .i64 0, .int .i64 0] 24) (.cells #[.string (bs l), .int .i64 0, .bool false] 66)
  have Z0 := Z0.alloc (.cells #[.string (bs l), .int .i64 0, .bool false] 66)
  have hAX : w.heap.size < w.heap.size + 1 := Nat.lt_succ_self _
  obtain ⟨_, x0, x1, x2, x3, x4⟩ := id X0
  obtain ⟨_, z0, z1, z2, z3⟩ := id Z0
  go_wp2_with fail
  go_at_call 31
  refine (H3.out _ _ X0).mono ?_
  rintro e w1 ⟨rfl, X1, b1⟩
  have B1 := B0.trans (b1.mono (Nat.le_of_lt hAX))
  have Z1 := Z0.under b1 hAX
  clear B0 X0 Z0 b1 x0 x1 x2 x3 x4 z0 z1 z2 z3 H3
  generalize w.heap.size + 1 = X at *
  obtain ⟨_, x0, x1, x2, x3, x4⟩ := id X1
  obtain ⟨_, z0, z1, z2, z3⟩ := id Z1
  go_wp2_with fail
  go_at_call 30
  refine (H4.out _ _ X1).mono ?_
  rintro e w2 ⟨rfl, X2, b2⟩
  have B2 := B1.trans (b2.mono (Nat.le_of_lt hAX))
  have Z2 := Z1.under b2 hAX
  clear B1 X1 Z1 b2 x0 x1 x2 x3 x4 z0 z1 z2 z3 H4
  obtain ⟨_, x0, x1, x2, x3, x4⟩ := id X2
  obtain ⟨_, z0, z1, z2, z3⟩ := id Z2
  go_wp2_with fail
  go_at_call 31
  refine (H5.out _ _ X2).mono ?_
  rintro e w3 ⟨rfl, X3, b3⟩
  have B3 := B2.trans (b3.mono (Nat.le_of_lt hAX))
  have Z3 := Z2.under b3 hAX
  clear B2 X2 Z2 b3 x0 x1 x2 x3 x4 z0 z1 z2 z3 H5
  obtain ⟨_, x0, x1, x2, x3, x4⟩ := id X3
  obtain ⟨_, z0, z1, z2, z3⟩ := id Z3
  go_wp2_with fail
  go_at_call 30
  refine (H6.out _ _ X3).mono ?_
  rintro e w4 ⟨rfl, X4, b4⟩
  have B4 := B3.trans (b4.mono (Nat.le_of_lt hAX))
  have Z4 := Z3.under b4 hAX
  clear B3 X3 Z3 b4 x0 x1 x2 x3 x4 z0 z1 z2 z3 H6
  obtain ⟨_, x0, x1, x2, x3, x4⟩ := id X4
  obtain ⟨_, z0, z1, z2, z3⟩ := id Z4
  go_wp2_with fail
  go_at_call 32
  refine (H7.out _ _ X4).mono ?_
  rintro e w5 ⟨rfl, X5, b5⟩
  have B5 := B4.trans (b5.mono (Nat.le_of_lt hAX))
  have Z5 := Z4.under b5 hAX
  clear B4 X4 Z4 b5 x0 x1 x2 x3 x4 z0 z1 z2 z3 H7
  obtain ⟨_, x0, x1, x2, x3, x4⟩ := id X5
  obtain ⟨_, z0, z1, z2, z3⟩ := id Z5
  go_wp2_with fail
  exact bodyPost_ret (v := .tuple #[.agg #[.int .i64 0, .int .i64 0], .int .i64 13]) (by simp [results, Tryz.results8, go_sem, z0, z1]) rfl ⟨rfl, (B5.setCell (p := ⟨w.heap.size, 0, none⟩) (Nat.le_refl _) _).setCell (p := ⟨w.heap.size, 1, none⟩) (Nat.le_refl _) _⟩
set_option maxRecDepth 100000 in
set_option maxHeartbeats 2000000 in
theorem rpclock_sk (m s x : Int) (l : List UInt8) (k3 k4 k5 k6 : Nat) (b3 b4 b5 b6 : Bool) (P V : Int) (hm : 0 ≤ m ∧ m ≤ 1000) (hs : 0 ≤ s ∧ s ≤ 1000) (hx : 0 ≤ x ∧ x ≤ 1000) (hP : 60 * m + s = P) (hP0 : 0 ≤ P ∧ P ≤ 4000000) (hV : P * 1000 + x = V) (ht : V ≤ 360000000) (a b : Int) (h9 : ((l.length : Int) != 9) = false) (_hlb : l.length ≤ 9223372036854775807) (w : World)
    (HG : ∀ w, Calls Tryz.prog 28 #[.int .i64 2] w fun e w' => e = .returned (.int .i64 1000) ∧ w' = w)
    (H3 : ∀ B w, RdAt w B l 0 false → Calls Tryz.prog 31 #[.pointer (some ⟨B, 0, none⟩)] w fun e w' => e = .returned (.int .i64 m) ∧ RdAt w' B l k3 b3 ∧ Below B w w')
    (H4 : ∀ B w, RdAt w B l k3 b3 → Calls Tryz.prog 30 #[.pointer (some ⟨B, 0, none⟩), .int .u8 58] w fun e w' => e = .returned (.tuple #[]) ∧ RdAt w' B l k4 b4 ∧ Below B w w')
    (H5 : ∀ B w, RdAt w B l k4 b4 → Calls Tryz.prog 31 #[.pointer (some ⟨B, 0, none⟩)] w fun e w' => e = .returned (.int .i64 s) ∧ RdAt w' B l k5 b5 ∧ Below B w w')
    (H6 : ∀ B w, RdAt w B l k5 b5 → Calls Tryz.prog 30 #[.pointer (some ⟨B, 0, none⟩), .int .u8 46] w fun e w' => e = .returned (.tuple #[]) ∧ RdAt w' B l k6 b6 ∧ Below B w w')
    (H7 : ∀ B w, RdAt w B l k6 b6 → Calls Tryz.prog 32 #[.pointer (some ⟨B, 0, none⟩), .int .i64 3] w fun e w' => e = .returned (.int .i64 x) ∧ RdAt w' B l l.length false ∧ Below B w w')
    (HL : ∀ w, Calls Tryz.prog 33 #[.int .i64 V, .int .i64 1000] w fun e w' => e = .returned (.agg #[.int .i64 a, .int .i64 b]) ∧ Below w.heap.size w w') :
    Calls Tryz.prog 8 #[.int .i64 2, .string (bs l)] w fun e w' => e = .returned (.tuple #[.agg #[.int .i64 a, .int .i64 b], .int .i64 0]) ∧ Below w.heap.size w w' := by
  have HG := hideR HG
  have H3 := hideR H3
  have H4 := hideR H4
  have H5 := hideR H5
  have H6 := hideR H6
  have H7 := hideR H7
  have HL := hideR HL
  have hsz := bs_size l
  have HAR := hideR (And.intro hm (And.intro hs (And.intro hx (And.intro hP (And.intro hP0 (And.intro hV (ht)))))))
  clear ht hV hP0 hP hx hs hm
  go_enter Tryz.func8, Tryz.ntmps8
  go_wp2_with fail
  have Z0 := Two.new w (.int .i64 0) (.int .i64 0) 24
  go_at_call 28
  refine (HG.out _).mono ?_
  rintro e wg ⟨rfl, hwg⟩
  obtain rfl := hwg.symm
  have X0 := (RdAt.new (w.alloc (.cells #[.int .i64 0, .int .i64 0] 24)) l).at (B2 := w.heap.size + 1) (by simp)
  have B0 := bel2 w (.cells #[.int .i64 0, .int .i64 0] 24) (.cells #[.string (bs l), .int .i64 0, .bool false] 66)
  have Z0 := Z0.alloc (.cells #[.string (bs l), .int .i64 0, .bool false] 66)
  have hAX : w.heap.size < w.heap.size + 1 := Nat.lt_succ_self _
  obtain ⟨_, x0, x1, x2, x3, x4⟩ := id X0
  obtain ⟨_, z0, z1, z2, z3⟩ := id Z0
  go_wp2_with fail
  go_at_call 31
  refine (H3.out _ _ X0).mono ?_
  rintro e w1 ⟨rfl, X1, b1⟩
  have B1 := B0.trans (b1.mono (Nat.le_of_lt hAX))
  have Z1 := Z0.under b1 hAX
  clear B0 X0 Z0 b1 x0 x1 x2 x3 x4 z0 z1 z2 z3 H3
  generalize w.heap.size + 1 = X at *
  obtain ⟨_, x0, x1, x2, x3, x4⟩ := id X1
  obtain ⟨_, z0, z1, z2, z3⟩ := id Z1
  go_wp2_with fail
  go_at_call 30
  refine (H4.out _ _ X1).mono ?_
  rintro e w2 ⟨rfl, X2, b2⟩
  have B2 := B1.trans (b2.mono (Nat.le_of_lt hAX))
  have Z2 := Z1.under b2 hAX
  clear B1 X1 Z1 b2 x0 x1 x2 x3 x4 z0 z1 z2 z3 H4
  obtain ⟨_, x0, x1, x2, x3, x4⟩ := id X2
  obtain ⟨_, z0, z1, z2, z3⟩ := id Z2
  go_wp2_with fail
  go_at_call 31
  refine (H5.out _ _ X2).mono ?_
  rintro e w3 ⟨rfl, X3, b3⟩
  have B3 := B2.trans (b3.mono (Nat.le_of_lt hAX))
  have Z3 := Z2.under b3 hAX
  clear B2 X2 Z2 b3 x0 x1 x2 x3 x4 z0 z1 z2 z3 H5
  obtain ⟨_, x0, x1, x2, x3, x4⟩ := id X3
  obtain ⟨_, z0, z1, z2, z3⟩ := id Z3
  go_wp2_with fail
  go_at_call 30
  refine (H6.out _ _ X3).mono ?_
  rintro e w4 ⟨rfl, X4, b4⟩
  have B4 := B3.trans (b4.mono (Nat.le_of_lt hAX))
  have Z4 := Z3.under b4 hAX
  clear B3 X3 Z3 b4 x0 x1 x2 x3 x4 z0 z1 z2 z3 H6
  obtain ⟨_, x0, x1, x2, x3, x4⟩ := id X4
  obtain ⟨_, z0, z1, z2, z3⟩ := id Z4
  go_wp2_with fail
  go_at_call 32
  refine (H7.out _ _ X4).mono ?_
  rintro e w5 ⟨rfl, X5, b5⟩
  have B5 := B4.trans (b5.mono (Nat.le_of_lt hAX))
  have Z5 := Z4.under b5 hAX
  clear B4 X4 Z4 b5 x0 x1 x2 x3 x4 z0 z1 z2 z3 H7
  obtain ⟨_, x0, x1, x2, x3, x4⟩ := id X5
  obtain ⟨_, z0, z1, z2, z3⟩ := id Z5
  obtain ⟨hm, hs, hx, hP, hP0, hV, ht⟩ := HAR.out
  go_wp2_with fail
  go_at_call 33
  refine (HL.out _).mono ?_
  rintro e w6 ⟨rfl, b6⟩
  have B6 := bup B5 b6
  have Z6 := Z5.keep b6
  clear z0 z1 z2 z3
  obtain ⟨_, z0, z1, z2, z3⟩ := id Z6
  go_wp2_with fail
  exact bodyPost_ret (v := .tuple #[.agg #[.int .i64 a, .int .i64 b], .int .i64 0]) (by simp [results, Tryz.results8, go_sem, z0, z1]) rfl ⟨rfl, (B6.setCell (p := ⟨w.heap.size, 0, none⟩) (Nat.le_refl _) _).setCell (p := ⟨w.heap.size, 1, none⟩) (Nat.le_refl _) _⟩
set_option maxRecDepth 100000 in
set_option maxHeartbeats 2000000 in
theorem rpclock_4x (h m s x : Int) (l : List UInt8) (k1 k2 k3 k4 k5 k6 k7 : Nat) (b1 b2 b3 b4 b5 b6 : Bool) (w : World)
    (HG : ∀ w, Calls Tryz.prog 28 #[.int .i64 4] w fun e w' => e = .returned (.int .i64 100) ∧ w' = w)
    (H1 : ∀ B w, RdAt w B l 0 false → Calls Tryz.prog 29 #[.pointer (some ⟨B, 0, none⟩), .int .i64 1] w fun e w' => e = .returned (.int .i64 h) ∧ RdAt w' B l k1 b1 ∧ Below B w w')
    (H2 : ∀ B w, RdAt w B l k1 b1 → Calls Tryz.prog 30 #[.pointer (some ⟨B, 0, none⟩), .int .u8 58] w fun e w' => e = .returned (.tuple #[]) ∧ RdAt w' B l k2 b2 ∧ Below B w w')
    (H3 : ∀ B w, RdAt w B l k2 b2 → Calls Tryz.prog 31 #[.pointer (some ⟨B, 0, none⟩)] w fun e w' => e = .returned (.int .i64 m) ∧ RdAt w' B l k3 b3 ∧ Below B w w')
    (H4 : ∀ B w, RdAt w B l k3 b3 → Calls Tryz.prog 30 #[.pointer (some ⟨B, 0, none⟩), .int .u8 58] w fun e w' => e = .returned (.tuple #[]) ∧ RdAt w' B l k4 b4 ∧ Below B w w')
    (H5 : ∀ B w, RdAt w B l k4 b4 → Calls Tryz.prog 31 #[.pointer (some ⟨B, 0, none⟩)] w fun e w' => e = .returned (.int .i64 s) ∧ RdAt w' B l k5 b5 ∧ Below B w w')
    (H6 : ∀ B w, RdAt w B l k5 b5 → Calls Tryz.prog 30 #[.pointer (some ⟨B, 0, none⟩), .int .u8 46] w fun e w' => e = .returned (.tuple #[]) ∧ RdAt w' B l k6 b6 ∧ Below B w w')
    (H7 : ∀ B w, RdAt w B l k6 b6 → Calls Tryz.prog 32 #[.pointer (some ⟨B, 0, none⟩), .int .i64 2] w fun e w' => e = .returned (.int .i64 x) ∧ RdAt w' B l k7 true ∧ Below B w w') :
    Calls Tryz.prog 8 #[.int .i64 4, .string (bs l)] w fun e w' => e = .returned (.tuple #[.agg #[.int .i64 0, .int .i64 0], .int .i64 13]) ∧ Below w.heap.size w w' := by
  have HG := hideR HG
  have H1 := hideR H1
  have H2 := hideR H2
  have H3 := hideR H3
  have H4 := hideR H4
  have H5 := hideR H5
  have H6 := hideR H6
  have H7 := hideR H7
  have hsz := bs_size l
  go_enter Tryz.func8, Tryz.ntmps8
  go_wp2_with fail
  have Z0 := Two.new w (.int .i64 0) (.int .i64 0) 24
  go_at_call 28
  refine (HG.out _).mono ?_
  rintro e wg ⟨rfl, hwg⟩
  obtain rfl := hwg.symm
  have X0 := (RdAt.new (w.alloc (.cells #[.int .i64 0, .int .i64 0] 24)) l).at (B2 := w.heap.size + 1) (by simp)
  have B0 := bel2 w (.cells #[.int .i64 0, .int .i64 0] 24) (.cells #[.string (bs l), .int .i64 0, .bool false] 66)
  have Z0 := Z0.alloc (.cells #[.string (bs l), .int .i64 0, .bool false] 66)
  have hAX : w.heap.size < w.heap.size + 1 := Nat.lt_succ_self _
  obtain ⟨_, x0, x1, x2, x3, x4⟩ := id X0
  obtain ⟨_, z0, z1, z2, z3⟩ := id Z0
  go_wp2_with fail
  go_at_call 29
  refine (H1.out _ _ X0).mono ?_
  rintro e w1 ⟨rfl, X1, b1⟩
  have B1 := B0.trans (b1.mono (Nat.le_of_lt hAX))
  have Z1 := Z0.under b1 hAX
  clear B0 X0 Z0 b1 x0 x1 x2 x3 x4 z0 z1 z2 z3 H1
  generalize w.heap.size + 1 = X at *
  obtain ⟨_, x0, x1, x2, x3, x4⟩ := id X1
  obtain ⟨_, z0, z1, z2, z3⟩ := id Z1
  go_wp2_with fail
  go_at_call 30
  refine (H2.out _ _ X1).mono ?_
  rintro e w2 ⟨rfl, X2, b2⟩
  have B2 := B1.trans (b2.mono (Nat.le_of_lt hAX))
  have Z2 := Z1.under b2 hAX
  clear B1 X1 Z1 b2 x0 x1 x2 x3 x4 z0 z1 z2 z3 H2
  obtain ⟨_, x0, x1, x2, x3, x4⟩ := id X2
  obtain ⟨_, z0, z1, z2, z3⟩ := id Z2
  go_wp2_with fail
  go_at_call 31
  refine (H3.out _ _ X2).mono ?_
  rintro e w3 ⟨rfl, X3, b3⟩
  have B3 := B2.trans (b3.mono (Nat.le_of_lt hAX))
  have Z3 := Z2.under b3 hAX
  clear B2 X2 Z2 b3 x0 x1 x2 x3 x4 z0 z1 z2 z3 H3
  obtain ⟨_, x0, x1, x2, x3, x4⟩ := id X3
  obtain ⟨_, z0, z1, z2, z3⟩ := id Z3
  go_wp2_with fail
  go_at_call 30
  refine (H4.out _ _ X3).mono ?_
  rintro e w4 ⟨rfl, X4, b4⟩
  have B4 := B3.trans (b4.mono (Nat.le_of_lt hAX))
  have Z4 := Z3.under b4 hAX
  clear B3 X3 Z3 b4 x0 x1 x2 x3 x4 z0 z1 z2 z3 H4
  obtain ⟨_, x0, x1, x2, x3, x4⟩ := id X4
  obtain ⟨_, z0, z1, z2, z3⟩ := id Z4
  go_wp2_with fail
  go_at_call 31
  refine (H5.out _ _ X4).mono ?_
  rintro e w5 ⟨rfl, X5, b5⟩
  have B5 := B4.trans (b5.mono (Nat.le_of_lt hAX))
  have Z5 := Z4.under b5 hAX
  clear B4 X4 Z4 b5 x0 x1 x2 x3 x4 z0 z1 z2 z3 H5
  obtain ⟨_, x0, x1, x2, x3, x4⟩ := id X5
  obtain ⟨_, z0, z1, z2, z3⟩ := id Z5
  go_wp2_with fail
  go_at_call 30
  refine (H6.out _ _ X5).mono ?_
  rintro e w6 ⟨rfl, X6, b6⟩
  have B6 := B5.trans (b6.mono (Nat.le_of_lt hAX))
  have Z6 := Z5.under b6 hAX
  clear B5 X5 Z5 b6 x0 x1 x2 x3 x4 z0 z1 z2 z3 H6
  obtain ⟨_, x0, x1, x2, x3, x4⟩ := id X6
  obtain ⟨_, z0, z1, z2, z3⟩ := id Z6
  go_wp2_with fail
  go_at_call 32
  refine (H7.out _ _ X6).mono ?_
  rintro e w7 ⟨rfl, X7, b7⟩
  have B7 := B6.trans (b7.mono (Nat.le_of_lt hAX))
  have Z7 := Z6.under b7 hAX
  clear B6 X6 Z6 b7 x0 x1 x2 x3 x4 z0 z1 z2 z3 H7
  obtain ⟨_, x0, x1, x2, x3, x4⟩ := id X7
  obtain ⟨_, z0, z1, z2, z3⟩ := id Z7
  go_wp2_with fail
  exact bodyPost_ret (v := .tuple #[.agg #[.int .i64 0, .int .i64 0], .int .i64 13]) (by simp [results, Tryz.results8, go_sem, z0, z1]) rfl ⟨rfl, (B7.setCell (p := ⟨w.heap.size, 0, none⟩) (Nat.le_refl _) _).setCell (p := ⟨w.heap.size, 1, none⟩) (Nat.le_refl _) _⟩
set_option maxRecDepth 100000 in
set_option maxHeartbeats 2000000 in
theorem rpclock_4y (h m s x : Int) (l : List UInt8) (k1 k2 k3 k4 k5 k6 k7 : Nat) (b1 b2 b3 b4 b5 b6 : Bool) (hk : ((k7 : Int) != (l.length : Int)) = true) (w : World)
    (HG : ∀ w, Calls Tryz.prog 28 #[.int .i64 4] w fun e w' => e = .returned (.int .i64 100) ∧ w' = w)
    (H1 : ∀ B w, RdAt w B l 0 false → Calls Tryz.prog 29 #[.pointer (some ⟨B, 0, none⟩), .int .i64 1] w fun e w' => e = .returned (.int .i64 h) ∧ RdAt w' B l k1 b1 ∧ Below B w w')
    (H2 : ∀ B w, RdAt w B l k1 b1 → Calls Tryz.prog 30 #[.pointer (some ⟨B, 0, none⟩), .int .u8 58] w fun e w' => e = .returned (.tuple #[]) ∧ RdAt w' B l k2 b2 ∧ Below B w w')
    (H3 : ∀ B w, RdAt w B l k2 b2 → Calls Tryz.prog 31 #[.pointer (some ⟨B, 0, none⟩)] w fun e w' => e = .returned (.int .i64 m) ∧ RdAt w' B l k3 b3 ∧ Below B w w')
    (H4 : ∀ B w, RdAt w B l k3 b3 → Calls Tryz.prog 30 #[.pointer (some ⟨B, 0, none⟩), .int .u8 58] w fun e w' => e = .returned (.tuple #[]) ∧ RdAt w' B l k4 b4 ∧ Below B w w')
    (H5 : ∀ B w, RdAt w B l k4 b4 → Calls Tryz.prog 31 #[.pointer (some ⟨B, 0, none⟩)] w fun e w' => e = .returned (.int .i64 s) ∧ RdAt w' B l k5 b5 ∧ Below B w w')
    (H6 : ∀ B w, RdAt w B l k5 b5 → Calls Tryz.prog 30 #[.pointer (some ⟨B, 0, none⟩), .int .u8 46] w fun e w' => e = .returned (.tuple #[]) ∧ RdAt w' B l k6 b6 ∧ Below B w w')
    (H7 : ∀ B w, RdAt w B l k6 b6 → Calls Tryz.prog 32 #[.pointer (some ⟨B, 0, none⟩), .int .i64 2] w fun e w' => e = .returned (.int .i64 x) ∧ RdAt w' B l k7 false ∧ Below B w w') :
    Calls Tryz.prog 8 #[.int .i64 4, .string (bs l)] w fun e w' => e = .returned (.tuple #[.agg #[.int .i64 0, .int .i64 0], .int .i64 13]) ∧ Below w.heap.size w w' := by
  have HG := hideR HG
  have H1 := hideR H1
  have H2 := hideR H2
  have H3 := hideR H3
  have H4 := hideR H4
  have H5 := hideR H5
  have H6 := hideR H6
  have H7 := hideR H7
  have hsz := bs_size l
  go_enter Tryz.func8, Tryz.ntmps8
  go_wp2_with fail
  have Z0 := Two.new w (.int .i64 0) (.int .i64 0) 24
  go_at_call 28
  refine (HG.out _).mono ?_
  rintro e wg ⟨rfl, hwg⟩
  obtain rfl := hwg.symm
  have X0 := (RdAt.new (w.alloc (.cells #[.int .i64 0, .int .i64 0] 24)) l).at (B2 := w.heap.size + 1) (by simp)
  have B0 := bel2 w (.cells #[.int .i64 0, .int .i64 0] 24) (.cells #[.string (bs l), .int .i64 0, .bool false] 66)
  have Z0 := Z0.alloc (.cells #[.string (bs l), .int .i64 0, .bool false] 66)
  have hAX : w.heap.size < w.heap.size + 1 := Nat.lt_succ_self _
  obtain ⟨_, x0, x1, x2, x3, x4⟩ := id X0
  obtain ⟨_, z0, z1, z2, z3⟩ := id Z0
  go_wp2_with fail
  go_at_call 29
  refine (H1.out _ _ X0).mono ?_
  rintro e w1 ⟨rfl, X1, b1⟩
  have B1 := B0.trans (b1.mono (Nat.le_of_lt hAX))
  have Z1 := Z0.under b1 hAX
  clear B0 X0 Z0 b1 x0 x1 x2 x3 x4 z0 z1 z2 z3 H1
  generalize w.heap.size + 1 = X at *
  obtain ⟨_, x0, x1, x2, x3, x4⟩ := id X1
  obtain ⟨_, z0, z1, z2, z3⟩ := id Z1
  go_wp2_with fail
  go_at_call 30
  refine (H2.out _ _ X1).mono ?_
  rintro e w2 ⟨rfl, X2, b2⟩
  have B2 := B1.trans (b2.mono (Nat.le_of_lt hAX))
  have Z2 := Z1.under b2 hAX
  clear B1 X1 Z1 b2 x0 x1 x2 x3 x4 z0 z1 z2 z3 H2
  obtain ⟨_, x0, x1, x2, x3, x4⟩ := id X2
  obtain ⟨_, z0, z1, z2, z3⟩ := id Z2
  go_wp2_with fail
  go_at_call 31
  refine (H3.out _ _ X2).mono ?_
  rintro e w3 ⟨rfl, X3, b3⟩
  have B3 := B2.trans (b3.mono (Nat.le_of_lt hAX))
  have Z3 := Z2.under b3 hAX
  clear B2 X2 Z2 b3 x0 x1 x2 x3 x4 z0 z1 z2 z3 H3
  obtain ⟨_, x0, x1, x2, x3, x4⟩ := id X3
  obtain ⟨_, z0, z1, z2, z3⟩ := id Z3
  go_wp2_with fail
  go_at_call 30
  refine (H4.out _ _ X3).mono ?_
  rintro e w4 ⟨rfl, X4, b4⟩
  have B4 := B3.trans (b4.mono (Nat.le_of_lt hAX))
  have Z4 := Z3.under b4 hAX
  clear B3 X3 Z3 b4 x0 x1 x2 x3 x4 z0 z1 z2 z3 H4
  obtain ⟨_, x0, x1, x2, x3, x4⟩ := id X4
  obtain ⟨_, z0, z1, z2, z3⟩ := id Z4
  go_wp2_with fail
  go_at_call 31
  refine (H5.out _ _ X4).mono ?_
  rintro e w5 ⟨rfl, X5, b5⟩
  have B5 := B4.trans (b5.mono (Nat.le_of_lt hAX))
  have Z5 := Z4.under b5 hAX
  clear B4 X4 Z4 b5 x0 x1 x2 x3 x4 z0 z1 z2 z3 H5
  obtain ⟨_, x0, x1, x2, x3, x4⟩ := id X5
  obtain ⟨_, z0, z1, z2, z3⟩ := id Z5
  go_wp2_with fail
  go_at_call 30
  refine (H6.out _ _ X5).mono ?_
  rintro e w6 ⟨rfl, X6, b6⟩
  have B6 := B5.trans (b6.mono (Nat.le_of_lt hAX))
  have Z6 := Z5.under b6 hAX
  clear B5 X5 Z5 b6 x0 x1 x2 x3 x4 z0 z1 z2 z3 H6
  obtain ⟨_, x0, x1, x2, x3, x4⟩ := id X6
  obtain ⟨_, z0, z1, z2, z3⟩ := id Z6
  go_wp2_with fail
  go_at_call 32
  refine (H7.out _ _ X6).mono ?_
  rintro e w7 ⟨rfl, X7, b7⟩
  have B7 := B6.trans (b7.mono (Nat.le_of_lt hAX))
  have Z7 := Z6.under b7 hAX
  clear B6 X6 Z6 b7 x0 x1 x2 x3 x4 z0 z1 z2 z3 H7
  obtain ⟨_, x0, x1, x2, x3, x4⟩ := id X7
  obtain ⟨_, z0, z1, z2, z3⟩ := id Z7
  go_wp2_with fail
  exact bodyPost_ret (v := .tuple #[.agg #[.int .i64 0, .int .i64 0], .int .i64 13]) (by simp [results, Tryz.results8, go_sem, z0, z1]) rfl ⟨rfl, (B7.setCell (p := ⟨w.heap.size, 0, none⟩) (Nat.le_refl _) _).setCell (p := ⟨w.heap.size, 1, none⟩) (Nat.le_refl _) _⟩
set_option maxRecDepth 100000 in
set_option maxHeartbeats 2000000 in
theorem rpclock_4t (h m s x : Int) (l : List UInt8) (k1 k2 k3 k4 k5 k6 : Nat) (b1 b2 b3 b4 b5 b6 : Bool) (P V : Int) (hh : 0 ≤ h ∧ h ≤ 1000) (hm : 0 ≤ m ∧ m ≤ 1000) (hs : 0 ≤ s ∧ s ≤ 1000) (hx : 0 ≤ x ∧ x ≤ 1000) (hP : 3600 * h + 60 * m + s = P) (hP0 : 0 ≤ P ∧ P ≤ 4000000) (hV : P * 100 + x = V) (ht : 36000000 < V) (w : World)
    (HG : ∀ w, Calls Tryz.prog 28 #[.int .i64 4] w fun e w' => e = .returned (.int .i64 100) ∧ w' = w)
    (H1 : ∀ B w, RdAt w B l 0 false → Calls Tryz.prog 29 #[.pointer (some ⟨B, 0, none⟩), .int .i64 1] w fun e w' => e = .returned (.int .i64 h) ∧ RdAt w' B l k1 b1 ∧ Below B w w')
    (H2 : ∀ B w, RdAt w B l k1 b1 → Calls Tryz.prog 30 #[.pointer (some ⟨B, 0, none⟩), .int .u8 58] w fun e w' => e = .returned (.tuple #[]) ∧ RdAt w' B l k2 b2 ∧ Below B w w')
    (H3 : ∀ B w, RdAt w B l k2 b2 → Calls Tryz.prog 31 #[.pointer (some ⟨B, 0, none⟩)] w fun e w' => e = .returned (.int .i64 m) ∧ RdAt w' B l k3 b3 ∧ Below B w w')
    (H4 : ∀ B w, RdAt w B l k3 b3 → Calls Tryz.prog 30 #[.pointer (some ⟨B, 0, none⟩), .int .u8 58] w fun e w' => e = .returned (.tuple #[]) ∧ RdAt w' B l k4 b4 ∧ Below B w w')
    (H5 : ∀ B w, RdAt w B l k4 b4 → Calls Tryz.prog 31 #[.pointer (some ⟨B, 0, none⟩)] w fun e w' => e = .returned (.int .i64 s) ∧ RdAt w' B l k5 b5 ∧ Below B w w')
    (H6 : ∀ B w, RdAt w B l k5 b5 → Calls Tryz.prog 30 #[.pointer (some ⟨B, 0, none⟩), .int .u8 46] w fun e w' => e = .returned (.tuple #[]) ∧ RdAt w' B l k6 b6 ∧ Below B w w')
    (H7 : ∀ B w, RdAt w B l k6 b6 → Calls Tryz.prog 32 #[.pointer (some ⟨B, 0, none⟩), .int .i64 2] w fun e w' => e = .returned (.int .i64 x) ∧ RdAt w' B l l.length false ∧ Below B w w') :
    Calls Tryz.prog 8 #[.int .i64 4, .string (bs l)] w fun e w' => e = .returned (.tuple #[.agg #[.int .i64 0, .int .i64 0], .int .i64 31]) ∧ Below w.heap.size w w' := by
  have HG := hideR HG
  have H1 := hideR H1
  have H2 := hideR H2
  have H3 := hideR H3
  have H4 := hideR H4
  have H5 := hideR H5
  have H6 := hideR H6
  have H7 := hideR H7
  have hsz := bs_size l
  have HAR := hideR (And.intro hh (And.intro hm (And.intro hs (And.intro hx (And.intro hP (And.intro hP0 (And.intro hV (ht))))))))
  clear ht hV hP0 hP hx hs hm hh
  go_enter Tryz.func8, Tryz.ntmps8
  go_wp2_with fail
  have Z0 := Two.new w (.int .i64 0) (.int .i64 0) 24
  go_at_call 28
  refine (HG.out _).mono ?_
  rintro e wg ⟨rfl, hwg⟩
  obtain rfl := hwg.symm
  have X0 := (RdAt.new (w.alloc (.cells #[.int .i64 0, .int .i64 0] 24)) l).at (B2 := w.heap.size + 1) (by simp)
  have B0 := bel2 w (.cells #[.int .i64 0, .int .i64 0] 24) (.cells #[.string (bs l), .int .i64 0, .bool false] 66)
  have Z0 := Z0.alloc (.cells #[.string (bs l), .int .i64 0, .bool false] 66)
  have hAX : w.heap.size < w.heap.size + 1 := Nat.lt_succ_self _
  obtain ⟨_, x0, x1, x2, x3, x4⟩ := id X0
  obtain ⟨_, z0, z1, z2, z3⟩ := id Z0
  go_wp2_with fail
  go_at_call 29
  refine (H1.out _ _ X0).mono ?_
  rintro e w1 ⟨rfl, X1, b1⟩
  have B1 := B0.trans (b1.mono (Nat.le_of_lt hAX))
  have Z1 := Z0.under b1 hAX
  clear B0 X0 Z0 b1 x0 x1 x2 x3 x4 z0 z1 z2 z3 H1
  generalize w.heap.size + 1 = X at *
  obtain ⟨_, x0, x1, x2, x3, x4⟩ := id X1
  obtain ⟨_, z0, z1, z2, z3⟩ := id Z1
  go_wp2_with fail
  go_at_call 30
  refine (H2.out _ _ X1).mono ?_
  rintro e w2 ⟨rfl, X2, b2⟩
  have B2 := B1.trans (b2.mono (Nat.le_of_lt hAX))
  have Z2 := Z1.under b2 hAX
  clear B1 X1 Z1 b2 x0 x1 x2 x3 x4 z0 z1 z2 z3 H2
  obtain ⟨_, x0, x1, x2, x3, x4⟩ := id X2
  obtain ⟨_, z0, z1, z2, z3⟩ := id Z2
  go_wp2_with fail
  go_at_call 31
  refine (H3.out _ _ X2).mono ?_
  rintro e w3 ⟨rfl, X3, b3⟩
  have B3 := B2.trans (b3.mono (Nat.le_of_lt hAX))
  have Z3 := Z2.under b3 hAX
  clear B2 X2 Z2 b3 x0 x1 x2 x3 x4 z0 z1 z2 z3 H3
  obtain ⟨_, x0, x1, x2, x3, x4⟩ := id X3
  obtain ⟨_, z0, z1, z2, z3⟩ := id Z3
  go_wp2_with fail
  go_at_call 30
  refine (H4.out _ _ X3).mono ?_
  rintro e w4 ⟨rfl, X4, b4⟩
  have B4 := B3.trans (b4.mono (Nat.le_of_lt hAX))
  have Z4 := Z3.under b4 hAX
  clear B3 X3 Z3 b4 x0 x1 x2 x3 x4 z0 z1 z2 z3 H4
  obtain ⟨_, x0, x1, x2, x3, x4⟩ := id X4
  obtain ⟨_, z0, z1, z2, z3⟩ := id Z4
  go_wp2_with fail
  go_at_call 31
  refine (H5.out _ _ X4).mono ?_
  rintro e w5 ⟨rfl, X5, b5⟩
  have B5 := B4.trans (b5.mono (Nat.le_of_lt hAX))
  have Z5 := Z4.under b5 hAX
  clear B4 X4 Z4 b5 x0 x1 x2 x3 x4 z0 z1 z2 z3 H5
  obtain ⟨_, x0, x1, x2, x3, x4⟩ := id X5
  obtain ⟨_, z0, z1, z2, z3⟩ := id Z5
  go_wp2_with fail
  go_at_call 30
  refine (H6.out _ _ X5).mono ?_
  rintro e w6 ⟨rfl, X6, b6⟩
  have B6 := B5.trans (b6.mono (Nat.le_of_lt hAX))
  have Z6 := Z5.under b6 hAX
  clear B5 X5 Z5 b6 x0 x1 x2 x3 x4 z0 z1 z2 z3 H6
  obtain ⟨_, x0, x1, x2, x3, x4⟩ := id X6
  obtain ⟨_, z0, z1, z2, z3⟩ := id Z6
  go_wp2_with fail
  go_at_call 32
  refine (H7.out _ _ X6).mono ?_
  rintro e w7 ⟨rfl, X7, b7⟩
  have B7 := B6.trans (b7.mono (Nat.le_of_lt hAX))
  have Z7 := Z6.under b7 hAX
  clear B6 X6 Z6 b7 x0 x1 x2 x3 x4 z0 z1 z2 z3 H7
  obtain ⟨_, x0, x1, x2, x3, x4⟩ := id X7
  obtain ⟨_, z0, z1, z2, z3⟩ := id Z7
  obtain ⟨hh, hm, hs, hx, hP, hP0, hV, ht⟩ := HAR.out
  go_wp2_with fail
  exact bodyPost_ret (v := .tuple #[.agg #[.int .i64 0, .int .i64 0], .int .i64 31]) (by simp [results, Tryz.results8, go_sem, z0, z1]) rfl ⟨rfl, (B7.setCell (p := ⟨w.heap.size, 0, none⟩) (Nat.le_refl _) _).setCell (p := ⟨w.heap.size, 1, none⟩) (Nat.le_refl _) _⟩
set_option maxRecDepth 100000 in
set_option maxHeartbeats 2000000 in
theorem rpclock_4k (h m s x : Int) (l : List UInt8) (k1 k2 k3 k4 k5 k6 : Nat) (b1 b2 b3 b4 b5 b6 : Bool) (P V : Int) (hh : 0 ≤ h ∧ h ≤ 1000) (hm : 0 ≤ m ∧ m ≤ 1000) (hs : 0 ≤ s ∧ s ≤ 1000) (hx : 0 ≤ x ∧ x ≤ 1000) (hP : 3600 * h + 60 * m + s = P) (hP0 : 0 ≤ P ∧ P ≤ 4000000) (hV : P * 100 + x = V) (ht : V ≤ 36000000) (a b : Int) (w : World)
    (HG : ∀ w, Calls Tryz.prog 28 #[.int .i64 4] w fun e w' => e = .returned (.int .i64 100) ∧ w' = w)
    (H1 : ∀ B w, RdAt w B l 0 false → Calls Tryz.prog 29 #[.pointer (some ⟨B, 0, none⟩), .int .i64 1] w fun e w' => e = .returned (.int .i64 h) ∧ RdAt w' B l k1 b1 ∧ Below B w w')
    (H2 : ∀ B w, RdAt w B l k1 b1 → Calls Tryz.prog 30 #[.pointer (some ⟨B, 0, none⟩), .int .u8 58] w fun e w' => e = .returned (.tuple #[]) ∧ RdAt w' B l k2 b2 ∧ Below B w w')
    (H3 : ∀ B w, RdAt w B l k2 b2 → Calls Tryz.prog 31 #[.pointer (some ⟨B, 0, none⟩)] w fun e w' => e = .returned (.int .i64 m) ∧ RdAt w' B l k3 b3 ∧ Below B w w')
    (H4 : ∀ B w, RdAt w B l k3 b3 → Calls Tryz.prog 30 #[.pointer (some ⟨B, 0, none⟩), .int .u8 58] w fun e w' => e = .returned (.tuple #[]) ∧ RdAt w' B l k4 b4 ∧ Below B w w')
    (H5 : ∀ B w, RdAt w B l k4 b4 → Calls Tryz.prog 31 #[.pointer (some ⟨B, 0, none⟩)] w fun e w' => e = .returned (.int .i64 s) ∧ RdAt w' B l k5 b5 ∧ Below B w w')
    (H6 : ∀ B w, RdAt w B l k5 b5 → Calls Tryz.prog 30 #[.pointer (some ⟨B, 0, none⟩), .int .u8 46] w fun e w' => e = .returned (.tuple #[]) ∧ RdAt w' B l k6 b6 ∧ Below B w w')
    (H7 : ∀ B w, RdAt w B l k6 b6 → Calls Tryz.prog 32 #[.pointer (some ⟨B, 0, none⟩), .int .i64 2] w fun e w' => e = .returned (.int .i64 x) ∧ RdAt w' B l l.length false ∧ Below B w w')
    (HL : ∀ w, Calls Tryz.prog 33 #[.int .i64 V, .int .i64 100] w fun e w' => e = .returned (.agg #[.int .i64 a, .int .i64 b]) ∧ Below w.heap.size w w') :
    Calls Tryz.prog 8 #[.int .i64 4, .string (bs l)] w fun e w' => e = .returned (.tuple #[.agg #[.int .i64 a, .int .i64 b], .int .i64 0]) ∧ Below w.heap.size w w' := by
  have HG := hideR HG
  have H1 := hideR H1
  have H2 := hideR H2
  have H3 := hideR H3
  have H4 := hideR H4
  have H5 := hideR H5
  have H6 := hideR H6
  have H7 := hideR H7
  have HL := hideR HL
  have hsz := bs_size l
  have HAR := hideR (And.intro hh (And.intro hm (And.intro hs (And.intro hx (And.intro hP (And.intro hP0 (And.intro hV (ht))))))))
  clear ht hV hP0 hP hx hs hm hh
  go_enter Tryz.func8, Tryz.ntmps8
  go_wp2_with fail
  have Z0 := Two.new w (.int .i64 0) (.int .i64 0) 24
  go_at_call 28
  refine (HG.out _).mono ?_
  rintro e wg ⟨rfl, hwg⟩
  obtain rfl := hwg.symm
  have X0 := (RdAt.new (w.alloc (.cells #[.int .i64 0, .int .i64 0] 24)) l).at (B2 := w.heap.size + 1) (by simp)
  have B0 := bel2 w (.cells #[.int .i64 0, .int .i64 0] 24) (.cells #[.string (bs l), .int .i64 0, .bool false] 66)
  have Z0 := Z0.alloc (.cells #[.string (bs l), .int .i64 0, .bool false] 66)
  have hAX : w.heap.size < w.heap.size + 1 := Nat.lt_succ_self _
  obtain ⟨_, x0, x1, x2, x3, x4⟩ := id X0
  obtain ⟨_, z0, z1, z2, z3⟩ := id Z0
  go_wp2_with fail
  go_at_call 29
  refine (H1.out _ _ X0).mono ?_
  rintro e w1 ⟨rfl, X1, b1⟩
  have B1 := B0.trans (b1.mono (Nat.le_of_lt hAX))
  have Z1 := Z0.under b1 hAX
  clear B0 X0 Z0 b1 x0 x1 x2 x3 x4 z0 z1 z2 z3 H1
  generalize w.heap.size + 1 = X at *
  obtain ⟨_, x0, x1, x2, x3, x4⟩ := id X1
  obtain ⟨_, z0, z1, z2, z3⟩ := id Z1
  go_wp2_with fail
  go_at_call 30
  refine (H2.out _ _ X1).mono ?_
  rintro e w2 ⟨rfl, X2, b2⟩
  have B2 := B1.trans (b2.mono (Nat.le_of_lt hAX))
  have Z2 := Z1.under b2 hAX
  clear B1 X1 Z1 b2 x0 x1 x2 x3 x4 z0 z1 z2 z3 H2
  obtain ⟨_, x0, x1, x2, x3, x4⟩ := id X2
  obtain ⟨_, z0, z1, z2, z3⟩ := id Z2
  go_wp2_with fail
  go_at_call 31
  refine (H3.out _ _ X2).mono ?_
  rintro e w3 ⟨rfl, X3, b3⟩
  have B3 := B2.trans (b3.mono (Nat.le_of_lt hAX))
  have Z3 := Z2.under b3 hAX
  clear B2 X2 Z2 b3 x0 x1 x2 x3 x4 z0 z1 z2 z3 H3
  obtain ⟨_, x0, x1, x2, x3, x4⟩ := id X3
  obtain ⟨_, z0, z1, z2, z3⟩ := id Z3
  go_wp2_with fail
  go_at_call 30
  refine (H4.out _ _ X3).mono ?_
  rintro e w4 ⟨rfl, X4, b4⟩
  have B4 := B3.trans (b4.mono (Nat.le_of_lt hAX))
  have Z4 := Z3.under b4 hAX
  clear B3 X3 Z3 b4 x0 x1 x2 x3 x4 z0 z1 z2 z3 H4
  obtain ⟨_, x0, x1, x2, x3, x4⟩ := id X4
  obtain ⟨_, z0, z1, z2, z3⟩ := id Z4
  go_wp2_with fail
  go_at_call 31
  refine (H5.out _ _ X4).mono ?_
  rintro e w5 ⟨rfl, X5, b5⟩
  have B5 := B4.trans (b5.mono (Nat.le_of_lt hAX))
  have Z5 := Z4.under b5 hAX
  clear B4 X4 Z4 b5 x0 x1 x2 x3 x4 z0 z1 z2 z3 H5
  obtain ⟨_, x0, x1, x2, x3, x4⟩ := id X5
  obtain ⟨_, z0, z1, z2, z3⟩ := id Z5
  go_wp2_with fail
  go_at_call 30
  refine (H6.out _ _ X5).mono ?_
  rintro e w6 ⟨rfl, X6, b6⟩
  have B6 := B5.trans (b6.mono (Nat.le_of_lt hAX))
  have Z6 := Z5.under b6 hAX
  clear B5 X5 Z5 b6 x0 x1 x2 x3 x4 z0 z1 z2 z3 H6
  obtain ⟨_, x0, x1, x2, x3, x4⟩ := id X6
  obtain ⟨_, z0, z1, z2, z3⟩ := id Z6
  go_wp2_with fail
  go_at_call 32
  refine (H7.out _ _ X6).mono ?_
  rintro e w7 ⟨rfl, X7, b7⟩
  have B7 := B6.trans (b7.mono (Nat.le_of_lt hAX))
  have Z7 := Z6.under b7 hAX
  clear B6 X6 Z6 b7 x0 x1 x2 x3 x4 z0 z1 z2 z3 H7
  obtain ⟨_, x0, x1, x2, x3, x4⟩ := id X7
  obtain ⟨_, z0, z1, z2, z3⟩ := id Z7
  obtain ⟨hh, hm, hs, hx, hP, hP0, hV, ht⟩ := HAR.out
  go_wp2_with fail
  go_at_call 33
  refine (HL.out _).mono ?_
  rintro e w8 ⟨rfl, b8⟩
  have B8 := bup B7 b8
  have Z8 := Z7.keep b8
  clear z0 z1 z2 z3
  obtain ⟨_, z0, z1, z2, z3⟩ := id Z8
  go_wp2_with fail
  exact bodyPost_ret (v := .tuple #[.agg #[.int .i64 a, .int .i64 b], .int .i64 0]) (by simp [results, Tryz.results8, go_sem, z0, z1]) rfl ⟨rfl, (B8.setCell (p := ⟨w.heap.size, 0, none⟩) (Nat.le_refl _) _).setCell (p := ⟨w.heap.size, 1, none⟩) (Nat.le_refl _) _⟩
end Go.Proofs.YtaipdckakgohjaaGreatDoor

/- Package code: ParseClock. -/
namespace Go.Proofs.YtaipdckakgohjaaGreatDoor
open Go.RowKit Go.Shelf
attribute [local go_sem] Oper.semAt_some bs_toList

set_option maxRecDepth 100000 in
set_option maxHeartbeats 2000000 in
theorem pclock_kind (fm dh dm dp dg : Int) (ds : Bool) (l : List UInt8) (w : World)
    (HO : ∀ w, Calls Tryz.prog 24 #[.int .i64 fm] w fun e w' => e = .returned (.tuple #[.agg #[.int .i64 dh, .int .u8 dm, .int .i64 dp, .int .i64 dg, .bool ds], .bool false]) ∧ Below w.heap.size w w') :
    Calls Tryz.prog 7 #[.int .i64 fm, .string (bs l)] w fun e w' => e = .returned (.tuple #[.agg #[.int .i64 0, .int .i64 0], .int .i64 5]) ∧ Below w.heap.size w w' := by
  have HO := hideR HO
  go_enter Tryz.func7, Tryz.ntmps7
  go_wp2_with fail
  go_at_call 24
  refine (HO.out _).mono ?_
  rintro e w1 ⟨rfl, b1⟩
  have Z1 := ((Two.new w (.int .i64 0) (.int .i64 0) 24).keep b1).alloc (.cells #[.int .i64 dh, .int .u8 dm, .int .i64 dp, .int .i64 dg, .bool ds] 56)
  have B1 := bup (bup (bel1 w _) b1) (bel1 w1 (.cells #[.int .i64 dh, .int .u8 dm, .int .i64 dp, .int .i64 dg, .bool ds] 56))
  clear b1
  have D1 := DialAt.new w1 dh dm dp dg ds
  obtain ⟨_, z0, z1, z2, z3⟩ := id Z1
  obtain ⟨_, d0, d1, d2, d3, d4⟩ := id D1
  go_wp2_with fail
  exact bodyPost_ret (v := .tuple #[.agg #[.int .i64 0, .int .i64 0], .int .i64 5]) (by simp [results, Tryz.results7, go_sem, z0, z1]) rfl ⟨rfl, by first | exact B1 | exact (B1.setCell (by simp) _).setCell (by simp) _⟩
set_option maxRecDepth 100000 in
set_option maxHeartbeats 2000000 in
theorem pclock_form (fm dh dm dp dg nu : Int) (ds : Bool) (l : List UInt8) (w : World)
    (HO : ∀ w, Calls Tryz.prog 24 #[.int .i64 fm] w fun e w' => e = .returned (.tuple #[.agg #[.int .i64 dh, .int .u8 dm, .int .i64 dp, .int .i64 dg, .bool ds], .bool true]) ∧ Below w.heap.size w w')
    (HR : ∀ w, Calls Tryz.prog 25 #[.agg #[.int .i64 dh, .int .u8 dm, .int .i64 dp, .int .i64 dg, .bool ds], .string (bs l)] w fun e w' => e = .returned (.tuple #[.int .i64 nu, .bool false]) ∧ Below w.heap.size w w') :
    Calls Tryz.prog 7 #[.int .i64 fm, .string (bs l)] w fun e w' => e = .returned (.tuple #[.agg #[.int .i64 0, .int .i64 0], .int .i64 13]) ∧ Below w.heap.size w w' := by
  have HO := hideR HO
  have HR := hideR HR
  go_enter Tryz.func7, Tryz.ntmps7
  go_wp2_with fail
  go_at_call 24
  refine (HO.out _).mono ?_
  rintro e w1 ⟨rfl, b1⟩
  have Z1 := ((Two.new w (.int .i64 0) (.int .i64 0) 24).keep b1).alloc (.cells #[.int .i64 dh, .int .u8 dm, .int .i64 dp, .int .i64 dg, .bool ds] 56)
  have B1 := bup (bup (bel1 w _) b1) (bel1 w1 (.cells #[.int .i64 dh, .int .u8 dm, .int .i64 dp, .int .i64 dg, .bool ds] 56))
  clear b1
  have D1 := DialAt.new w1 dh dm dp dg ds
  obtain ⟨_, z0, z1, z2, z3⟩ := id Z1
  obtain ⟨_, d0, d1, d2, d3, d4⟩ := id D1
  go_wp2_with fail
  go_at_call 25
  refine (HR.out _).mono ?_
  rintro e w2 ⟨rfl, b2⟩
  have Z2 := (Z1.keep b2)
  have D2 := (D1.keep b2)
  have B2 := bup B1 b2
  clear Z1 D1 B1 z0 z1 z2 z3 d0 d1 d2 d3 d4
  clear b2
  obtain ⟨_, z0, z1, z2, z3⟩ := id Z2
  obtain ⟨_, d0, d1, d2, d3, d4⟩ := id D2
  go_wp2_with fail
  exact bodyPost_ret (v := .tuple #[.agg #[.int .i64 0, .int .i64 0], .int .i64 13]) (by simp [results, Tryz.results7, go_sem, z0, z1]) rfl ⟨rfl, by first | exact B2 | exact (B2.setCell (by simp) _).setCell (by simp) _⟩
set_option maxRecDepth 100000 in
set_option maxHeartbeats 2000000 in
theorem pclock_out (fm dh dm dp dg nu tn td te : Int) (ds : Bool) (l : List UInt8) (ht : (te == 0) = false) (w : World)
    (HO : ∀ w, Calls Tryz.prog 24 #[.int .i64 fm] w fun e w' => e = .returned (.tuple #[.agg #[.int .i64 dh, .int .u8 dm, .int .i64 dp, .int .i64 dg, .bool ds], .bool true]) ∧ Below w.heap.size w w')
    (HR : ∀ w, Calls Tryz.prog 25 #[.agg #[.int .i64 dh, .int .u8 dm, .int .i64 dp, .int .i64 dg, .bool ds], .string (bs l)] w fun e w' => e = .returned (.tuple #[.int .i64 nu, .bool true]) ∧ Below w.heap.size w w')
    (HN : ∀ w, Calls Tryz.prog 26 #[.int .i64 nu, .int .i64 dp] w fun e w' => e = .returned (.tuple #[.agg #[.int .i64 tn, .int .i64 td], .int .i64 0]) ∧ Below w.heap.size w w')
    (HT : ∀ w, Calls Tryz.prog 27 #[.agg #[.int .i64 tn, .int .i64 td]] w fun e w' => e = .returned (.int .i64 te) ∧ Below w.heap.size w w') :
    Calls Tryz.prog 7 #[.int .i64 fm, .string (bs l)] w fun e w' => e = .returned (.tuple #[.agg #[.int .i64 0, .int .i64 0], .int .i64 te]) ∧ Below w.heap.size w w' := by
  have HO := hideR HO
  have HR := hideR HR
  have HN := hideR HN
  have HT := hideR HT
  go_enter Tryz.func7, Tryz.ntmps7
  go_wp2_with fail
  go_at_call 24
  refine (HO.out _).mono ?_
  rintro e w1 ⟨rfl, b1⟩
  have Z1 := ((Two.new w (.int .i64 0) (.int .i64 0) 24).keep b1).alloc (.cells #[.int .i64 dh, .int .u8 dm, .int .i64 dp, .int .i64 dg, .bool ds] 56)
  have B1 := bup (bup (bel1 w _) b1) (bel1 w1 (.cells #[.int .i64 dh, .int .u8 dm, .int .i64 dp, .int .i64 dg, .bool ds] 56))
  clear b1
  have D1 := DialAt.new w1 dh dm dp dg ds
  obtain ⟨_, z0, z1, z2, z3⟩ := id Z1
  obtain ⟨_, d0, d1, d2, d3, d4⟩ := id D1
  go_wp2_with fail
  go_at_call 25
  refine (HR.out _).mono ?_
  rintro e w2 ⟨rfl, b2⟩
  have Z2 := (Z1.keep b2)
  have D2 := (D1.keep b2)
  have B2 := bup B1 b2
  clear Z1 D1 B1 z0 z1 z2 z3 d0 d1 d2 d3 d4
  clear b2
  obtain ⟨_, z0, z1, z2, z3⟩ := id Z2
  obtain ⟨_, d0, d1, d2, d3, d4⟩ := id D2
  go_wp2_with fail
  go_at_call 26
  refine (HN.out _).mono ?_
  rintro e w3 ⟨rfl, b3⟩
  have Z3 := (Z2.keep b3).alloc (.cells #[.int .i64 tn, .int .i64 td] 24)
  have D3 := (D2.keep b3).alloc (.cells #[.int .i64 tn, .int .i64 td] 24)
  have B3 := bup (bup B2 b3) (bel1 w3 (.cells #[.int .i64 tn, .int .i64 td] 24))
  clear Z2 D2 B2 z0 z1 z2 z3 d0 d1 d2 d3 d4
  clear b3
  have Q3 := Two.new w3 (.int .i64 tn) (.int .i64 td) 24
  obtain ⟨_, z0, z1, z2, z3⟩ := id Z3
  obtain ⟨_, d0, d1, d2, d3, d4⟩ := id D3
  obtain ⟨_, q0, q1, q2, q3⟩ := id Q3
  go_wp2_with fail
  go_at_call 27
  refine (HT.out _).mono ?_
  rintro e w4 ⟨rfl, b4⟩
  have Z4 := (Z3.keep b4)
  have D4 := (D3.keep b4)
  have Q4 := (Q3.keep b4)
  have B4 := bup B3 b4
  clear Z3 D3 Q3 B3 z0 z1 z2 z3 d0 d1 d2 d3 d4 q0 q1 q2 q3
  clear b4
  obtain ⟨_, z0, z1, z2, z3⟩ := id Z4
  obtain ⟨_, d0, d1, d2, d3, d4⟩ := id D4
  obtain ⟨_, q0, q1, q2, q3⟩ := id Q4
  go_wp2_with fail
  exact bodyPost_ret (v := .tuple #[.agg #[.int .i64 0, .int .i64 0], .int .i64 te]) (by simp [results, Tryz.results7, go_sem, z0, z1]) rfl ⟨rfl, by first | exact B4 | exact (B4.setCell (by simp) _).setCell (by simp) _⟩
set_option maxRecDepth 100000 in
set_option maxHeartbeats 2000000 in
theorem pclock_ok (fm dh dm dp dg nu tn td : Int) (ds : Bool) (l : List UInt8) (w : World)
    (HO : ∀ w, Calls Tryz.prog 24 #[.int .i64 fm] w fun e w' => e = .returned (.tuple #[.agg #[.int .i64 dh, .int .u8 dm, .int .i64 dp, .int .i64 dg, .bool ds], .bool true]) ∧ Below w.heap.size w w')
    (HR : ∀ w, Calls Tryz.prog 25 #[.agg #[.int .i64 dh, .int .u8 dm, .int .i64 dp, .int .i64 dg, .bool ds], .string (bs l)] w fun e w' => e = .returned (.tuple #[.int .i64 nu, .bool true]) ∧ Below w.heap.size w w')
    (HN : ∀ w, Calls Tryz.prog 26 #[.int .i64 nu, .int .i64 dp] w fun e w' => e = .returned (.tuple #[.agg #[.int .i64 tn, .int .i64 td], .int .i64 0]) ∧ Below w.heap.size w w')
    (HT : ∀ w, Calls Tryz.prog 27 #[.agg #[.int .i64 tn, .int .i64 td]] w fun e w' => e = .returned (.int .i64 0) ∧ Below w.heap.size w w') :
    Calls Tryz.prog 7 #[.int .i64 fm, .string (bs l)] w fun e w' => e = .returned (.tuple #[.agg #[.int .i64 tn, .int .i64 td], .int .i64 0]) ∧ Below w.heap.size w w' := by
  have HO := hideR HO
  have HR := hideR HR
  have HN := hideR HN
  have HT := hideR HT
  go_enter Tryz.func7, Tryz.ntmps7
  go_wp2_with fail
  go_at_call 24
  refine (HO.out _).mono ?_
  rintro e w1 ⟨rfl, b1⟩
  have Z1 := ((Two.new w (.int .i64 0) (.int .i64 0) 24).keep b1).alloc (.cells #[.int .i64 dh, .int .u8 dm, .int .i64 dp, .int .i64 dg, .bool ds] 56)
  have B1 := bup (bup (bel1 w _) b1) (bel1 w1 (.cells #[.int .i64 dh, .int .u8 dm, .int .i64 dp, .int .i64 dg, .bool ds] 56))
  clear b1
  have D1 := DialAt.new w1 dh dm dp dg ds
  obtain ⟨_, z0, z1, z2, z3⟩ := id Z1
  obtain ⟨_, d0, d1, d2, d3, d4⟩ := id D1
  go_wp2_with fail
  go_at_call 25
  refine (HR.out _).mono ?_
  rintro e w2 ⟨rfl, b2⟩
  have Z2 := (Z1.keep b2)
  have D2 := (D1.keep b2)
  have B2 := bup B1 b2
  clear Z1 D1 B1 z0 z1 z2 z3 d0 d1 d2 d3 d4
  clear b2
  obtain ⟨_, z0, z1, z2, z3⟩ := id Z2
  obtain ⟨_, d0, d1, d2, d3, d4⟩ := id D2
  go_wp2_with fail
  go_at_call 26
  refine (HN.out _).mono ?_
  rintro e w3 ⟨rfl, b3⟩
  have Z3 := (Z2.keep b3).alloc (.cells #[.int .i64 tn, .int .i64 td] 24)
  have D3 := (D2.keep b3).alloc (.cells #[.int .i64 tn, .int .i64 td] 24)
  have B3 := bup (bup B2 b3) (bel1 w3 (.cells #[.int .i64 tn, .int .i64 td] 24))
  clear Z2 D2 B2 z0 z1 z2 z3 d0 d1 d2 d3 d4
  clear b3
  have Q3 := Two.new w3 (.int .i64 tn) (.int .i64 td) 24
  obtain ⟨_, z0, z1, z2, z3⟩ := id Z3
  obtain ⟨_, d0, d1, d2, d3, d4⟩ := id D3
  obtain ⟨_, q0, q1, q2, q3⟩ := id Q3
  go_wp2_with fail
  go_at_call 27
  refine (HT.out _).mono ?_
  rintro e w4 ⟨rfl, b4⟩
  have Z4 := (Z3.keep b4)
  have D4 := (D3.keep b4)
  have Q4 := (Q3.keep b4)
  have B4 := bup B3 b4
  clear Z3 D3 Q3 B3 z0 z1 z2 z3 d0 d1 d2 d3 d4 q0 q1 q2 q3
  clear b4
  obtain ⟨_, z0, z1, z2, z3⟩ := id Z4
  obtain ⟨_, d0, d1, d2, d3, d4⟩ := id D4
  obtain ⟨_, q0, q1, q2, q3⟩ := id Q4
  go_wp2_with fail
  exact bodyPost_ret (v := .tuple #[.agg #[.int .i64 tn, .int .i64 td], .int .i64 0]) (by simp [results, Tryz.results7, go_sem, z0, z1]) rfl ⟨rfl, by first | exact B4 | exact (B4.setCell (by simp) _).setCell (by simp) _⟩
/-- A lowest fraction of a small bottom, as a time. -/
theorem time_low (P n : Int) (hP : 0 ≤ P ∧ P ≤ 4611686018427387904) (hn : 1 ≤ n ∧ n ≤ 1000) :
    newA P n = (⟨P / (P.natAbs.gcd n.natAbs : Nat), n / (P.natAbs.gcd n.natAbs : Nat)⟩, 0) ∧ timeA ⟨P / (P.natAbs.gcd n.natAbs : Nat), n / (P.natAbs.gcd n.natAbs : Nat)⟩ = if P ≤ 360000 * n then 0 else 31 := by
  obtain ⟨g, hg⟩ : ∃ g : Nat, P.natAbs.gcd n.natAbs = g := ⟨_, rfl⟩
  have g0 : 0 < g := by rw [← hg]; exact Nat.gcd_pos_of_pos_right _ (by omega)
  have e1 : (g : Int) * (P / g) = P := Int.mul_ediv_cancel' (by rw [← hg]; exact Int.ofNat_dvd_left.2 (Nat.gcd_dvd_left _ _))
  have e2 : (g : Int) * (n / g) = n := Int.mul_ediv_cancel' (by rw [← hg]; exact Int.ofNat_dvd_left.2 (Nat.gcd_dvd_right _ _))
  have q1 := q_num P n (by omega)
  have q2 := q_den P n (by omega)
  rw [hg] at q1 q2 ⊢
  have b1 : 0 ≤ P / g := Int.ediv_nonneg hP.1 (by omega)
  have b2 : P / g ≤ P := Int.ediv_le_self _ hP.1
  have b3 : n / g ≤ n := Int.ediv_le_self _ (by omega)
  have b4 : 0 < n / g := by
    refine Int.lt_of_not_ge fun x => ?_
    have : (g : Int) * (n / g) ≤ g * 0 := Int.mul_le_mul_of_nonneg_left x (by omega)
    omega
  have hf : fitsQ (Rat.divInt P n) = true := by
    unfold fitsQ
    rw [q1, q2, decide_eq_true_iff]
    omega
  have rr := low_ok_right (Rat.divInt P n) (by rw [low_fits _ hf])
  rw [low_fits _ hf, q1, q2] at rr
  refine ⟨?_, ?_⟩
  · unfold newA
    rw [if_neg (by omega), low_fits _ hf, q1, q2]
  · unfold timeA
    rw [if_pos ⟨rr.1, by simp only; omega⟩]
    have cmp : P / g ≤ 360000 * (n / g) ↔ P ≤ 360000 * n := by
      constructor
      · intro x
        have := Int.mul_le_mul_of_nonneg_left x (show (0 : Int) ≤ g by omega)
        rw [e1, Int.mul_left_comm, e2] at this
        exact this
      · intro x
        refine Int.le_of_not_gt fun y => ?_
        have := Int.mul_lt_mul_of_pos_left y (show (0 : Int) < g by omega)
        rw [e1, Int.mul_left_comm, e2] at this
        omega
    have cm : 0 < cmpI ⟨P / g, n / g⟩ ⟨360000, 1⟩ ↔ ¬ P ≤ 360000 * n := by
      rw [← cmp]
      unfold cmpI
      simp only [Int.mul_one]
      split
      · omega
      · split <;> omega
    by_cases c : P ≤ 360000 * n
    · rw [if_pos c, if_neg]
      rintro (x | x)
      · simp only at x
        omega
      · exact cm.1 x c
    · rw [if_neg c, if_pos (.inr (cm.2 c))]
/-- A clock's number as a time. -/
def clkT (P n : Int) : Rt × Int := if P ≤ 360000 * n then (⟨P / (P.natAbs.gcd n.natAbs : Nat), n / (P.natAbs.gcd n.natAbs : Nat)⟩, 0) else (⟨0, 0⟩, 31)
def clkG (hours : Nat) (mark : UInt8) (per dg : Nat) (short : Bool) (l : List UInt8) : Rt × Int := if (readA hours mark per dg short l).2 = true then clkT (readA hours mark per dg short l).1 per else (⟨0, 0⟩, 13)
/-- What ParseClock tells. -/
def clkF (fm : Int) (l : List UInt8) : Rt × Int := if fm = 1 then clkG 2 44 1000 3 false l else if fm = 2 then clkG 2 46 1000 3 true l else if fm = 4 then clkG 1 46 100 2 false l else (⟨0, 0⟩, 5)
theorem pclock_G (fm : Int) (hr per dg : Nat) (mk : UInt8) (ds : Bool) (l : List UInt8) (hdg : dg ≤ 3) (hper : 1 ≤ per ∧ per ≤ 1000) (hl : l.length ≤ 9223372036854775807) (w : World)
    (HO : ∀ w, Calls Tryz.prog 24 #[.int .i64 fm] w fun e w' => e = .returned (.tuple #[.agg #[.int .i64 (hr : Nat), .int .u8 mk.toNat, .int .i64 (per : Nat), .int .i64 (dg : Nat), .bool ds], .bool true]) ∧ Below w.heap.size w w') :
    Calls Tryz.prog 7 #[.int .i64 fm, .string (bs l)] w fun e w' => e = .returned (.tuple #[rtv (clkG hr mk per dg ds l).1, .int .i64 (clkG hr mk per dg ds l).2]) ∧ Below w.heap.size w w' := by
  have HR := read_any hr per dg mk ds l hdg hper.2 hl
  have rb := read_bound hr per dg mk ds l hdg hper.2
  unfold clkG
  generalize readA hr mk per dg ds l = r at *
  obtain ⟨nu, ok⟩ := r
  simp only at rb
  cases ok
  · rw [if_neg (by simp)]
    exact pclock_form fm _ _ _ _ _ ds l w HO HR
  · rw [if_pos rfl]
    obtain ⟨e1, e2⟩ := time_low nu per (by omega) (by omega)
    have HN := new_any nu per ⟨by omega, by omega⟩ ⟨by omega, by omega⟩
    have HT := time_any (newA nu per).1 (by unfold newA; rw [if_neg (by omega)]; exact low_in _)
    rw [e1] at HN HT
    simp only at HN HT
    rw [e2] at HT
    unfold clkT
    by_cases c : nu ≤ 360000 * (per : Int)
    · rw [if_pos c] at HT ⊢
      exact pclock_ok fm _ _ _ _ nu _ _ ds l w HO HR HN HT
    · rw [if_neg c] at HT ⊢
      exact pclock_out fm _ _ _ _ nu _ _ 31 ds l rfl w HO HR HN HT
theorem pclock_any (fm : Int) (l : List UInt8) (hl : l.length ≤ 9223372036854775807) (w : World) :
    Calls Tryz.prog 7 #[.int .i64 fm, .string (bs l)] w fun e w' => e = .returned (.tuple #[rtv (clkF fm l).1, .int .i64 (clkF fm l).2]) ∧ Below w.heap.size w w' := by
  have HO := dialOf_any fm
  unfold clkF
  by_cases h1 : fm = 1
  · rw [if_pos h1] at HO ⊢
    exact pclock_G fm 2 1000 3 44 false l (by omega) (by omega) hl w HO
  · rw [if_neg h1] at HO ⊢
    by_cases h2 : fm = 2
    · rw [if_pos h2] at HO ⊢
      exact pclock_G fm 2 1000 3 46 true l (by omega) (by omega) hl w HO
    · rw [if_neg h2] at HO ⊢
      by_cases h4 : fm = 4
      · rw [if_pos h4] at HO ⊢
        exact pclock_G fm 1 100 2 46 false l (by omega) (by omega) hl w HO
      · rw [if_neg h4] at HO ⊢
        exact pclock_kind fm _ _ _ _ _ l w HO
end Go.Proofs.YtaipdckakgohjaaGreatDoor

/- surtitleref5: Timed. -/
namespace Go.Proofs.YtaipdckakgohjaaGreatDoor
open Go.RowKit Go.Shelf
attribute [local go_sem] Oper.semAt_some

set_option maxRecDepth 100000 in
theorem timed_out (N D : Int) (h : D < 1 ∨ 2147483648 < D ∨ N < -4611686018427387904 ∨ 4611686018427387904 < N) (w : World) :
    Calls Tryz.prog 43 #[.agg #[.int .i64 N, .int .i64 D]] w fun e w' => e = .returned (.int .i64 12) ∧ Below w.heap.size w w' := by
  rcases h with h | h | h | h
  all_goals (
    go_enter Tryz.func43, Tryz.ntmps43
    go_wp2_with fail)
  all_goals (go_ret; exact ⟨rfl, bel1 w _⟩)
set_option maxRecDepth 100000 in
set_option maxHeartbeats 1000000 in
theorem timed_neg (N D a g : Int) (h1 : 1 ≤ D) (h2 : D ≤ 2147483648) (h3 : -4611686018427387904 ≤ N) (h4 : N ≤ 4611686018427387904) (hN : N < 0) (ha : 0 - N = a) (w : World)
    (HC : ∀ w, Calls Tryz.prog 53 #[.int .i64 a, .int .i64 D] w fun e w' => e = .returned (.int .i64 g) ∧ ∃ m, w' = w.drewN m) :
    Calls Tryz.prog 43 #[.agg #[.int .i64 N, .int .i64 D]] w fun e w' => e = .returned (.int .i64 (if g = 1 ∧ D ≤ 1048576 then 31 else 12)) ∧ Below w.heap.size w w' := by
  have HC := hideR HC
  by_cases c1 : g = 1
  · subst c1
    by_cases c2 : D ≤ 1048576
    · rw [if_pos ⟨rfl, c2⟩]
      go_enter Tryz.func43, Tryz.ntmps43
      go_wp2_with fail
      go_at_call 53
      refine (HC.out _).mono ?_
      rintro e w1 ⟨rfl, m, rfl⟩
      have A1 := (Two.new w (.int .i64 N) (.int .i64 D) 24).keep (below_drewN (Below.refl _ (w.alloc (.cells #[.int .i64 N, .int .i64 D] 24))) m)
      have B1 := below_drewN (bel1 w (.cells #[.int .i64 N, .int .i64 D] 24)) m
      generalize (w.alloc (.cells #[.int .i64 N, .int .i64 D] 24)).drewN m = V at *
      obtain ⟨_, a0, a1, _, _⟩ := id A1
      go_wp2_with fail
      go_ret
      exact ⟨rfl, B1⟩
    · rw [if_neg fun h => c2 h.2]
      have c3 : 1048576 < D := by omega
      go_enter Tryz.func43, Tryz.ntmps43
      go_wp2_with fail
      go_at_call 53
      refine (HC.out _).mono ?_
      rintro e w1 ⟨rfl, m, rfl⟩
      have A1 := (Two.new w (.int .i64 N) (.int .i64 D) 24).keep (below_drewN (Below.refl _ (w.alloc (.cells #[.int .i64 N, .int .i64 D] 24))) m)
      have B1 := below_drewN (bel1 w (.cells #[.int .i64 N, .int .i64 D] 24)) m
      generalize (w.alloc (.cells #[.int .i64 N, .int .i64 D] 24)).drewN m = V at *
      obtain ⟨_, a0, a1, _, _⟩ := id A1
      go_wp2_with fail
      go_ret
      exact ⟨rfl, B1⟩
  · rw [if_neg fun h => c1 h.1]
    have x1 : (g == 1) = false := by simpa using c1
    have x2 : (g != 1) = true := by simpa using c1
    go_enter Tryz.func43, Tryz.ntmps43
    go_wp2_with fail
    go_at_call 53
    refine (HC.out _).mono ?_
    rintro e w1 ⟨rfl, m, rfl⟩
    have A1 := (Two.new w (.int .i64 N) (.int .i64 D) 24).keep (below_drewN (Below.refl _ (w.alloc (.cells #[.int .i64 N, .int .i64 D] 24))) m)
    have B1 := below_drewN (bel1 w (.cells #[.int .i64 N, .int .i64 D] 24)) m
    generalize (w.alloc (.cells #[.int .i64 N, .int .i64 D] 24)).drewN m = V at *
    obtain ⟨_, a0, a1, _, _⟩ := id A1
    go_wp2_with fail
    go_ret
    exact ⟨rfl, B1⟩
set_option maxRecDepth 100000 in
set_option maxHeartbeats 1000000 in
theorem timed_pos (N D g q r : Int) (h1 : 1 ≤ D) (h2 : D ≤ 2147483648) (h4 : N ≤ 4611686018427387904) (hN : 0 ≤ N) (hq : N / D = q) (hr : N % D = r) (hq0 : 0 ≤ q ∧ q ≤ 4611686018427387904) (w : World)
    (HC : ∀ w, Calls Tryz.prog 53 #[.int .i64 N, .int .i64 D] w fun e w' => e = .returned (.int .i64 g) ∧ ∃ m, w' = w.drewN m) :
    Calls Tryz.prog 43 #[.agg #[.int .i64 N, .int .i64 D]] w fun e w' => e = .returned (.int .i64 (if g = 1 ∧ D ≤ 1048576 then (if 360000 < q ∨ q = 360000 ∧ r ≠ 0 then 31 else 0) else 12)) ∧ Below w.heap.size w w' := by
  have HC := hideR HC
  by_cases c1 : g = 1
  · subst c1
    by_cases c2 : D ≤ 1048576
    · rw [if_pos ⟨rfl, c2⟩]
      by_cases c4 : 360000 < q
      · rw [if_pos (.inl c4)]
        go_enter Tryz.func43, Tryz.ntmps43
        go_wp2_with fail
        go_at_call 53
        refine (HC.out _).mono ?_
        rintro e w1 ⟨rfl, m, rfl⟩
        have A1 := (Two.new w (.int .i64 N) (.int .i64 D) 24).keep (below_drewN (Below.refl _ (w.alloc (.cells #[.int .i64 N, .int .i64 D] 24))) m)
        have B1 := below_drewN (bel1 w (.cells #[.int .i64 N, .int .i64 D] 24)) m
        generalize (w.alloc (.cells #[.int .i64 N, .int .i64 D] 24)).drewN m = V at *
        obtain ⟨_, a0, a1, _, _⟩ := id A1
        go_wp2_with fail
        go_ret
        exact ⟨rfl, B1⟩
      · by_cases c5 : q = 360000
        · by_cases c6 : r = 0
          · rw [if_neg (by omega)]
            have y1 : N / D = 360000 := hq.trans c5
            have y2 : N % D = 0 := hr.trans c6
            go_enter Tryz.func43, Tryz.ntmps43
            go_wp2_with fail
            go_at_call 53
            refine (HC.out _).mono ?_
            rintro e w1 ⟨rfl, m, rfl⟩
            have A1 := (Two.new w (.int .i64 N) (.int .i64 D) 24).keep (below_drewN (Below.refl _ (w.alloc (.cells #[.int .i64 N, .int .i64 D] 24))) m)
            have B1 := below_drewN (bel1 w (.cells #[.int .i64 N, .int .i64 D] 24)) m
            generalize (w.alloc (.cells #[.int .i64 N, .int .i64 D] 24)).drewN m = V at *
            obtain ⟨_, a0, a1, _, _⟩ := id A1
            go_wp2_with fail
            go_ret
            exact ⟨rfl, B1⟩
          · rw [if_pos (.inr ⟨c5, c6⟩)]
            have y1 : N / D = 360000 := hq.trans c5
            have y2 : (r == 0) = false := by simpa using c6
            have y3 : (r != 0) = true := by simpa using c6
            go_enter Tryz.func43, Tryz.ntmps43
            go_wp2_with fail
            go_at_call 53
            refine (HC.out _).mono ?_
            rintro e w1 ⟨rfl, m, rfl⟩
            have A1 := (Two.new w (.int .i64 N) (.int .i64 D) 24).keep (below_drewN (Below.refl _ (w.alloc (.cells #[.int .i64 N, .int .i64 D] 24))) m)
            have B1 := below_drewN (bel1 w (.cells #[.int .i64 N, .int .i64 D] 24)) m
            generalize (w.alloc (.cells #[.int .i64 N, .int .i64 D] 24)).drewN m = V at *
            obtain ⟨_, a0, a1, _, _⟩ := id A1
            go_wp2_with fail
            go_ret
            exact ⟨rfl, B1⟩
        · rw [if_neg (by omega)]
          have y1 : (q == 360000) = false := by simpa using c5
          have y4 : q < 360000 := by omega
          go_enter Tryz.func43, Tryz.ntmps43
          go_wp2_with fail
          go_at_call 53
          refine (HC.out _).mono ?_
          rintro e w1 ⟨rfl, m, rfl⟩
          have A1 := (Two.new w (.int .i64 N) (.int .i64 D) 24).keep (below_drewN (Below.refl _ (w.alloc (.cells #[.int .i64 N, .int .i64 D] 24))) m)
          have B1 := below_drewN (bel1 w (.cells #[.int .i64 N, .int .i64 D] 24)) m
          generalize (w.alloc (.cells #[.int .i64 N, .int .i64 D] 24)).drewN m = V at *
          obtain ⟨_, a0, a1, _, _⟩ := id A1
          go_wp2_with fail
          go_ret
          exact ⟨rfl, B1⟩
    · rw [if_neg fun h => c2 h.2]
      have c3 : 1048576 < D := by omega
      go_enter Tryz.func43, Tryz.ntmps43
      go_wp2_with fail
      go_at_call 53
      refine (HC.out _).mono ?_
      rintro e w1 ⟨rfl, m, rfl⟩
      have A1 := (Two.new w (.int .i64 N) (.int .i64 D) 24).keep (below_drewN (Below.refl _ (w.alloc (.cells #[.int .i64 N, .int .i64 D] 24))) m)
      have B1 := below_drewN (bel1 w (.cells #[.int .i64 N, .int .i64 D] 24)) m
      generalize (w.alloc (.cells #[.int .i64 N, .int .i64 D] 24)).drewN m = V at *
      obtain ⟨_, a0, a1, _, _⟩ := id A1
      go_wp2_with fail
      go_ret
      exact ⟨rfl, B1⟩
  · rw [if_neg fun h => c1 h.1]
    have x1 : (g == 1) = false := by simpa using c1
    have x2 : (g != 1) = true := by simpa using c1
    go_enter Tryz.func43, Tryz.ntmps43
    go_wp2_with fail
    go_at_call 53
    refine (HC.out _).mono ?_
    rintro e w1 ⟨rfl, m, rfl⟩
    have A1 := (Two.new w (.int .i64 N) (.int .i64 D) 24).keep (below_drewN (Below.refl _ (w.alloc (.cells #[.int .i64 N, .int .i64 D] 24))) m)
    have B1 := below_drewN (bel1 w (.cells #[.int .i64 N, .int .i64 D] 24)) m
    generalize (w.alloc (.cells #[.int .i64 N, .int .i64 D] 24)).drewN m = V at *
    obtain ⟨_, a0, a1, _, _⟩ := id A1
    go_wp2_with fail
    go_ret
    exact ⟨rfl, B1⟩
theorem timed_any (t : Rt) (w : World) :
    Calls Tryz.prog 43 #[rtv t] w fun e w' => e = .returned (.int .i64 (timeA t)) ∧ Below w.heap.size w w' := by
  have ri := right_iff t
  by_cases h : t.D < 1 ∨ 2147483648 < t.D ∨ t.N < -4611686018427387904 ∨ 4611686018427387904 < t.N
  · have e : timeA t = 12 := by
      unfold timeA
      rw [if_neg fun c => by have := ri.1 c.1; omega]
    rw [e]
    exact timed_out t.N t.D h w
  · have HC : ∀ w, Calls Tryz.prog 53 #[.int .i64 (t.N.natAbs : Nat), .int .i64 t.D] w fun e w' => e = .returned (.int .i64 (t.N.natAbs.gcd t.D.natAbs : Nat)) ∧ ∃ m, w' = w.drewN m := fun w => by
      have := common5_any t.N.natAbs t.D.natAbs (by omega) (by omega) w
      rwa [show ((t.D.natAbs : Nat) : Int) = t.D by omega] at this
    have rg : rightB t = true ↔ ((t.N.natAbs.gcd t.D.natAbs : Nat) : Int) = 1 := by
      rw [ri]
      constructor
      · intro h; have := h.2.2.2.2; omega
      · intro h; exact ⟨by omega, by omega, by omega, by omega, by omega⟩
    by_cases hN : t.N < 0
    · have := timed_neg t.N t.D _ _ (by omega) (by omega) (by omega) (by omega) hN rfl w (by rw [show 0 - t.N = ((t.N.natAbs : Nat) : Int) by omega]; exact HC)
      unfold timeA
      by_cases c : rightB t = true ∧ t.D ≤ 1048576
      · rw [if_pos c, if_pos (.inl hN)]
        rw [if_pos ⟨rg.1 c.1, c.2⟩] at this
        exact this
      · rw [if_neg c]
        rw [if_neg fun x => c ⟨rg.2 x.1, x.2⟩] at this
        exact this
    · have := timed_pos t.N t.D _ _ _ (by omega) (by omega) (by omega) (by omega) rfl rfl ⟨Int.ediv_nonneg (by omega) (by omega), Int.le_trans (Int.ediv_le_self _ (by omega)) (by omega)⟩ w (by rw [show ((t.N.natAbs : Nat) : Int) = t.N by omega] at HC; exact HC)
      unfold timeA
      by_cases c : rightB t = true ∧ t.D ≤ 1048576
      · rw [if_pos c]
        rw [if_pos ⟨rg.1 c.1, c.2⟩] at this
        have hc : (t.N < 0 ∨ 0 < cmpI t ⟨360000, 1⟩) ↔ (360000 < t.N / t.D ∨ t.N / t.D = 360000 ∧ t.N % t.D ≠ 0) := by
          have dm := Int.mul_ediv_add_emod t.N t.D
          have m0 := Int.emod_nonneg t.N (show t.D ≠ 0 by omega)
          have m1 := Int.emod_lt_of_pos t.N (show 0 < t.D by omega)
          have l1 : 360000 < t.N / t.D ↔ 360001 * t.D ≤ t.N := by
            rw [← Int.le_ediv_iff_mul_le (show 0 < t.D by omega)]
            omega
          have l2 : 360000 ≤ t.N / t.D ↔ 360000 * t.D ≤ t.N := by
            rw [← Int.le_ediv_iff_mul_le (show 0 < t.D by omega)]
          have cm : 0 < cmpI t ⟨360000, 1⟩ ↔ 360000 * t.D < t.N := by
            unfold cmpI
            simp only [Int.mul_one]
            split
            · omega
            · split <;> omega
          constructor
          · rintro (h | h)
            · exact absurd h hN
            · have := cm.1 h
              by_cases hq : 360000 < t.N / t.D
              · exact .inl hq
              · have e : t.N / t.D = 360000 := by omega
                refine .inr ⟨e, fun z => ?_⟩
                rw [e, z] at dm
                omega
          · rintro (h | ⟨h1, h2⟩)
            · exact .inr (cm.2 (by have := l1.1 h; omega))
            · refine .inr (cm.2 ?_)
              rw [h1] at dm
              omega
        by_cases c2 : t.N < 0 ∨ 0 < cmpI t ⟨360000, 1⟩
        · rw [if_pos c2]
          rw [if_pos (hc.1 c2)] at this
          exact this
        · rw [if_neg c2]
          rw [if_neg fun x => c2 (hc.2 x)] at this
          exact this
      · rw [if_neg c]
        rw [if_neg fun x => c ⟨rg.2 x.1, x.2⟩] at this
        exact this
end Go.Proofs.YtaipdckakgohjaaGreatDoor

/- surtitleref5: grid, Clock. -/
namespace Go.Proofs.YtaipdckakgohjaaGreatDoor
open Go.RowKit Go.Shelf
attribute [local go_sem] Oper.semAt_some bs_toList

def gridG (fm : Int) : Int := if fm = 1 ∨ fm = 2 then 1000 else if fm = 4 then 100 else 0
set_option maxRecDepth 100000 in
theorem rgrid_any (fm : Int) (w : World) :
    Calls Tryz.prog 28 #[.int .i64 fm] w fun e w' => e = .returned (.int .i64 (gridG fm)) ∧ w' = w := by
  unfold gridG
  by_cases h1 : fm = 1
  · subst h1
    rw [if_pos (.inl rfl)]
    go_enter Tryz.func28, Tryz.ntmps28
    go_wp2_with fail
    go_ret
    exact ⟨rfl, rfl⟩
  · by_cases h2 : fm = 2
    · subst h2
      rw [if_pos (.inr rfl)]
      go_enter Tryz.func28, Tryz.ntmps28
      go_wp2_with fail
      go_ret
      exact ⟨rfl, rfl⟩
    · rw [if_neg (by omega)]
      by_cases h4 : fm = 4
      · subst h4
        rw [if_pos rfl]
        go_enter Tryz.func28, Tryz.ntmps28
        go_wp2_with fail
        go_ret
        exact ⟨rfl, rfl⟩
      · rw [if_neg h4]
        have x1 : (fm == 1) = false := by simpa using h1
        have x2 : (fm == 2) = false := by simpa using h2
        have x4 : (fm == 4) = false := by simpa using h4
        go_enter Tryz.func28, Tryz.ntmps28
        go_wp2_with fail
        go_ret
        exact ⟨rfl, rfl⟩
theorem rgridB (fm : Int) (w : World) :
    Calls Tryz.prog 28 #[.int .i64 fm] w fun e w' => e = .returned (.int .i64 (gridG fm)) ∧ Below w.heap.size w w' :=
  (rgrid_any fm w).mono fun _ _ ⟨he, hw⟩ => ⟨he, hw ▸ Below.refl _ _⟩
set_option maxRecDepth 100000 in
set_option maxHeartbeats 2000000 in
theorem rclock_kind (fm N D : Int) (w : World)
    (HG : ∀ w, Calls Tryz.prog 28 #[.int .i64 fm] w fun e w' => e = .returned (.int .i64 0) ∧ Below w.heap.size w w') :
    Calls Tryz.prog 12 #[.int .i64 fm, .agg #[.int .i64 N, .int .i64 D]] w fun e w' => e = .returned (.tuple #[.string ⟨#[]⟩, .int .i64 5]) ∧ Below w.heap.size w w' := by
  have HG := hideR HG
  go_enter Tryz.func12, Tryz.ntmps12
  go_wp2_with fail
  go_at_call 28
  refine (HG.out _).mono ?_
  rintro e w1 ⟨rfl, b1⟩
  have X1 := ((Two.new w (.int .i64 N) (.int .i64 D) 24).keep b1)
  have B1 := bup (bel1 w _) b1
  clear b1
  obtain ⟨_, x0, x1, x2, x3⟩ := id X1
  go_wp2_with fail
  exact bodyPost_ret (v := .tuple #[.string ⟨#[]⟩, .int .i64 5]) (by simp [results, Tryz.results12, go_sem]) rfl ⟨rfl, by first | exact B1 | exact (B1.setCell (by simp) _).setCell (by simp) _⟩
set_option maxRecDepth 100000 in
set_option maxHeartbeats 2000000 in
theorem rclock_out (fm N D g te : Int) (hg : (g == 0) = false) (ht : (te == 0) = false) (w : World)
    (HG : ∀ w, Calls Tryz.prog 28 #[.int .i64 fm] w fun e w' => e = .returned (.int .i64 g) ∧ Below w.heap.size w w')
    (HT : ∀ w, Calls Tryz.prog 43 #[.agg #[.int .i64 N, .int .i64 D]] w fun e w' => e = .returned (.int .i64 te) ∧ Below w.heap.size w w') :
    Calls Tryz.prog 12 #[.int .i64 fm, .agg #[.int .i64 N, .int .i64 D]] w fun e w' => e = .returned (.tuple #[.string ⟨#[]⟩, .int .i64 te]) ∧ Below w.heap.size w w' := by
  have HG := hideR HG
  have HT := hideR HT
  go_enter Tryz.func12, Tryz.ntmps12
  go_wp2_with fail
  go_at_call 28
  refine (HG.out _).mono ?_
  rintro e w1 ⟨rfl, b1⟩
  have X1 := ((Two.new w (.int .i64 N) (.int .i64 D) 24).keep b1)
  have B1 := bup (bel1 w _) b1
  clear b1
  obtain ⟨_, x0, x1, x2, x3⟩ := id X1
  go_wp2_with fail
  go_at_call 43
  refine (HT.out _).mono ?_
  rintro e w2 ⟨rfl, b2⟩
  have X2 := (X1.keep b2)
  have B2 := bup B1 b2
  clear X1 B1 x0 x1 x2 x3
  clear b2
  obtain ⟨_, x0, x1, x2, x3⟩ := id X2
  go_wp2_with fail
  exact bodyPost_ret (v := .tuple #[.string ⟨#[]⟩, .int .i64 te]) (by simp [results, Tryz.results12, go_sem]) rfl ⟨rfl, by first | exact B2 | exact (B2.setCell (by simp) _).setCell (by simp) _⟩
set_option maxRecDepth 100000 in
set_option maxHeartbeats 2000000 in
theorem rclock_arg (fm N D g q : Int) (hg : (g == 0) = false) (hg0 : 0 ≤ g ∧ g ≤ 1000) (hD : 1 ≤ D ∧ D ≤ 1048576) (hq : g % D = q) (hq2 : (q != 0) = true) (w : World)
    (HG : ∀ w, Calls Tryz.prog 28 #[.int .i64 fm] w fun e w' => e = .returned (.int .i64 g) ∧ Below w.heap.size w w')
    (HT : ∀ w, Calls Tryz.prog 43 #[.agg #[.int .i64 N, .int .i64 D]] w fun e w' => e = .returned (.int .i64 0) ∧ Below w.heap.size w w') :
    Calls Tryz.prog 12 #[.int .i64 fm, .agg #[.int .i64 N, .int .i64 D]] w fun e w' => e = .returned (.tuple #[.string ⟨#[]⟩, .int .i64 1]) ∧ Below w.heap.size w w' := by
  have HG := hideR HG
  have HT := hideR HT
  go_enter Tryz.func12, Tryz.ntmps12
  go_wp2_with fail
  go_at_call 28
  refine (HG.out _).mono ?_
  rintro e w1 ⟨rfl, b1⟩
  have X1 := ((Two.new w (.int .i64 N) (.int .i64 D) 24).keep b1)
  have B1 := bup (bel1 w _) b1
  clear b1
  obtain ⟨_, x0, x1, x2, x3⟩ := id X1
  go_wp2_with fail
  go_at_call 43
  refine (HT.out _).mono ?_
  rintro e w2 ⟨rfl, b2⟩
  have X2 := (X1.keep b2)
  have B2 := bup B1 b2
  clear X1 B1 x0 x1 x2 x3
  clear b2
  obtain ⟨_, x0, x1, x2, x3⟩ := id X2
  go_wp2_with fail
  exact bodyPost_ret (v := .tuple #[.string ⟨#[]⟩, .int .i64 1]) (by simp [results, Tryz.results12, go_sem]) rfl ⟨rfl, by first | exact B2 | exact (B2.setCell (by simp) _).setCell (by simp) _⟩
set_option maxRecDepth 100000 in
set_option maxHeartbeats 2000000 in
theorem rclock_1 (N D n k s v h m c r : Nat) (a b t l : List UInt8) (la : a.length ≤ 100) (lb : b.length ≤ 100) (lt : t.length ≤ 100) (ll : l.length ≤ 100) (hD : 1 ≤ D ∧ D ≤ 1048576) (h0 : (1000 : Int) % (D : Int) = 0) (hk : (1000 : Int) / (D : Int) = (k : Int)) (hn : (N : Int) * (k : Int) = (n : Int)) (hn1 : n ≤ 1000000000000) (hs : (n : Int) / 1000 = (s : Int)) (hh : (s : Int) / 3600 = (h : Int)) (hv : (s : Int) / 60 = (v : Int)) (hm : (v : Int) % 60 = (m : Int)) (hc : (s : Int) % 60 = (c : Int)) (hr : (n : Int) % 1000 = (r : Int)) (w : World)
    (HG : ∀ w, Calls Tryz.prog 28 #[.int .i64 1] w fun e w' => e = .returned (.int .i64 1000) ∧ Below w.heap.size w w')
    (HT : ∀ w, Calls Tryz.prog 43 #[.agg #[.int .i64 N, .int .i64 D]] w fun e w' => e = .returned (.int .i64 0) ∧ Below w.heap.size w w')
    (D1 : ∀ w, Calls Tryz.prog 41 #[.int .i64 h, .int .i64 2] w fun e w' => e = .returned (.string (bs a)) ∧ Below w.heap.size w w')
    (D2 : ∀ w, Calls Tryz.prog 41 #[.int .i64 m, .int .i64 2] w fun e w' => e = .returned (.string (bs b)) ∧ Below w.heap.size w w')
    (D3 : ∀ w, Calls Tryz.prog 41 #[.int .i64 c, .int .i64 2] w fun e w' => e = .returned (.string (bs t)) ∧ Below w.heap.size w w')
    (D4 : ∀ w, Calls Tryz.prog 41 #[.int .i64 r, .int .i64 3] w fun e w' => e = .returned (.string (bs l)) ∧ Below w.heap.size w w') :
    Calls Tryz.prog 12 #[.int .i64 1, .agg #[.int .i64 N, .int .i64 D]] w fun e w' => e = .returned (.tuple #[.string (bs (a ++ [58] ++ b ++ [58] ++ t ++ [44] ++ l)), .int .i64 0]) ∧ Below w.heap.size w w' := by
  have HG := hideR HG
  have HT := hideR HT
  have D1 := hideR D1
  have D2 := hideR D2
  have D3 := hideR D3
  have D4 := hideR D4
  have zq : ∀ w, (Op.intDiv .quo .i64 1000 D).run Tryz.prog w = .ok (.int .i64 k) w := fun w => by
    unfold Op.intDiv
    rw [if_neg (by omega), Int.tdiv_eq_ediv_of_nonneg (by omega), hk]
    exact congrArg (fun z => Result.ok (Value.int .i64 z) w) (by rw [IntKind.wrap_i64]; have : (1000 : Int) / (D : Int) ≤ 1000 := Int.ediv_le_self _ (by omega); omega)
  have wn : IntKind.i64.wrap ((N : Int) * (k : Int)) = (n : Int) := by rw [hn, IntKind.wrap_i64]; omega
  have zv : (s : Int).tdiv 60 = (v : Int) := by rw [Int.tdiv_eq_ediv_of_nonneg (by omega), hv]
  have zw : IntKind.i64.wrap (v : Int) = (v : Int) := by rw [IntKind.wrap_i64]; omega
  have zm : (v : Int).tmod 60 = (m : Int) := by rw [Int.tmod_eq_emod_of_nonneg (by omega), hm]
  have zc : (s : Int).tmod 60 = (c : Int) := by rw [Int.tmod_eq_emod_of_nonneg (by omega), hc]
  have zr : (n : Int).tmod 1000 = (r : Int) := by rw [Int.tmod_eq_emod_of_nonneg (by omega), hr]
  have ad0 : ∀ w, (Op.stringOp .add (bs a) ⟨#[58]⟩).run Tryz.prog w = .ok (.string (bs (a ++ [58]))) w := fun w => by
    have := run_string_add_sum (P := Tryz.prog) w (bs a) (bs [58]) (by rw [bs_size, bs_size]; simp; omega)
    rw [bs_append] at this
    exact this
  have ad1 : ∀ w, (Op.stringOp .add (bs (a ++ [58])) (bs b)).run Tryz.prog w = .ok (.string (bs ((a ++ [58]) ++ b))) w := fun w => by
    have := run_string_add_sum (P := Tryz.prog) w (bs (a ++ [58])) (bs b) (by rw [bs_size, bs_size]; simp; omega)
    rw [bs_append] at this
    exact this
  have ad2 : ∀ w, (Op.stringOp .add (bs (a ++ [58] ++ b)) ⟨#[58]⟩).run Tryz.prog w = .ok (.string (bs ((a ++ [58] ++ b) ++ [58]))) w := fun w => by
    have := run_string_add_sum (P := Tryz.prog) w (bs (a ++ [58] ++ b)) (bs [58]) (by rw [bs_size, bs_size]; simp; omega)
    rw [bs_append] at this
    exact this
  have ad3 : ∀ w, (Op.stringOp .add (bs (a ++ [58] ++ b ++ [58])) (bs t)).run Tryz.prog w = .ok (.string (bs ((a ++ [58] ++ b ++ [58]) ++ t))) w := fun w => by
    have := run_string_add_sum (P := Tryz.prog) w (bs (a ++ [58] ++ b ++ [58])) (bs t) (by rw [bs_size, bs_size]; simp; omega)
    rw [bs_append] at this
    exact this
  have ad4 : ∀ w, (Op.stringOp .add (bs (a ++ [58] ++ b ++ [58] ++ t)) ⟨#[44]⟩).run Tryz.prog w = .ok (.string (bs ((a ++ [58] ++ b ++ [58] ++ t) ++ [44]))) w := fun w => by
    have := run_string_add_sum (P := Tryz.prog) w (bs (a ++ [58] ++ b ++ [58] ++ t)) (bs [44]) (by rw [bs_size, bs_size]; simp; omega)
    rw [bs_append] at this
    exact this
  have ad5 : ∀ w, (Op.stringOp .add (bs (a ++ [58] ++ b ++ [58] ++ t ++ [44])) (bs l)).run Tryz.prog w = .ok (.string (bs ((a ++ [58] ++ b ++ [58] ++ t ++ [44]) ++ l))) w := fun w => by
    have := run_string_add_sum (P := Tryz.prog) w (bs (a ++ [58] ++ b ++ [58] ++ t ++ [44])) (bs l) (by rw [bs_size, bs_size]; simp; omega)
    rw [bs_append] at this
    exact this
  generalize bs (a ++ [58]) = y0 at *
  generalize bs ((a ++ [58]) ++ b) = y1 at *
  generalize bs ((a ++ [58] ++ b) ++ [58]) = y2 at *
  generalize bs ((a ++ [58] ++ b ++ [58]) ++ t) = y3 at *
  generalize bs ((a ++ [58] ++ b ++ [58] ++ t) ++ [44]) = y4 at *
  generalize bs ((a ++ [58] ++ b ++ [58] ++ t ++ [44]) ++ l) = y5 at *
  go_enter Tryz.func12, Tryz.ntmps12
  go_wp2_with fail
  go_at_call 28
  refine (HG.out _).mono ?_
  rintro e w1 ⟨rfl, b1⟩
  have X1 := ((Two.new w (.int .i64 N) (.int .i64 D) 24).keep b1)
  have B1 := bup (bel1 w _) b1
  clear b1
  obtain ⟨_, x0, x1, x2, x3⟩ := id X1
  go_wp2_with fail
  go_at_call 43
  refine (HT.out _).mono ?_
  rintro e w2 ⟨rfl, b2⟩
  have X2 := (X1.keep b2)
  have B2 := bup B1 b2
  clear X1 B1 x0 x1 x2 x3
  clear b2
  obtain ⟨_, x0, x1, x2, x3⟩ := id X2
  go_wp2_with fail
  go_quiet (fail)
  have B3 := below_drewN B2 nq
  clear B2 X2 x0 x1 x2 x3
  generalize w2.drewN nq = V at *
  go_wp2_with fail
  go_at_call 41
  refine (D1.out _).mono ?_
  rintro e w4 ⟨rfl, b4⟩
  have B4 := bup B3 b4
  clear b4
  go_wp2_with fail
  go_region_held3 (fun _ => True) (exact trivial)
    (first
    | (go_at_call_of 41 m; refine (D2.out _).mono ?_; rintro e w6 ⟨rfl, b6⟩; have B6 := bup B4.drew b6)
    | (go_at_call_of 41 c; refine (D3.out _).mono ?_; rintro e w7 ⟨rfl, b7⟩; have B7 := bup B6 b7)
    | (go_at_call_of 41 r; refine (D4.out _).mono ?_; rintro e w8 ⟨rfl, b8⟩; have B8 := bup B7 b8))
  all_goals (try go_wp2_with fail)
  all_goals (go_ret2; exact ⟨rfl, B8⟩)
set_option maxRecDepth 100000 in
set_option maxHeartbeats 2000000 in
theorem rclock_2 (N D n k s v h m c r : Nat) (a b t l : List UInt8) (la : a.length ≤ 100) (lb : b.length ≤ 100) (lt : t.length ≤ 100) (ll : l.length ≤ 100) (hD : 1 ≤ D ∧ D ≤ 1048576) (h0 : (1000 : Int) % (D : Int) = 0) (hk : (1000 : Int) / (D : Int) = (k : Int)) (hn : (N : Int) * (k : Int) = (n : Int)) (hn1 : n ≤ 1000000000000) (hs : (n : Int) / 1000 = (s : Int)) (hh : (s : Int) / 3600 = (h : Int)) (hv : (s : Int) / 60 = (v : Int)) (hm : (v : Int) % 60 = (m : Int)) (hc : (s : Int) % 60 = (c : Int)) (hr : (n : Int) % 1000 = (r : Int)) (w : World)
    (HG : ∀ w, Calls Tryz.prog 28 #[.int .i64 2] w fun e w' => e = .returned (.int .i64 1000) ∧ Below w.heap.size w w')
    (HT : ∀ w, Calls Tryz.prog 43 #[.agg #[.int .i64 N, .int .i64 D]] w fun e w' => e = .returned (.int .i64 0) ∧ Below w.heap.size w w')
    (D1 : ∀ w, Calls Tryz.prog 41 #[.int .i64 h, .int .i64 2] w fun e w' => e = .returned (.string (bs a)) ∧ Below w.heap.size w w')
    (D2 : ∀ w, Calls Tryz.prog 41 #[.int .i64 m, .int .i64 2] w fun e w' => e = .returned (.string (bs b)) ∧ Below w.heap.size w w')
    (D3 : ∀ w, Calls Tryz.prog 41 #[.int .i64 c, .int .i64 2] w fun e w' => e = .returned (.string (bs t)) ∧ Below w.heap.size w w')
    (D4 : ∀ w, Calls Tryz.prog 41 #[.int .i64 r, .int .i64 3] w fun e w' => e = .returned (.string (bs l)) ∧ Below w.heap.size w w') :
    Calls Tryz.prog 12 #[.int .i64 2, .agg #[.int .i64 N, .int .i64 D]] w fun e w' => e = .returned (.tuple #[.string (bs (a ++ [58] ++ b ++ [58] ++ t ++ [46] ++ l)), .int .i64 0]) ∧ Below w.heap.size w w' := by
  have HG := hideR HG
  have HT := hideR HT
  have D1 := hideR D1
  have D2 := hideR D2
  have D3 := hideR D3
  have D4 := hideR D4
  have zq : ∀ w, (Op.intDiv .quo .i64 1000 D).run Tryz.prog w = .ok (.int .i64 k) w := fun w => by
    unfold Op.intDiv
    rw [if_neg (by omega), Int.tdiv_eq_ediv_of_nonneg (by omega), hk]
    exact congrArg (fun z => Result.ok (Value.int .i64 z) w) (by rw [IntKind.wrap_i64]; have : (1000 : Int) / (D : Int) ≤ 1000 := Int.ediv_le_self _ (by omega); omega)
  have wn : IntKind.i64.wrap ((N : Int) * (k : Int)) = (n : Int) := by rw [hn, IntKind.wrap_i64]; omega
  have zv : (s : Int).tdiv 60 = (v : Int) := by rw [Int.tdiv_eq_ediv_of_nonneg (by omega), hv]
  have zw : IntKind.i64.wrap (v : Int) = (v : Int) := by rw [IntKind.wrap_i64]; omega
  have zm : (v : Int).tmod 60 = (m : Int) := by rw [Int.tmod_eq_emod_of_nonneg (by omega), hm]
  have zc : (s : Int).tmod 60 = (c : Int) := by rw [Int.tmod_eq_emod_of_nonneg (by omega), hc]
  have zr : (n : Int).tmod 1000 = (r : Int) := by rw [Int.tmod_eq_emod_of_nonneg (by omega), hr]
  have ad0 : ∀ w, (Op.stringOp .add (bs a) ⟨#[58]⟩).run Tryz.prog w = .ok (.string (bs (a ++ [58]))) w := fun w => by
    have := run_string_add_sum (P := Tryz.prog) w (bs a) (bs [58]) (by rw [bs_size, bs_size]; simp; omega)
    rw [bs_append] at this
    exact this
  have ad1 : ∀ w, (Op.stringOp .add (bs (a ++ [58])) (bs b)).run Tryz.prog w = .ok (.string (bs ((a ++ [58]) ++ b))) w := fun w => by
    have := run_string_add_sum (P := Tryz.prog) w (bs (a ++ [58])) (bs b) (by rw [bs_size, bs_size]; simp; omega)
    rw [bs_append] at this
    exact this
  have ad2 : ∀ w, (Op.stringOp .add (bs (a ++ [58] ++ b)) ⟨#[58]⟩).run Tryz.prog w = .ok (.string (bs ((a ++ [58] ++ b) ++ [58]))) w := fun w => by
    have := run_string_add_sum (P := Tryz.prog) w (bs (a ++ [58] ++ b)) (bs [58]) (by rw [bs_size, bs_size]; simp; omega)
    rw [bs_append] at this
    exact this
  have ad3 : ∀ w, (Op.stringOp .add (bs (a ++ [58] ++ b ++ [58])) (bs t)).run Tryz.prog w = .ok (.string (bs ((a ++ [58] ++ b ++ [58]) ++ t))) w := fun w => by
    have := run_string_add_sum (P := Tryz.prog) w (bs (a ++ [58] ++ b ++ [58])) (bs t) (by rw [bs_size, bs_size]; simp; omega)
    rw [bs_append] at this
    exact this
  have ad4 : ∀ w, (Op.stringOp .add (bs (a ++ [58] ++ b ++ [58] ++ t)) ⟨#[46]⟩).run Tryz.prog w = .ok (.string (bs ((a ++ [58] ++ b ++ [58] ++ t) ++ [46]))) w := fun w => by
    have := run_string_add_sum (P := Tryz.prog) w (bs (a ++ [58] ++ b ++ [58] ++ t)) (bs [46]) (by rw [bs_size, bs_size]; simp; omega)
    rw [bs_append] at this
    exact this
  have ad5 : ∀ w, (Op.stringOp .add (bs (a ++ [58] ++ b ++ [58] ++ t ++ [46])) (bs l)).run Tryz.prog w = .ok (.string (bs ((a ++ [58] ++ b ++ [58] ++ t ++ [46]) ++ l))) w := fun w => by
    have := run_string_add_sum (P := Tryz.prog) w (bs (a ++ [58] ++ b ++ [58] ++ t ++ [46])) (bs l) (by rw [bs_size, bs_size]; simp; omega)
    rw [bs_append] at this
    exact this
  generalize bs (a ++ [58]) = y0 at *
  generalize bs ((a ++ [58]) ++ b) = y1 at *
  generalize bs ((a ++ [58] ++ b) ++ [58]) = y2 at *
  generalize bs ((a ++ [58] ++ b ++ [58]) ++ t) = y3 at *
  generalize bs ((a ++ [58] ++ b ++ [58] ++ t) ++ [46]) = y4 at *
  generalize bs ((a ++ [58] ++ b ++ [58] ++ t ++ [46]) ++ l) = y5 at *
  go_enter Tryz.func12, Tryz.ntmps12
  go_wp2_with fail
  go_at_call 28
  refine (HG.out _).mono ?_
  rintro e w1 ⟨rfl, b1⟩
  have X1 := ((Two.new w (.int .i64 N) (.int .i64 D) 24).keep b1)
  have B1 := bup (bel1 w _) b1
  clear b1
  obtain ⟨_, x0, x1, x2, x3⟩ := id X1
  go_wp2_with fail
  go_at_call 43
  refine (HT.out _).mono ?_
  rintro e w2 ⟨rfl, b2⟩
  have X2 := (X1.keep b2)
  have B2 := bup B1 b2
  clear X1 B1 x0 x1 x2 x3
  clear b2
  obtain ⟨_, x0, x1, x2, x3⟩ := id X2
  go_wp2_with fail
  go_quiet (fail)
  have B3 := below_drewN B2 nq
  clear B2 X2 x0 x1 x2 x3
  generalize w2.drewN nq = V at *
  go_wp2_with fail
  go_at_call 41
  refine (D1.out _).mono ?_
  rintro e w4 ⟨rfl, b4⟩
  have B4 := bup B3 b4
  clear b4
  go_wp2_with fail
  go_region_held3 (fun _ => True) (exact trivial)
    (first
    | (go_at_call_of 41 m; refine (D2.out _).mono ?_; rintro e w6 ⟨rfl, b6⟩; have B6 := bup B4.drew b6)
    | (go_at_call_of 41 c; refine (D3.out _).mono ?_; rintro e w7 ⟨rfl, b7⟩; have B7 := bup B6 b7)
    | (go_at_call_of 41 r; refine (D4.out _).mono ?_; rintro e w8 ⟨rfl, b8⟩; have B8 := bup B7 b8))
  all_goals (try go_wp2_with fail)
  all_goals (go_ret2; exact ⟨rfl, B8⟩)
set_option maxRecDepth 100000 in
set_option maxHeartbeats 2000000 in
theorem rclock_4 (N D n k s v h m c r : Nat) (a b t l u : List UInt8) (lu : u.length ≤ 100) (lb : b.length ≤ 100) (lt : t.length ≤ 100) (ll : l.length ≤ 100) (hD : 1 ≤ D ∧ D ≤ 1048576) (h0 : (100 : Int) % (D : Int) = 0) (hk : (100 : Int) / (D : Int) = (k : Int)) (hn : (N : Int) * (k : Int) = (n : Int)) (hn1 : n ≤ 1000000000000) (hs : (n : Int) / 100 = (s : Int)) (hh : (s : Int) / 3600 = (h : Int)) (hv : (s : Int) / 60 = (v : Int)) (hm : (v : Int) % 60 = (m : Int)) (hc : (s : Int) % 60 = (c : Int)) (hr : (n : Int) % 100 = (r : Int)) (w : World)
    (HG : ∀ w, Calls Tryz.prog 28 #[.int .i64 4] w fun e w' => e = .returned (.int .i64 100) ∧ Below w.heap.size w w')
    (HT : ∀ w, Calls Tryz.prog 43 #[.agg #[.int .i64 N, .int .i64 D]] w fun e w' => e = .returned (.int .i64 0) ∧ Below w.heap.size w w')
    (D1 : ∀ w, Calls Tryz.prog 41 #[.int .i64 h, .int .i64 2] w fun e w' => e = .returned (.string (bs a)) ∧ Below w.heap.size w w')
    (D2 : ∀ w, Calls Tryz.prog 41 #[.int .i64 m, .int .i64 2] w fun e w' => e = .returned (.string (bs b)) ∧ Below w.heap.size w w')
    (D3 : ∀ w, Calls Tryz.prog 41 #[.int .i64 c, .int .i64 2] w fun e w' => e = .returned (.string (bs t)) ∧ Below w.heap.size w w')
    (D4 : ∀ w, Calls Tryz.prog 41 #[.int .i64 r, .int .i64 2] w fun e w' => e = .returned (.string (bs l)) ∧ Below w.heap.size w w')
    (D5 : ∀ w, Calls Tryz.prog 41 #[.int .i64 h, .int .i64 1] w fun e w' => e = .returned (.string (bs u)) ∧ Below w.heap.size w w') :
    Calls Tryz.prog 12 #[.int .i64 4, .agg #[.int .i64 N, .int .i64 D]] w fun e w' => e = .returned (.tuple #[.string (bs (u ++ [58] ++ b ++ [58] ++ t ++ [46] ++ l)), .int .i64 0]) ∧ Below w.heap.size w w' := by
  have HG := hideR HG
  have HT := hideR HT
  have D1 := hideR D1
  have D2 := hideR D2
  have D3 := hideR D3
  have D4 := hideR D4
  have D5 := hideR D5
  have zq : ∀ w, (Op.intDiv .quo .i64 100 D).run Tryz.prog w = .ok (.int .i64 k) w := fun w => by
    unfold Op.intDiv
    rw [if_neg (by omega), Int.tdiv_eq_ediv_of_nonneg (by omega), hk]
    exact congrArg (fun z => Result.ok (Value.int .i64 z) w) (by rw [IntKind.wrap_i64]; have : (100 : Int) / (D : Int) ≤ 100 := Int.ediv_le_self _ (by omega); omega)
  have wn : IntKind.i64.wrap ((N : Int) * (k : Int)) = (n : Int) := by rw [hn, IntKind.wrap_i64]; omega
  have zv : (s : Int).tdiv 60 = (v : Int) := by rw [Int.tdiv_eq_ediv_of_nonneg (by omega), hv]
  have zw : IntKind.i64.wrap (v : Int) = (v : Int) := by rw [IntKind.wrap_i64]; omega
  have zm : (v : Int).tmod 60 = (m : Int) := by rw [Int.tmod_eq_emod_of_nonneg (by omega), hm]
  have zc : (s : Int).tmod 60 = (c : Int) := by rw [Int.tmod_eq_emod_of_nonneg (by omega), hc]
  have zr : (n : Int).tmod 100 = (r : Int) := by rw [Int.tmod_eq_emod_of_nonneg (by omega), hr]
  have ad0 : ∀ w, (Op.stringOp .add (bs u) ⟨#[58]⟩).run Tryz.prog w = .ok (.string (bs (u ++ [58]))) w := fun w => by
    have := run_string_add_sum (P := Tryz.prog) w (bs u) (bs [58]) (by rw [bs_size, bs_size]; simp; omega)
    rw [bs_append] at this
    exact this
  have ad1 : ∀ w, (Op.stringOp .add (bs (u ++ [58])) (bs b)).run Tryz.prog w = .ok (.string (bs ((u ++ [58]) ++ b))) w := fun w => by
    have := run_string_add_sum (P := Tryz.prog) w (bs (u ++ [58])) (bs b) (by rw [bs_size, bs_size]; simp; omega)
    rw [bs_append] at this
    exact this
  have ad2 : ∀ w, (Op.stringOp .add (bs (u ++ [58] ++ b)) ⟨#[58]⟩).run Tryz.prog w = .ok (.string (bs ((u ++ [58] ++ b) ++ [58]))) w := fun w => by
    have := run_string_add_sum (P := Tryz.prog) w (bs (u ++ [58] ++ b)) (bs [58]) (by rw [bs_size, bs_size]; simp; omega)
    rw [bs_append] at this
    exact this
  have ad3 : ∀ w, (Op.stringOp .add (bs (u ++ [58] ++ b ++ [58])) (bs t)).run Tryz.prog w = .ok (.string (bs ((u ++ [58] ++ b ++ [58]) ++ t))) w := fun w => by
    have := run_string_add_sum (P := Tryz.prog) w (bs (u ++ [58] ++ b ++ [58])) (bs t) (by rw [bs_size, bs_size]; simp; omega)
    rw [bs_append] at this
    exact this
  have ad4 : ∀ w, (Op.stringOp .add (bs (u ++ [58] ++ b ++ [58] ++ t)) ⟨#[46]⟩).run Tryz.prog w = .ok (.string (bs ((u ++ [58] ++ b ++ [58] ++ t) ++ [46]))) w := fun w => by
    have := run_string_add_sum (P := Tryz.prog) w (bs (u ++ [58] ++ b ++ [58] ++ t)) (bs [46]) (by rw [bs_size, bs_size]; simp; omega)
    rw [bs_append] at this
    exact this
  have ad5 : ∀ w, (Op.stringOp .add (bs (u ++ [58] ++ b ++ [58] ++ t ++ [46])) (bs l)).run Tryz.prog w = .ok (.string (bs ((u ++ [58] ++ b ++ [58] ++ t ++ [46]) ++ l))) w := fun w => by
    have := run_string_add_sum (P := Tryz.prog) w (bs (u ++ [58] ++ b ++ [58] ++ t ++ [46])) (bs l) (by rw [bs_size, bs_size]; simp; omega)
    rw [bs_append] at this
    exact this
  generalize bs (u ++ [58]) = y0 at *
  generalize bs ((u ++ [58]) ++ b) = y1 at *
  generalize bs ((u ++ [58] ++ b) ++ [58]) = y2 at *
  generalize bs ((u ++ [58] ++ b ++ [58]) ++ t) = y3 at *
  generalize bs ((u ++ [58] ++ b ++ [58] ++ t) ++ [46]) = y4 at *
  generalize bs ((u ++ [58] ++ b ++ [58] ++ t ++ [46]) ++ l) = y5 at *
  go_enter Tryz.func12, Tryz.ntmps12
  go_wp2_with fail
  go_at_call 28
  refine (HG.out _).mono ?_
  rintro e w1 ⟨rfl, b1⟩
  have X1 := ((Two.new w (.int .i64 N) (.int .i64 D) 24).keep b1)
  have B1 := bup (bel1 w _) b1
  clear b1
  obtain ⟨_, x0, x1, x2, x3⟩ := id X1
  go_wp2_with fail
  go_at_call 43
  refine (HT.out _).mono ?_
  rintro e w2 ⟨rfl, b2⟩
  have X2 := (X1.keep b2)
  have B2 := bup B1 b2
  clear X1 B1 x0 x1 x2 x3
  clear b2
  obtain ⟨_, x0, x1, x2, x3⟩ := id X2
  go_wp2_with fail
  go_quiet (fail)
  have B3 := below_drewN B2 nq
  clear B2 X2 x0 x1 x2 x3
  generalize w2.drewN nq = V at *
  go_wp2_with fail
  go_at_call 41
  refine (D1.out _).mono ?_
  rintro e w4 ⟨rfl, b4⟩
  have B4 := bup B3 b4
  clear b4
  go_wp2_with fail
  go_at_call 41
  refine (D5.out _).mono ?_
  rintro e w5 ⟨rfl, b5⟩
  have B4 := bup B4 b5
  clear b5
  go_wp2_with fail
  go_region_held3 (fun _ => True) (exact trivial)
    (first
    | (go_at_call_of 41 m; refine (D2.out _).mono ?_; rintro e w6 ⟨rfl, b6⟩; have B6 := bup B4.drew b6)
    | (go_at_call_of 41 c; refine (D3.out _).mono ?_; rintro e w7 ⟨rfl, b7⟩; have B7 := bup B6 b7)
    | (go_at_call_of 41 r; refine (D4.out _).mono ?_; rintro e w8 ⟨rfl, b8⟩; have B8 := bup B7 b8))
  all_goals (try go_wp2_with fail)
  all_goals (go_ret2; exact ⟨rfl, B8⟩)
end Go.Proofs.YtaipdckakgohjaaGreatDoor

/- surtitleref5.ParseClock at every text. -/
namespace Go.Proofs.YtaipdckakgohjaaGreatDoor
open Go.RowKit Go.Shelf

theorem drop_shift (p l : List UInt8) (k : Nat) : (p ++ l).drop (p.length + k) = l.drop k := by
  rw [List.drop_append, List.drop_of_length_le (by omega), Nat.add_sub_cancel_left]
  rfl
theorem mark_shift (c : UInt8) (p l : List UInt8) (k : Nat) (b : Bool) : markS c (p ++ l) (p.length + k) b = (p.length + (markS c l k b).1, (markS c l k b).2) := by
  unfold markS
  rw [List.getElem?_append_right (by omega), Nat.add_sub_cancel_left]
  split
  · simp only [Nat.add_assoc]
  · rfl
theorem rd_shift (m : Nat) (p l : List UInt8) (k : Nat) (b : Bool) : rdS m (p ++ l) (p.length + k) b = ((rdS m l k b).1, p.length + (rdS m l k b).2.1, (rdS m l k b).2.2) := by
  unfold rdS
  rw [drop_shift]
  split
  · simp only [Nat.add_assoc]
  · simp only [Nat.add_assoc]
theorem sx_shift (p l : List UInt8) (k : Nat) (b : Bool) : sxS (p ++ l) (p.length + k) b = ((sxS l k b).1, p.length + (sxS l k b).2.1, (sxS l k b).2.2) := by
  unfold sxS
  rw [rd_shift]
def chain2S (mk : UInt8) (dg : Nat) (l : List UInt8) : Chain :=
  let c3 := sxS l 0 false
  let c4 := markS 58 l c3.2.1 c3.2.2
  let c5 := sxS l c4.1 c4.2
  let c6 := markS mk l c5.2.1 c5.2.2
  let c7 := rdS dg l c6.1 c6.2
  ⟨0, c3.1, c5.1, c7.1, c7.2.1, c7.2.2⟩
theorem chain_short (mk : UInt8) (dg : Nat) (l : List UInt8) : chainS 2 mk dg ([48, 48, 58] ++ l) 0 = ⟨0, (chain2S mk dg l).m, (chain2S mk dg l).s, (chain2S mk dg l).x, 3 + (chain2S mk dg l).k, (chain2S mk dg l).b⟩ := by
  obtain ⟨e1, n1⟩ := hr_at 2 ([48, 48, 58] ++ l) [48, 48] l 0 false rfl rfl (Nat.le_refl _) (by decide) (fun x => absurd x (by decide))
  obtain ⟨e2, _⟩ := mark_at 58 ([48, 48, 58] ++ l) l _ false n1
  have e3 := sx_shift [48, 48, 58] l 0 false
  unfold chainS chain2S
  simp only [e1, e2]
  rw [show (0 + [(48 : UInt8), 48].length + 1) = [(48 : UInt8), 48, 58].length + 0 from rfl, e3]
  simp only [mark_shift, sx_shift, rd_shift]
  rfl
theorem read_nine (mk : UInt8) (per dg : Nat) (l : List UInt8) (h : l.length = 6 + dg) : readA 2 mk per dg true l = readA 2 mk per dg false ([48, 48, 58] ++ l) := by
  have e1 : l.length - 6 - dg = 0 := by omega
  have e2 : ([(48 : UInt8), 48, 58] ++ l).length = 3 + l.length := by rw [List.length_append]; rfl
  have e3 : ([(48 : UInt8), 48, 58] ++ l).length - 6 - dg = 3 := by omega
  have d : ∀ k, ([(48 : UInt8), 48, 58] ++ l).drop (3 + k) = l.drop k := fun k => drop_shift [48, 48, 58] l k
  have d3 : ([(48 : UInt8), 48, 58] ++ l).drop 3 = l := rfl
  have t3 : ([(48 : UInt8), 48, 58] ++ l).take 3 = [48, 48, 58] := rfl
  have h1 : hoursA 2 true [] = (0, true) := rfl
  have h2 : hoursA 2 false [48, 48, 58] = (0, true) := by decide
  unfold readA
  rw [e3, e1, e2, t3, d3]
  simp only [List.take_zero, List.drop_zero, Nat.zero_add, h1, h2, d]
  rw [if_neg (by omega), if_neg (show ¬ 3 + l.length < 6 + dg by omega)]
theorem read_more (hours : Nat) (mk : UInt8) (per dg : Nat) (l : List UInt8) (h : l.length ≠ 6 + dg) : readA hours mk per dg true l = readA hours mk per dg false l := by
  unfold readA
  by_cases c : l.length < 6 + dg
  · rw [if_pos c, if_pos c]
  · rw [if_neg c, if_neg c]
    have : hoursA hours true (l.take (l.length - 6 - dg)) = hoursA hours false (l.take (l.length - 6 - dg)) := by
      unfold hoursA
      have hn : l.take (l.length - 6 - dg) ≠ [] := fun e => by
        have := congrArg List.length e
        rw [List.length_take, List.length_nil] at this
        omega
      rw [if_neg hn, if_neg hn]
    rw [this]
theorem val_lt (q : List UInt8) (h : q.all isDig = true) (m : Nat) (hm : q.length ≤ m) : valN q < 10 ^ m := by
  have hv := valN_lt q h q.length (Nat.le_refl _)
  rw [List.take_length] at hv
  have : (10 : Nat) ^ q.length ≤ 10 ^ m := Nat.pow_le_pow_right (by omega) hm
  omega
set_option maxHeartbeats 1000000 in
theorem rpclock_1 (l : List UInt8) (hl : l.length ≤ 9223372036854775807) (w : World) :
    Calls Tryz.prog 8 #[.int .i64 1, .string (bs l)] w fun e w' => e = .returned (.tuple #[rtv (clkG 2 44 1000 3 false l).1, .int .i64 (clkG 2 44 1000 3 false l).2]) ∧ Below w.heap.size w w' := by
  have HG : ∀ w, Calls Tryz.prog 28 #[.int .i64 1] w fun e w' => e = .returned (.int .i64 1000) ∧ w' = w := fun w => rgrid_any 1 w
  have CR := chain_read 2 44 3 1000 l (by omega)
  have CF := fun hb hk => chain_form (least := 2) (mk := 44) (dg := 3) (l := l) (by omega) hb hk
  have FC := fun {a b c e} F => form_chain (least := 2) (mk := 44) (dg := 3) (l := l) (a := a) (b := b) (c := c) (d := e) F
  unfold clkG
  rw [CR]
  clear CR
  have h1 := hr_le 2 l 0 false (by omega)
  have H1 : ∀ B w, RdAt w B l 0 false → Calls Tryz.prog 29 #[.pointer (some ⟨B, 0, none⟩), .int .i64 2] w fun e w' => e = .returned (.int .i64 (hrS 2 l 0 false).1) ∧ RdAt w' B l (hrS 2 l 0 false).2.1 (hrS 2 l 0 false).2.2 ∧ Below B w w' := fun B w hh => rhours_any B l 0 2 false (by omega) (by omega) (by omega) hl w hh
  unfold chainS at CF FC ⊢
  simp only at CF FC ⊢
  generalize hrS 2 l 0 false = c1 at *
  have h2 := mark_le 58 l c1.2.1 c1.2.2 h1
  have H2 : ∀ B w, RdAt w B l c1.2.1 c1.2.2 → Calls Tryz.prog 30 #[.pointer (some ⟨B, 0, none⟩), .int .u8 58] w fun e w' => e = .returned (.tuple #[]) ∧ RdAt w' B l (markS 58 l c1.2.1 c1.2.2).1 (markS 58 l c1.2.1 c1.2.2).2 ∧ Below B w w' := fun B w hh => rmark_any B l _ _ 58 hl w hh
  generalize markS 58 l c1.2.1 c1.2.2 = c2 at *
  have h3 : (sxS l c2.1 c2.2).2.1 ≤ l.length := rd_le 2 l c2.1 c2.2 h2
  have H3 := fun B w hh => sixty_any B l c2.1 c2.2 h2 hl w hh
  generalize sxS l c2.1 c2.2 = c3 at *
  have h4 := mark_le 58 l c3.2.1 c3.2.2 h3
  have H4 : ∀ B w, RdAt w B l c3.2.1 c3.2.2 → Calls Tryz.prog 30 #[.pointer (some ⟨B, 0, none⟩), .int .u8 58] w fun e w' => e = .returned (.tuple #[]) ∧ RdAt w' B l (markS 58 l c3.2.1 c3.2.2).1 (markS 58 l c3.2.1 c3.2.2).2 ∧ Below B w w' := fun B w hh => rmark_any B l _ _ 58 hl w hh
  generalize markS 58 l c3.2.1 c3.2.2 = c4 at *
  have h5 : (sxS l c4.1 c4.2).2.1 ≤ l.length := rd_le 2 l c4.1 c4.2 h4
  have H5 := fun B w hh => sixty_any B l c4.1 c4.2 h4 hl w hh
  generalize sxS l c4.1 c4.2 = c5 at *
  have h6 := mark_le 44 l c5.2.1 c5.2.2 h5
  have H6 : ∀ B w, RdAt w B l c5.2.1 c5.2.2 → Calls Tryz.prog 30 #[.pointer (some ⟨B, 0, none⟩), .int .u8 44] w fun e w' => e = .returned (.tuple #[]) ∧ RdAt w' B l (markS 44 l c5.2.1 c5.2.2).1 (markS 44 l c5.2.1 c5.2.2).2 ∧ Below B w w' := fun B w hh => rmark_any B l _ _ 44 hl w hh
  generalize markS 44 l c5.2.1 c5.2.2 = c6 at *
  have H7 : ∀ B w, RdAt w B l c6.1 c6.2 → Calls Tryz.prog 32 #[.pointer (some ⟨B, 0, none⟩), .int .i64 3] w fun e w' => e = .returned (.int .i64 (rdS 3 l c6.1 c6.2).1) ∧ RdAt w' B l (rdS 3 l c6.1 c6.2).2.1 (rdS 3 l c6.1 c6.2).2.2 ∧ Below B w w' := fun B w hh => rnumber_any B l c6.1 3 c6.2 h6 (by omega) hl w hh
  generalize rdS 3 l c6.1 c6.2 = c7 at *
  by_cases b7 : c7.2.2 = false
  · by_cases k7 : c7.2.1 = l.length
    · obtain ⟨a, b, c, e, F⟩ := CF b7 k7
      have ch := FC F
      rw [Chain.mk.injEq] at ch
      obtain ⟨z1, z2, z3, z4, z5, z6⟩ := ch
      have hva : valN a < 1000 := val_lt a F.a1 3 F.a3
      have vb := F.b3
      have vc := F.c3
      have ve : valN e < 1000 := val_lt e F.d1 3 (by rw [F.d2]; exact Nat.le_refl _)
      rw [z1, z2, z3, z4]
      rw [b7, k7, z4] at H7
      rw [z1] at H1
      rw [z2] at H3
      rw [z3] at H5
      clear F CF FC z1 z2 z3 z4 z5 z6
      
      generalize valN b = vb' at *
      generalize valN c = vc' at *
      generalize valN e = ve' at *
      generalize valN a = va at *
      have ok : c7.2.2 = false ∧ c7.2.1 = l.length ∧ (ve' : Int) < ((1000 : Nat) : Int) := ⟨b7, by omega, by omega⟩
      rw [if_pos ok, if_pos rfl]
      obtain ⟨V, hV⟩ : ∃ V : Nat, ((va * 60 + vb') * 60 + vc') * 1000 + ve' = V := ⟨_, rfl⟩
      have hVi : ((((va : Int) * 60 + vb') * 60 + vc') * (1000 : Nat) + ve' : Int) = (V : Int) := by omega
      simp only at hVi ⊢
      rw [hVi]
      unfold clkT
      by_cases c : (V : Int) ≤ 360000 * ((1000 : Nat) : Int)
      · rw [if_pos c]
        have HL := rlowest5_any V 1000 (by omega) (by omega) (by omega)
        exact rpclock_1k _ _ _ _ l _ _ _ _ _ _ _ _ _ _ _ _ (3600 * (va : Int) + 60 * (vb' : Int) + vc') V (by omega) (by omega) (by omega) (by omega) rfl (by omega) (by omega) (by omega) _ _ w HG H1 H2 H3 H4 H5 H6 H7 HL
      · rw [if_neg c]
        exact rpclock_1t _ _ _ _ l _ _ _ _ _ _ _ _ _ _ _ _ (3600 * (va : Int) + 60 * (vb' : Int) + vc') V (by omega) (by omega) (by omega) (by omega) rfl (by omega) (by omega) (by omega) w HG H1 H2 H3 H4 H5 H6 H7
    · have no : ¬ (c7.2.2 = false ∧ c7.2.1 = l.length ∧ c7.1 < ((1000 : Nat) : Int)) := fun x => k7 (by have := x.2.1; omega)
      rw [if_neg no, if_neg (by simp)]
      rw [b7] at H7
      exact rpclock_1y _ _ _ _ l _ _ _ _ _ _ _ _ _ _ _ _ _ (by rw [bne_iff_ne]; omega) w HG H1 H2 H3 H4 H5 H6 H7
  · have b8 : c7.2.2 = true := by simpa using b7
    rw [b8] at H7
    have no : ¬ (c7.2.2 = false ∧ c7.2.1 = l.length ∧ c7.1 < ((1000 : Nat) : Int)) := fun x => b7 x.1
    rw [if_neg no, if_neg (by simp)]
    exact rpclock_1x _ _ _ _ l _ _ _ _ _ _ _ _ _ _ _ _ _ w HG H1 H2 H3 H4 H5 H6 H7
set_option maxHeartbeats 1000000 in
theorem rpclock_2 (l : List UInt8) (hl : l.length ≤ 9223372036854775807) (h9 : l.length ≠ 9) (w : World) :
    Calls Tryz.prog 8 #[.int .i64 2, .string (bs l)] w fun e w' => e = .returned (.tuple #[rtv (clkG 2 46 1000 3 false l).1, .int .i64 (clkG 2 46 1000 3 false l).2]) ∧ Below w.heap.size w w' := by
  have HG : ∀ w, Calls Tryz.prog 28 #[.int .i64 2] w fun e w' => e = .returned (.int .i64 1000) ∧ w' = w := fun w => rgrid_any 2 w
  have z9 : ((l.length : Int) != 9) = true := by
    rw [bne_iff_ne]
    omega
  have CR := chain_read 2 46 3 1000 l (by omega)
  have CF := fun hb hk => chain_form (least := 2) (mk := 46) (dg := 3) (l := l) (by omega) hb hk
  have FC := fun {a b c e} F => form_chain (least := 2) (mk := 46) (dg := 3) (l := l) (a := a) (b := b) (c := c) (d := e) F
  unfold clkG
  rw [CR]
  clear CR
  have h1 := hr_le 2 l 0 false (by omega)
  have H1 : ∀ B w, RdAt w B l 0 false → Calls Tryz.prog 29 #[.pointer (some ⟨B, 0, none⟩), .int .i64 2] w fun e w' => e = .returned (.int .i64 (hrS 2 l 0 false).1) ∧ RdAt w' B l (hrS 2 l 0 false).2.1 (hrS 2 l 0 false).2.2 ∧ Below B w w' := fun B w hh => rhours_any B l 0 2 false (by omega) (by omega) (by omega) hl w hh
  unfold chainS at CF FC ⊢
  simp only at CF FC ⊢
  generalize hrS 2 l 0 false = c1 at *
  have h2 := mark_le 58 l c1.2.1 c1.2.2 h1
  have H2 : ∀ B w, RdAt w B l c1.2.1 c1.2.2 → Calls Tryz.prog 30 #[.pointer (some ⟨B, 0, none⟩), .int .u8 58] w fun e w' => e = .returned (.tuple #[]) ∧ RdAt w' B l (markS 58 l c1.2.1 c1.2.2).1 (markS 58 l c1.2.1 c1.2.2).2 ∧ Below B w w' := fun B w hh => rmark_any B l _ _ 58 hl w hh
  generalize markS 58 l c1.2.1 c1.2.2 = c2 at *
  have h3 : (sxS l c2.1 c2.2).2.1 ≤ l.length := rd_le 2 l c2.1 c2.2 h2
  have H3 := fun B w hh => sixty_any B l c2.1 c2.2 h2 hl w hh
  generalize sxS l c2.1 c2.2 = c3 at *
  have h4 := mark_le 58 l c3.2.1 c3.2.2 h3
  have H4 : ∀ B w, RdAt w B l c3.2.1 c3.2.2 → Calls Tryz.prog 30 #[.pointer (some ⟨B, 0, none⟩), .int .u8 58] w fun e w' => e = .returned (.tuple #[]) ∧ RdAt w' B l (markS 58 l c3.2.1 c3.2.2).1 (markS 58 l c3.2.1 c3.2.2).2 ∧ Below B w w' := fun B w hh => rmark_any B l _ _ 58 hl w hh
  generalize markS 58 l c3.2.1 c3.2.2 = c4 at *
  have h5 : (sxS l c4.1 c4.2).2.1 ≤ l.length := rd_le 2 l c4.1 c4.2 h4
  have H5 := fun B w hh => sixty_any B l c4.1 c4.2 h4 hl w hh
  generalize sxS l c4.1 c4.2 = c5 at *
  have h6 := mark_le 46 l c5.2.1 c5.2.2 h5
  have H6 : ∀ B w, RdAt w B l c5.2.1 c5.2.2 → Calls Tryz.prog 30 #[.pointer (some ⟨B, 0, none⟩), .int .u8 46] w fun e w' => e = .returned (.tuple #[]) ∧ RdAt w' B l (markS 46 l c5.2.1 c5.2.2).1 (markS 46 l c5.2.1 c5.2.2).2 ∧ Below B w w' := fun B w hh => rmark_any B l _ _ 46 hl w hh
  generalize markS 46 l c5.2.1 c5.2.2 = c6 at *
  have H7 : ∀ B w, RdAt w B l c6.1 c6.2 → Calls Tryz.prog 32 #[.pointer (some ⟨B, 0, none⟩), .int .i64 3] w fun e w' => e = .returned (.int .i64 (rdS 3 l c6.1 c6.2).1) ∧ RdAt w' B l (rdS 3 l c6.1 c6.2).2.1 (rdS 3 l c6.1 c6.2).2.2 ∧ Below B w w' := fun B w hh => rnumber_any B l c6.1 3 c6.2 h6 (by omega) hl w hh
  generalize rdS 3 l c6.1 c6.2 = c7 at *
  by_cases b7 : c7.2.2 = false
  · by_cases k7 : c7.2.1 = l.length
    · obtain ⟨a, b, c, e, F⟩ := CF b7 k7
      have ch := FC F
      rw [Chain.mk.injEq] at ch
      obtain ⟨z1, z2, z3, z4, z5, z6⟩ := ch
      have hva : valN a < 1000 := val_lt a F.a1 3 F.a3
      have vb := F.b3
      have vc := F.c3
      have ve : valN e < 1000 := val_lt e F.d1 3 (by rw [F.d2]; exact Nat.le_refl _)
      rw [z1, z2, z3, z4]
      rw [b7, k7, z4] at H7
      rw [z1] at H1
      rw [z2] at H3
      rw [z3] at H5
      clear F CF FC z1 z2 z3 z4 z5 z6
      
      generalize valN b = vb' at *
      generalize valN c = vc' at *
      generalize valN e = ve' at *
      generalize valN a = va at *
      have ok : c7.2.2 = false ∧ c7.2.1 = l.length ∧ (ve' : Int) < ((1000 : Nat) : Int) := ⟨b7, by omega, by omega⟩
      rw [if_pos ok, if_pos rfl]
      obtain ⟨V, hV⟩ : ∃ V : Nat, ((va * 60 + vb') * 60 + vc') * 1000 + ve' = V := ⟨_, rfl⟩
      have hVi : ((((va : Int) * 60 + vb') * 60 + vc') * (1000 : Nat) + ve' : Int) = (V : Int) := by omega
      simp only at hVi ⊢
      rw [hVi]
      unfold clkT
      by_cases c : (V : Int) ≤ 360000 * ((1000 : Nat) : Int)
      · rw [if_pos c]
        have HL := rlowest5_any V 1000 (by omega) (by omega) (by omega)
        exact rpclock_2k _ _ _ _ l _ _ _ _ _ _ _ _ _ _ _ _ (3600 * (va : Int) + 60 * (vb' : Int) + vc') V (by omega) (by omega) (by omega) (by omega) rfl (by omega) (by omega) (by omega) _ _ z9 hl w HG H1 H2 H3 H4 H5 H6 H7 HL
      · rw [if_neg c]
        exact rpclock_2t _ _ _ _ l _ _ _ _ _ _ _ _ _ _ _ _ (3600 * (va : Int) + 60 * (vb' : Int) + vc') V (by omega) (by omega) (by omega) (by omega) rfl (by omega) (by omega) (by omega) z9 hl w HG H1 H2 H3 H4 H5 H6 H7
    · have no : ¬ (c7.2.2 = false ∧ c7.2.1 = l.length ∧ c7.1 < ((1000 : Nat) : Int)) := fun x => k7 (by have := x.2.1; omega)
      rw [if_neg no, if_neg (by simp)]
      rw [b7] at H7
      exact rpclock_2y _ _ _ _ l _ _ _ _ _ _ _ _ _ _ _ _ _ (by rw [bne_iff_ne]; omega) z9 hl w HG H1 H2 H3 H4 H5 H6 H7
  · have b8 : c7.2.2 = true := by simpa using b7
    rw [b8] at H7
    have no : ¬ (c7.2.2 = false ∧ c7.2.1 = l.length ∧ c7.1 < ((1000 : Nat) : Int)) := fun x => b7 x.1
    rw [if_neg no, if_neg (by simp)]
    exact rpclock_2x _ _ _ _ l _ _ _ _ _ _ _ _ _ _ _ _ _ z9 hl w HG H1 H2 H3 H4 H5 H6 H7
set_option maxHeartbeats 1000000 in
theorem rpclock_s (l : List UInt8) (hl : l.length ≤ 9223372036854775807) (h9 : l.length = 9) (w : World) :
    Calls Tryz.prog 8 #[.int .i64 2, .string (bs l)] w fun e w' => e = .returned (.tuple #[rtv (clkG 2 46 1000 3 true l).1, .int .i64 (clkG 2 46 1000 3 true l).2]) ∧ Below w.heap.size w w' := by
  have HG : ∀ w, Calls Tryz.prog 28 #[.int .i64 2] w fun e w' => e = .returned (.int .i64 1000) ∧ w' = w := fun w => rgrid_any 2 w
  have z9 : ((l.length : Int) != 9) = false := by
    rw [h9]
    rfl
  have CR := chain_read 2 46 3 1000 ([48, 48, 58] ++ l) (by omega)
  have CF := fun hb hk => chain_form (least := 2) (mk := 46) (dg := 3) (l := [48, 48, 58] ++ l) (by omega) hb hk
  have FC := fun {a b c e} F => form_chain (least := 2) (mk := 46) (dg := 3) (l := [48, 48, 58] ++ l) (a := a) (b := b) (c := c) (d := e) F
  have LL : ([(48 : UInt8), 48, 58] ++ l).length = 3 + l.length := by rw [List.length_append]; rfl
  rw [chain_short, LL] at CR CF
  simp only [chain_short, LL] at FC
  unfold clkG
  rw [read_nine 46 1000 3 l (by omega), CR]
  clear CR
  unfold chain2S at CF FC ⊢
  simp only at CF FC ⊢
  have h3 : (sxS l 0 false).2.1 ≤ l.length := rd_le 2 l 0 false (by omega)
  have H3 : ∀ B w, RdAt w B l 0 false → Calls Tryz.prog 31 #[.pointer (some ⟨B, 0, none⟩)] w fun e w' => e = .returned (.int .i64 (sxS l 0 false).1) ∧ RdAt w' B l (sxS l 0 false).2.1 (sxS l 0 false).2.2 ∧ Below B w w' := fun B w hh => sixty_any B l 0 false (by omega) hl w hh
  generalize sxS l 0 false = c3 at *
  have h4 := mark_le 58 l c3.2.1 c3.2.2 h3
  have H4 : ∀ B w, RdAt w B l c3.2.1 c3.2.2 → Calls Tryz.prog 30 #[.pointer (some ⟨B, 0, none⟩), .int .u8 58] w fun e w' => e = .returned (.tuple #[]) ∧ RdAt w' B l (markS 58 l c3.2.1 c3.2.2).1 (markS 58 l c3.2.1 c3.2.2).2 ∧ Below B w w' := fun B w hh => rmark_any B l _ _ 58 hl w hh
  generalize markS 58 l c3.2.1 c3.2.2 = c4 at *
  have h5 : (sxS l c4.1 c4.2).2.1 ≤ l.length := rd_le 2 l c4.1 c4.2 h4
  have H5 := fun B w hh => sixty_any B l c4.1 c4.2 h4 hl w hh
  generalize sxS l c4.1 c4.2 = c5 at *
  have h6 := mark_le 46 l c5.2.1 c5.2.2 h5
  have H6 : ∀ B w, RdAt w B l c5.2.1 c5.2.2 → Calls Tryz.prog 30 #[.pointer (some ⟨B, 0, none⟩), .int .u8 46] w fun e w' => e = .returned (.tuple #[]) ∧ RdAt w' B l (markS 46 l c5.2.1 c5.2.2).1 (markS 46 l c5.2.1 c5.2.2).2 ∧ Below B w w' := fun B w hh => rmark_any B l _ _ 46 hl w hh
  generalize markS 46 l c5.2.1 c5.2.2 = c6 at *
  have H7 : ∀ B w, RdAt w B l c6.1 c6.2 → Calls Tryz.prog 32 #[.pointer (some ⟨B, 0, none⟩), .int .i64 3] w fun e w' => e = .returned (.int .i64 (rdS 3 l c6.1 c6.2).1) ∧ RdAt w' B l (rdS 3 l c6.1 c6.2).2.1 (rdS 3 l c6.1 c6.2).2.2 ∧ Below B w w' := fun B w hh => rnumber_any B l c6.1 3 c6.2 h6 (by omega) hl w hh
  generalize rdS 3 l c6.1 c6.2 = c7 at *
  by_cases b7 : c7.2.2 = false
  · by_cases k7 : c7.2.1 = l.length
    · obtain ⟨a, b, c, e, F⟩ := CF b7 (by omega)
      have ch := FC F
      rw [Chain.mk.injEq] at ch
      obtain ⟨z1, z2, z3, z4, z5, z6⟩ := ch
      have hva : valN a < 1000 := val_lt a F.a1 3 F.a3
      have vb := F.b3
      have vc := F.c3
      have ve : valN e < 1000 := val_lt e F.d1 3 (by rw [F.d2]; exact Nat.le_refl _)
      rw [z2, z3, z4]
      rw [b7, k7, z4] at H7
      have va0 : valN a = 0 := by omega
      rw [z2] at H3
      rw [z3] at H5
      clear F CF FC z1 z2 z3 z4 z5 z6
      clear hva
      generalize valN b = vb' at *
      generalize valN c = vc' at *
      generalize valN e = ve' at *
      clear va0
      have ok : c7.2.2 = false ∧ 3 + c7.2.1 = 3 + l.length ∧ (ve' : Int) < ((1000 : Nat) : Int) := ⟨b7, by omega, by omega⟩
      rw [if_pos ok, if_pos rfl]
      obtain ⟨V, hV⟩ : ∃ V : Nat, ((vb') * 60 + vc') * 1000 + ve' = V := ⟨_, rfl⟩
      have hVi : ((((0 : Int) * 60 + vb') * 60 + vc') * (1000 : Nat) + ve' : Int) = (V : Int) := by omega
      simp only at hVi ⊢
      rw [hVi]
      unfold clkT
      by_cases c : (V : Int) ≤ 360000 * ((1000 : Nat) : Int)
      · rw [if_pos c]
        have HL := rlowest5_any V 1000 (by omega) (by omega) (by omega)
        exact rpclock_sk _ _ _ l _ _ _ _ _ _ _ _ (60 * (vb' : Int) + vc') V (by omega) (by omega) (by omega) rfl (by omega) (by omega) (by omega) _ _ z9 hl w HG H3 H4 H5 H6 H7 HL
      · exact absurd (show (V : Int) ≤ 360000 * ((1000 : Nat) : Int) by omega) c
    · have no : ¬ (c7.2.2 = false ∧ 3 + c7.2.1 = 3 + l.length ∧ c7.1 < ((1000 : Nat) : Int)) := fun x => k7 (by have := x.2.1; omega)
      rw [if_neg no, if_neg (by simp)]
      rw [b7] at H7
      exact rpclock_sy _ _ _ l _ _ _ _ _ _ _ _ _ (by rw [bne_iff_ne]; omega) z9 hl w HG H3 H4 H5 H6 H7
  · have b8 : c7.2.2 = true := by simpa using b7
    rw [b8] at H7
    have no : ¬ (c7.2.2 = false ∧ 3 + c7.2.1 = 3 + l.length ∧ c7.1 < ((1000 : Nat) : Int)) := fun x => b7 x.1
    rw [if_neg no, if_neg (by simp)]
    exact rpclock_sx _ _ _ l _ _ _ _ _ _ _ _ _ z9 hl w HG H3 H4 H5 H6 H7
set_option maxHeartbeats 1000000 in
theorem rpclock_4 (l : List UInt8) (hl : l.length ≤ 9223372036854775807) (w : World) :
    Calls Tryz.prog 8 #[.int .i64 4, .string (bs l)] w fun e w' => e = .returned (.tuple #[rtv (clkG 1 46 100 2 false l).1, .int .i64 (clkG 1 46 100 2 false l).2]) ∧ Below w.heap.size w w' := by
  have HG : ∀ w, Calls Tryz.prog 28 #[.int .i64 4] w fun e w' => e = .returned (.int .i64 100) ∧ w' = w := fun w => rgrid_any 4 w
  have CR := chain_read 1 46 2 100 l (by omega)
  have CF := fun hb hk => chain_form (least := 1) (mk := 46) (dg := 2) (l := l) (by omega) hb hk
  have FC := fun {a b c e} F => form_chain (least := 1) (mk := 46) (dg := 2) (l := l) (a := a) (b := b) (c := c) (d := e) F
  unfold clkG
  rw [CR]
  clear CR
  have h1 := hr_le 1 l 0 false (by omega)
  have H1 : ∀ B w, RdAt w B l 0 false → Calls Tryz.prog 29 #[.pointer (some ⟨B, 0, none⟩), .int .i64 1] w fun e w' => e = .returned (.int .i64 (hrS 1 l 0 false).1) ∧ RdAt w' B l (hrS 1 l 0 false).2.1 (hrS 1 l 0 false).2.2 ∧ Below B w w' := fun B w hh => rhours_any B l 0 1 false (by omega) (by omega) (by omega) hl w hh
  unfold chainS at CF FC ⊢
  simp only at CF FC ⊢
  generalize hrS 1 l 0 false = c1 at *
  have h2 := mark_le 58 l c1.2.1 c1.2.2 h1
  have H2 : ∀ B w, RdAt w B l c1.2.1 c1.2.2 → Calls Tryz.prog 30 #[.pointer (some ⟨B, 0, none⟩), .int .u8 58] w fun e w' => e = .returned (.tuple #[]) ∧ RdAt w' B l (markS 58 l c1.2.1 c1.2.2).1 (markS 58 l c1.2.1 c1.2.2).2 ∧ Below B w w' := fun B w hh => rmark_any B l _ _ 58 hl w hh
  generalize markS 58 l c1.2.1 c1.2.2 = c2 at *
  have h3 : (sxS l c2.1 c2.2).2.1 ≤ l.length := rd_le 2 l c2.1 c2.2 h2
  have H3 := fun B w hh => sixty_any B l c2.1 c2.2 h2 hl w hh
  generalize sxS l c2.1 c2.2 = c3 at *
  have h4 := mark_le 58 l c3.2.1 c3.2.2 h3
  have H4 : ∀ B w, RdAt w B l c3.2.1 c3.2.2 → Calls Tryz.prog 30 #[.pointer (some ⟨B, 0, none⟩), .int .u8 58] w fun e w' => e = .returned (.tuple #[]) ∧ RdAt w' B l (markS 58 l c3.2.1 c3.2.2).1 (markS 58 l c3.2.1 c3.2.2).2 ∧ Below B w w' := fun B w hh => rmark_any B l _ _ 58 hl w hh
  generalize markS 58 l c3.2.1 c3.2.2 = c4 at *
  have h5 : (sxS l c4.1 c4.2).2.1 ≤ l.length := rd_le 2 l c4.1 c4.2 h4
  have H5 := fun B w hh => sixty_any B l c4.1 c4.2 h4 hl w hh
  generalize sxS l c4.1 c4.2 = c5 at *
  have h6 := mark_le 46 l c5.2.1 c5.2.2 h5
  have H6 : ∀ B w, RdAt w B l c5.2.1 c5.2.2 → Calls Tryz.prog 30 #[.pointer (some ⟨B, 0, none⟩), .int .u8 46] w fun e w' => e = .returned (.tuple #[]) ∧ RdAt w' B l (markS 46 l c5.2.1 c5.2.2).1 (markS 46 l c5.2.1 c5.2.2).2 ∧ Below B w w' := fun B w hh => rmark_any B l _ _ 46 hl w hh
  generalize markS 46 l c5.2.1 c5.2.2 = c6 at *
  have H7 : ∀ B w, RdAt w B l c6.1 c6.2 → Calls Tryz.prog 32 #[.pointer (some ⟨B, 0, none⟩), .int .i64 2] w fun e w' => e = .returned (.int .i64 (rdS 2 l c6.1 c6.2).1) ∧ RdAt w' B l (rdS 2 l c6.1 c6.2).2.1 (rdS 2 l c6.1 c6.2).2.2 ∧ Below B w w' := fun B w hh => rnumber_any B l c6.1 2 c6.2 h6 (by omega) hl w hh
  generalize rdS 2 l c6.1 c6.2 = c7 at *
  by_cases b7 : c7.2.2 = false
  · by_cases k7 : c7.2.1 = l.length
    · obtain ⟨a, b, c, e, F⟩ := CF b7 k7
      have ch := FC F
      rw [Chain.mk.injEq] at ch
      obtain ⟨z1, z2, z3, z4, z5, z6⟩ := ch
      have hva : valN a < 1000 := val_lt a F.a1 3 F.a3
      have vb := F.b3
      have vc := F.c3
      have ve : valN e < 100 := val_lt e F.d1 2 (by rw [F.d2]; exact Nat.le_refl _)
      rw [z1, z2, z3, z4]
      rw [b7, k7, z4] at H7
      rw [z1] at H1
      rw [z2] at H3
      rw [z3] at H5
      clear F CF FC z1 z2 z3 z4 z5 z6
      
      generalize valN b = vb' at *
      generalize valN c = vc' at *
      generalize valN e = ve' at *
      generalize valN a = va at *
      have ok : c7.2.2 = false ∧ c7.2.1 = l.length ∧ (ve' : Int) < ((100 : Nat) : Int) := ⟨b7, by omega, by omega⟩
      rw [if_pos ok, if_pos rfl]
      obtain ⟨V, hV⟩ : ∃ V : Nat, ((va * 60 + vb') * 60 + vc') * 100 + ve' = V := ⟨_, rfl⟩
      have hVi : ((((va : Int) * 60 + vb') * 60 + vc') * (100 : Nat) + ve' : Int) = (V : Int) := by omega
      simp only at hVi ⊢
      rw [hVi]
      unfold clkT
      by_cases c : (V : Int) ≤ 360000 * ((100 : Nat) : Int)
      · rw [if_pos c]
        have HL := rlowest5_any V 100 (by omega) (by omega) (by omega)
        exact rpclock_4k _ _ _ _ l _ _ _ _ _ _ _ _ _ _ _ _ (3600 * (va : Int) + 60 * (vb' : Int) + vc') V (by omega) (by omega) (by omega) (by omega) rfl (by omega) (by omega) (by omega) _ _ w HG H1 H2 H3 H4 H5 H6 H7 HL
      · rw [if_neg c]
        exact rpclock_4t _ _ _ _ l _ _ _ _ _ _ _ _ _ _ _ _ (3600 * (va : Int) + 60 * (vb' : Int) + vc') V (by omega) (by omega) (by omega) (by omega) rfl (by omega) (by omega) (by omega) w HG H1 H2 H3 H4 H5 H6 H7
    · have no : ¬ (c7.2.2 = false ∧ c7.2.1 = l.length ∧ c7.1 < ((100 : Nat) : Int)) := fun x => k7 (by have := x.2.1; omega)
      rw [if_neg no, if_neg (by simp)]
      rw [b7] at H7
      exact rpclock_4y _ _ _ _ l _ _ _ _ _ _ _ _ _ _ _ _ _ (by rw [bne_iff_ne]; omega) w HG H1 H2 H3 H4 H5 H6 H7
  · have b8 : c7.2.2 = true := by simpa using b7
    rw [b8] at H7
    have no : ¬ (c7.2.2 = false ∧ c7.2.1 = l.length ∧ c7.1 < ((100 : Nat) : Int)) := fun x => b7 x.1
    rw [if_neg no, if_neg (by simp)]
    exact rpclock_4x _ _ _ _ l _ _ _ _ _ _ _ _ _ _ _ _ _ w HG H1 H2 H3 H4 H5 H6 H7
theorem rpclock_any (fm : Int) (l : List UInt8) (hl : l.length ≤ 9223372036854775807) (w : World) :
    Calls Tryz.prog 8 #[.int .i64 fm, .string (bs l)] w fun e w' => e = .returned (.tuple #[rtv (clkF fm l).1, .int .i64 (clkF fm l).2]) ∧ Below w.heap.size w w' := by
  unfold clkF
  by_cases h1 : fm = 1
  · rw [if_pos h1]
    subst h1
    exact rpclock_1 l hl w
  · rw [if_neg h1]
    by_cases h2 : fm = 2
    · rw [if_pos h2]
      subst h2
      by_cases h9 : l.length = 9
      · exact rpclock_s l hl h9 w
      · have := rpclock_2 l hl h9 w
        unfold clkG at this ⊢
        rw [read_more 2 46 1000 3 l (by omega)]
        exact this
    · rw [if_neg h2]
      by_cases h4 : fm = 4
      · rw [if_pos h4]
        subst h4
        exact rpclock_4 l hl w
      · rw [if_neg h4]
        refine rpclock_kind fm l w fun w => ?_
        have := rgrid_any fm w
        unfold gridG at this
        rw [if_neg (by omega), if_neg h4] at this
        exact this
end Go.Proofs.YtaipdckakgohjaaGreatDoor

/- The walk of surtitlelaw5.CodeReads. -/
namespace Go.Proofs.YtaipdckakgohjaaGreatDoor
open Go.RowKit Go.Shelf
attribute [local go_sem] Oper.semAt_some

set_option maxRecDepth 100000 in
set_option maxHeartbeats 1000000 in
theorem reads_walk (fm a b te n d re : Int) (dr : Bool) (s : ByteArray) (w : World)
    (HK : ∀ w0, Below w.heap.size w w0 → Calls Tryz.prog 6 #[] w0 fun e w' => e = .returned (.bool true) ∧ Below w0.heap.size w0 w')
    (H1 : ∀ w, Calls Tryz.prog 7 #[.int .i64 fm, .string s] w fun e w' => e = .returned (.tuple #[.agg #[.int .i64 a, .int .i64 b], .int .i64 te]) ∧ Below w.heap.size w w')
    (H2 : ∀ w, Calls Tryz.prog 8 #[.int .i64 fm, .string s] w fun e w' => e = .returned (.tuple #[.agg #[.int .i64 a, .int .i64 b], .int .i64 te]) ∧ Below w.heap.size w w')
    (H3 : ∀ w, Calls Tryz.prog 9 #[.string s] w fun e w' => e = .returned (.tuple #[.agg #[.int .i64 n, .int .i64 d, .bool dr], .int .i64 re]) ∧ Below w.heap.size w w')
    (H4 : ∀ w, Calls Tryz.prog 10 #[.string s] w fun e w' => e = .returned (.tuple #[.agg #[.int .i64 n, .int .i64 d, .bool dr], .int .i64 re]) ∧ Below w.heap.size w w') :
    Calls Tryz.prog 3 #[.int .i64 fm, .string s] w fun e w' => e = .returned (.bool true) ∧ Below w.heap.size w w' := by
  have HK := hideR HK
  have H1 := hideR H1
  have H2 := hideR H2
  have H3 := hideR H3
  have H4 := hideR H4
  go_enter Tryz.func3, Tryz.ntmps3
  go_wp2_with fail
  go_at_call 6
  refine (HK.out _ (Below.refl _ _)).mono ?_
  rintro e w1 ⟨rfl, b1⟩
  have B1 := bup (Below.refl _ _) b1
  clear b1
  go_wp2_with fail
  go_at_call 7
  refine (H1.out _).mono ?_
  rintro e w2 ⟨rfl, b2⟩
  have B2 := bup (bup B1 b2) (bel1 w2 (.cells #[.int .i64 a, .int .i64 b] 24))
  clear B1
  clear b2
  have T2 := Two.new w2 (.int .i64 a) (.int .i64 b) 24
  obtain ⟨_, t0, t1, t2, t3⟩ := id T2
  go_wp2_with fail
  go_at_call 8
  refine (H2.out _).mono ?_
  rintro e w3 ⟨rfl, b3⟩
  have T3 := (T2.keep b3).alloc (.cells #[.int .i64 a, .int .i64 b] 24)
  have B3 := bup (bup B2 b3) (bel1 w3 (.cells #[.int .i64 a, .int .i64 b] 24))
  clear T2 B2 t0 t1 t2 t3
  clear b3
  have X3 := Two.new w3 (.int .i64 a) (.int .i64 b) 24
  obtain ⟨_, t0, t1, t2, t3⟩ := id T3
  obtain ⟨_, x0, x1, x2, x3⟩ := id X3
  go_wp2_with fail
  go_at_call 9
  refine (H3.out _).mono ?_
  rintro e w4 ⟨rfl, b4⟩
  have T4 := (T3.keep b4).alloc (.cells #[.int .i64 n, .int .i64 d, .bool dr] 31)
  have X4 := (X3.keep b4).alloc (.cells #[.int .i64 n, .int .i64 d, .bool dr] 31)
  have B4 := bup (bup B3 b4) (bel1 w4 (.cells #[.int .i64 n, .int .i64 d, .bool dr] 31))
  clear T3 X3 B3 t0 t1 t2 t3 x0 x1 x2 x3
  clear b4
  have R4 := RateAt.new w4 n d dr
  obtain ⟨_, t0, t1, t2, t3⟩ := id T4
  obtain ⟨_, x0, x1, x2, x3⟩ := id X4
  obtain ⟨_, r0, r1, r2⟩ := id R4
  go_wp2_with fail
  go_at_call 10
  refine (H4.out _).mono ?_
  rintro e w5 ⟨rfl, b5⟩
  have T5 := (T4.keep b5).alloc (.cells #[.int .i64 n, .int .i64 d, .bool dr] 31)
  have X5 := (X4.keep b5).alloc (.cells #[.int .i64 n, .int .i64 d, .bool dr] 31)
  have R5 := (R4.keep b5).alloc (.cells #[.int .i64 n, .int .i64 d, .bool dr] 31)
  have B5 := bup (bup B4 b5) (bel1 w5 (.cells #[.int .i64 n, .int .i64 d, .bool dr] 31))
  clear T4 X4 R4 B4 t0 t1 t2 t3 x0 x1 x2 x3 r0 r1 r2
  clear b5
  have Y5 := RateAt.new w5 n d dr
  obtain ⟨_, t0, t1, t2, t3⟩ := id T5
  obtain ⟨_, x0, x1, x2, x3⟩ := id X5
  obtain ⟨_, r0, r1, r2⟩ := id R5
  obtain ⟨_, y0, y1, y2⟩ := id Y5
  go_wp2_with fail
  go_ret
  exact ⟨by simp, B5⟩
theorem reads_any (fm : Int) (_hf : I64 fm) (s : ByteArray) (hs : s.size ≤ 9223372036854775807) (w : World) (hp : PowAt w) :
    Calls Tryz.prog 3 #[.int .i64 fm, .string s] w fun e w' => e = .returned (.bool true) ∧ Below w.heap.size w w' := by
  have HK := fun (w0 : World) (b0 : Below w.heap.size w w0) => known5_any w0 (hp.keep b0)
  have hl : s.data.toList.length ≤ 9223372036854775807 := by rw [← Lib.size_eq]; exact hs
  have H1 := pclock_any fm s.data.toList hl
  have H2 := rpclock_any fm s.data.toList hl
  have H3 := rate_any s.data.toList hl
  have H4 := rrate_any s.data.toList hl
  rw [bs_of] at H1 H2 H3 H4
  exact reads_walk fm _ _ _ _ _ _ _ s w HK H1 H2 H3 H4
end Go.Proofs.YtaipdckakgohjaaGreatDoor
