/- Several texts, one behind the other. -/
import Derived.Deep.RegionHeld3
import Derived.Test.YtmofjkfghidlnaaDoorMgB
import Derived.Test.YtmofjkfghidlnaaDoorMgE
import Derived.Test.YtmofjkfghidlnaaDoorRatP2
/- surtitleref3.Parse: over11T. -/
namespace Go.Proofs.YtmofjkfghidlnaaDoor
open Go.RowKit Go.Shelf
attribute [local go_sem] Oper.semAt_some bs_toList

set_option maxRecDepth 100000 in
set_option maxHeartbeats 2000000 in
theorem rp_over11T (l : List UInt8) (hd rs m : List UInt8) (q n k : Nat) (vh vl : Int) (h0 : 0 < (bs l).size)
    (hl : (bs l).size ≤ 9223372036854775806)
    (hg : (bs l)[0] = 45)
    (HR : ∀ w, Calls Tryd.prog 83 #[.string (bs l), .int .i64 1] w fun e w' => e = .returned (.int .i64 n) ∧ w' = w)
    (hn : 0 < n)
    (hn2 : 1 + n ≤ (bs l).size)
    (hnz : n ≤ 1 ∨ 1 < n ∧ ((((bs l)[1]'(by omega)).toNat : Int) == 48) = false)
    (hq : (1 : Int) + (n : Int) = (q : Int))
    (hh : (bs l).extract 1 q = bs hd)
    (hr : (bs l).extract q (bs l).size = bs rs)
    (HS : ∀ w, Calls Tryd.prog 83 #[.string (bs rs), .int .i64 1] w fun e w' => e = .returned (.int .i64 k) ∧ w' = w)
    (he : rs.isEmpty = false)
    (hs : 0 < (bs rs).size)
    (hsl : (bs rs).size ≤ 9223372036854775806)
    (hc : (bs rs)[0]'hs = 47)
    (hk : 0 < k) (hk2 : k + 1 = (bs rs).size)
    (hm : (bs rs).extract 1 (bs rs).size = bs m) (hms : 0 < (bs m).size)
    (hmz : k ≤ 1 ∨ 1 < k ∧ ((((bs m)[0]'hms).toNat : Int) == 48) = false)
    (HZhd : ∀ w, Calls Tryd.prog 84 #[.string (bs hd)] w fun e w' => e = .returned (.bool false) ∧ w' = w)
    (hw : (bs hd).size ≤ 19)
    (hw2 : (bs m).size ≤ 19)
    (HB : ∀ w, Calls Tryd.prog 85 #[.string (bs hd)] w fun e w' => e = .returned (.agg #[.bool false, .int .u64 vh, .int .u64 vl]) ∧ Below w.heap.size w w')
    (HM : ∀ w, Calls Tryd.prog 85 #[.string (bs m)] w fun e w' => e = .returned (.agg #[.bool false, .int .u64 0, .int .u64 0]) ∧ Below w.heap.size w w') (w : World) :
    Calls Tryd.prog 48 #[.string (bs l)] w fun e w' => e = .returned (.tuple #[.agg #[.int .i64 0, .int .i64 0], .int .i64 11]) ∧ Below w.heap.size w w' := by
  have HR := hideR HR
  have HS := hideR HS
  have HZhd := hideR HZhd
  have HB := hideR HB
  have HM := hideR HM
  have z0 : (0 : Int) < ((bs l).size : Int) := by omega
  have z1 : ((n : Int) == 0) = false := by simp; omega
  have z5 : (q : Int) ≤ ((bs l).size : Int) := by omega
  have z51 : q ≤ (bs l).size := by omega
  have z52 : (1 : Int) ≤ (q : Int) := by omega
  have z53 : 1 ≤ q := by omega
  have z6 : (1 : Int) < ((bs l).size : Int) := by omega
  have z7 : 1 < (bs l).size := by omega
  have y0 : (0 : Int) < ((bs rs).size : Int) := by omega
  have yk : ((k : Int) == 0) = false := by simp; omega
  have yw : IntKind.i64.wrap ((k : Int) + 1) = (k : Int) + 1 := by rw [IntKind.wrap_i64]; omega
  have ye : (((k : Int) + 1) == ((bs rs).size : Int)) = true := by simp; omega
  have y3 : (1 : Int) ≤ ((bs rs).size : Int) := by omega
  have y4 : 1 ≤ (bs rs).size := by omega
  have y5 : (0 : Int) < ((bs m).size : Int) := by omega
  have x1 : ((bs hd).size : Int) ≤ 19 := by omega
  have x2 : ((bs m).size : Int) ≤ 19 := by omega
  rcases hnz with z2 | ⟨z2, z9⟩
  all_goals rcases hmz with y2 | ⟨y2, y9⟩
  all_goals (
    have z2 := Int.ofNat_le.2 z2
    have y2 := Int.ofNat_le.2 y2
    go_enter Tryd.func48, Tryd.ntmps48
    go_wp2_with fail
    go_at_call 83
    refine (HR.out _).mono ?_
    rintro e w1 ⟨rfl, rfl⟩
    go_wp2_with fail
    go_at_call 83
    refine (HS.out _).mono ?_
    rintro e w1 ⟨rfl, rfl⟩
    go_wp2_with fail
    go_at_call 84
    refine (HZhd.out _).mono ?_
    rintro e w1 ⟨rfl, rfl⟩
    go_wp2_with fail
    go_at_call 85
    refine (HB.out _).mono ?_
    rintro e w1 ⟨rfl, b1⟩
    have T1 := (Two.new w (.int .i64 0) (.int .i64 0) 26).keep b1
    have B1 := bup (bel1 w _) b1
    clear b1
    go_wp2_with fail
    have T2 := (T1.alloc (.cells #[.bool false, .int .u64 vh, .int .u64 vl] 76)).alloc (.cells #[.bool false, .int .u64 0, .int .u64 1] 76)
    have B2 := bup B1 (bel2 w1 (.cells #[.bool false, .int .u64 vh, .int .u64 vl] 76) (.cells #[.bool false, .int .u64 0, .int .u64 1] 76))
    have X2 := (Tri.new w1 false vh vl 76).alloc (.cells #[.bool false, .int .u64 0, .int .u64 1] 76)
    have D2 := (Tri.new (w1.alloc (.cells #[.bool false, .int .u64 vh, .int .u64 vl] 76)) false 0 1 76).at (R2 := w1.heap.size + 1) (by simp)
    have hle := B1.size
    have hlt := T1.1
    clear T1
    generalize (w1.alloc (.cells #[.bool false, .int .u64 vh, .int .u64 vl] 76)).alloc (.cells #[.bool false, .int .u64 0, .int .u64 1] 76) = V at *
    go_at_call 85
    refine (HM.out _).mono ?_
    rintro e U ⟨rfl, bU⟩
    have T3 := T2.keep bU
    have X3 := X2.keep bU
    have D3 := D2.keep bU
    have B3 := bup B2 bU
    clear T2 X2 D2 bU
    obtain ⟨_, r0, r1, r2, r3⟩ := id T3
    obtain ⟨_, d0, d1, d2, d3⟩ := id D3
    go_wp2_with fail
    have ne : ¬ w1.heap.size + 1 = w.heap.size := by omega
    have T4 := (((T3.one (i := 0) (v := .bool false) ne).one (i := 1) (v := .int .u64 0) ne).one (i := 2) (v := .int .u64 0) ne).set (x2 := .int .i64 0) (y2 := .int .i64 0)
    have B4 := ((((B3.setCell (p := ⟨w1.heap.size + 1, 0, none⟩) (show w.heap.size ≤ w1.heap.size + 1 by omega) (.bool false)).setCell (p := ⟨w1.heap.size + 1, 1, none⟩) (show w.heap.size ≤ w1.heap.size + 1 by omega) (.int .u64 0)).setCell (p := ⟨w1.heap.size + 1, 2, none⟩) (show w.heap.size ≤ w1.heap.size + 1 by omega) (.int .u64 0)).setCell (p := ⟨w.heap.size, 0, none⟩) (Nat.le_refl _) (.int .i64 0)).setCell (p := ⟨w.heap.size, 1, none⟩) (Nat.le_refl _) (.int .i64 0)
    obtain ⟨_, q0, q1, _, _⟩ := T4
    exact bodyPost_ret (v := .tuple #[.agg #[.int .i64 0, .int .i64 0], .int .i64 11]) (by simp [results, Tryd.results48, go_sem, q0, q1]) rfl ⟨rfl, B4⟩)
end Go.Proofs.YtmofjkfghidlnaaDoor

/- surtitleref3.Parse: plainT. -/
namespace Go.Proofs.YtmofjkfghidlnaaDoor
open Go.RowKit Go.Shelf
attribute [local go_sem] Oper.semAt_some bs_toList

set_option maxRecDepth 100000 in
set_option maxHeartbeats 2000000 in
theorem rp_plainT (l : List UInt8) (hd rs : List UInt8) (q n : Nat) (vh vl dl rn rd re : Int) (vn : Bool) (uh ul : Int) (h0 : 0 < (bs l).size)
    (hl : (bs l).size ≤ 9223372036854775806)
    (hg : (bs l)[0] = 45)
    (HR : ∀ w, Calls Tryd.prog 83 #[.string (bs l), .int .i64 1] w fun e w' => e = .returned (.int .i64 n) ∧ w' = w)
    (hn : 0 < n)
    (hn2 : 1 + n ≤ (bs l).size)
    (hnz : n ≤ 1 ∨ 1 < n ∧ ((((bs l)[1]'(by omega)).toNat : Int) == 48) = false)
    (hq : (1 : Int) + (n : Int) = (q : Int))
    (hh : (bs l).extract 1 q = bs hd)
    (hr : (bs l).extract q (bs l).size = bs rs)
    (he : rs.isEmpty = true)
    (HZhd : ∀ w, Calls Tryd.prog 84 #[.string (bs hd)] w fun e w' => e = .returned (.bool false) ∧ w' = w)
    (hw : (bs hd).size ≤ 19)
    (HB : ∀ w, Calls Tryd.prog 85 #[.string (bs hd)] w fun e w' => e = .returned (.agg #[.bool false, .int .u64 uh, .int .u64 ul]) ∧ Below w.heap.size w w')
    (HM : ∀ w, Calls Tryd.prog 85 #[.string (bs (hd ++ []))] w fun e w' => e = .returned (.agg #[.bool false, .int .u64 vh, .int .u64 vl]) ∧ Below w.heap.size w w')
    (hdl : dl = ((10 ^ ([] : List UInt8).length : Nat) : Int))
    (HG : ∀ w, Calls Tryd.prog 63 #[.agg #[.bool true, .int .u64 vh, .int .u64 vl]] w fun e w' => e = .returned (.agg #[.bool vn, .int .u64 vh, .int .u64 vl]) ∧ Below w.heap.size w w')
    (HL : ∀ w, Calls Tryd.prog 62 #[.agg #[.bool vn, .int .u64 vh, .int .u64 vl], .agg #[.bool false, .int .u64 0, .int .u64 dl]] w fun e w' => e = .returned (.tuple #[.agg #[.int .i64 rn, .int .i64 rd], .int .i64 re]) ∧ Below w.heap.size w w') (w : World) :
    Calls Tryd.prog 48 #[.string (bs l)] w fun e w' => e = .returned (.tuple #[.agg #[.int .i64 rn, .int .i64 rd], .int .i64 re]) ∧ Below w.heap.size w w' := by
  have HR := hideR HR
  have HZhd := hideR HZhd
  have HB := hideR HB
  have HM := hideR HM
  have HG := hideR HG
  have HL := hideR HL
  have z0 : (0 : Int) < ((bs l).size : Int) := by omega
  have z1 : ((n : Int) == 0) = false := by simp; omega
  have z5 : (q : Int) ≤ ((bs l).size : Int) := by omega
  have z51 : q ≤ (bs l).size := by omega
  have z52 : (1 : Int) ≤ (q : Int) := by omega
  have z53 : 1 ≤ q := by omega
  have z6 : (1 : Int) < ((bs l).size : Int) := by omega
  have z7 : 1 < (bs l).size := by omega
  have x1 : ((bs hd).size : Int) ≤ 19 := by omega
  rcases hnz with z2 | ⟨z2, z9⟩
  all_goals (
    have z2 := Int.ofNat_le.2 z2
    go_enter Tryd.func48, Tryd.ntmps48
    go_wp2_with fail
    go_at_call 83
    refine (HR.out _).mono ?_
    rintro e w1 ⟨rfl, rfl⟩
    go_wp2_with fail
    go_at_call 84
    refine (HZhd.out _).mono ?_
    rintro e w1 ⟨rfl, rfl⟩
    go_wp2_with fail
    go_at_call 85
    refine (HB.out _).mono ?_
    rintro e w1 ⟨rfl, b1⟩
    have T1 := (Two.new w (.int .i64 0) (.int .i64 0) 26).keep b1
    have B1 := bup (bel1 w _) b1
    clear b1
    go_wp2_with fail
    have T2 := (T1.alloc (.cells #[.bool false, .int .u64 uh, .int .u64 ul] 76)).alloc (.cells #[.bool false, .int .u64 0, .int .u64 1] 76)
    have B2 := bup B1 (bel2 w1 (.cells #[.bool false, .int .u64 uh, .int .u64 ul] 76) (.cells #[.bool false, .int .u64 0, .int .u64 1] 76))
    have X2 := (Tri.new w1 false uh ul 76).alloc (.cells #[.bool false, .int .u64 0, .int .u64 1] 76)
    have D2 := (Tri.new (w1.alloc (.cells #[.bool false, .int .u64 uh, .int .u64 ul] 76)) false 0 1 76).at (R2 := w1.heap.size + 1) (by simp)
    have hle := B1.size
    have hlt := T1.1
    clear T1
    generalize (w1.alloc (.cells #[.bool false, .int .u64 uh, .int .u64 ul] 76)).alloc (.cells #[.bool false, .int .u64 0, .int .u64 1] 76) = V at *
    go_at_call 85
    refine (HM.out _).mono ?_
    rintro e U ⟨rfl, bU⟩
    have T3 := T2.keep bU
    have X3 := X2.keep bU
    have D3 := D2.keep bU
    have B3 := bup B2 bU
    clear T2 X2 D2 bU
    obtain ⟨_, v0, v1, v2, vf0, vf1, vf2⟩ := id X3
    have nd : ¬ w1.heap.size = w.heap.size := by omega
    have T4 := ((T3.one (S := w1.heap.size) (i := 0) (v := .bool false) nd).one (S := w1.heap.size) (i := 1) (v := .int .u64 vh) nd).one (S := w1.heap.size) (i := 2) (v := .int .u64 vl) nd
    have X4 := ((X3.set0 (n2 := false)).set1 (h2 := vh)).set2 (l2 := vl)
    have D4 := ((D3.other (S := w1.heap.size) (i := 0) (x := .bool false) (by omega)).other (S := w1.heap.size) (i := 1) (x := .int .u64 vh) (by omega)).other (S := w1.heap.size) (i := 2) (x := .int .u64 vl) (by omega)
    have B4 := ((B3.setCell (p := ⟨w1.heap.size, 0, none⟩) (show w.heap.size ≤ w1.heap.size by omega) (.bool false)).setCell (p := ⟨w1.heap.size, 1, none⟩) (show w.heap.size ≤ w1.heap.size by omega) (.int .u64 vh)).setCell (p := ⟨w1.heap.size, 2, none⟩) (show w.heap.size ≤ w1.heap.size by omega) (.int .u64 vl)
    go_wp2_with fail
    clear T3 X3 D3 B3 v0 v1 v2 vf0 vf1 vf2
    generalize ((U.setCell ⟨w1.heap.size, 0, none⟩ (.bool false)).setCell ⟨w1.heap.size, 1, none⟩ (.int .u64 vh)).setCell ⟨w1.heap.size, 2, none⟩ (.int .u64 vl) = Y at *
    go_loopw [13] (fun i wr => ∃ k : Nat, i = .int .i64 k ∧ k ≤ ([] : List UInt8).length ∧ Two wr w.heap.size (.int .i64 0) (.int .i64 0) ∧ Tri wr w1.heap.size false vh vl ∧ Tri wr (w1.heap.size + 1) false 0 ((10 ^ k : Nat) : Int) ∧ Below w.heap.size w wr) (fun i _ => ([] : List UInt8).length - (intOf i).toNat)
    case atStart => exact ⟨0, rfl, Nat.zero_le _, T4, X4, D4, B4⟩
    case round =>
      clear T4 X4 D4 B4
      obtain ⟨j, rfl, hj, T4, X4, D4, B4⟩ := hrel
      obtain rfl : j = 0 := by simp at hj; exact hj
      simp only [List.length_nil, Nat.pow_zero] at hdl
      subst hdl
      obtain ⟨_, v0, v1, v2, vf0, vf1, vf2⟩ := id X4
      go_wp2_with fail
      clear v0 v1 v2 vf0 vf1 vf2
      have X4 := X4.set0 (n2 := true)
      have D4 := D4.other (S := w1.heap.size) (i := 0) (x := .bool true) (by omega)
      have T4 := T4.one (S := w1.heap.size) (i := 0) (v := .bool true) nd
      have B4 := B4.setCell (p := ⟨w1.heap.size, 0, none⟩) (show w.heap.size ≤ w1.heap.size by omega) (.bool true)
      generalize wr.setCell ⟨w1.heap.size, 0, none⟩ (.bool true) = V4 at *
      have SE := s33 X4 D4
      obtain ⟨v0, v1, v2, d0, d1, d2⟩ := id SE
      go_region_held3 (fun w' => w'.cell? ⟨w1.heap.size, 0, none⟩ = some (.bool true) ∧ w'.cell? ⟨w1.heap.size, 1, none⟩ = some (.int .u64 vh) ∧ w'.cell? ⟨w1.heap.size, 2, none⟩ = some (.int .u64 vl) ∧ w'.cell? ⟨w1.heap.size + 1, 0, none⟩ = some (.bool false) ∧ w'.cell? ⟨w1.heap.size + 1, 1, none⟩ = some (.int .u64 0) ∧ w'.cell? ⟨w1.heap.size + 1, 2, none⟩ = some (.int .u64 1)) (first | assumption | exact s33 ((X7.other (by omega)).other (by omega)) ((D7.other (by omega)).other (by omega)) | go_keep)
        (first
        | (go_at_call 63; refine (HG.out _).mono ?_; rintro e w6 ⟨rfl, b6⟩; have X6 := X4.drew.keep b6; have D6 := D4.drew.keep b6; have T6 := T4.drew.keep b6; have B6 := bup B4.drew b6; have S6 := s33 X6 D6)
        | (go_at_call 62; refine (HL.out _).mono ?_; rintro e w7 ⟨rfl, b7⟩; have X7 := X6.keep b7; have D7 := D6.keep b7; have T7 := T6.keep b7; have B7 := bup B6 b7; have S7 := s33 X7 D7; obtain ⟨_, k0, k1, k2, k3⟩ := id T7))
      all_goals (
        clear v0 v1 v2 d0 d1 d2
        go_wp2_with fail
        exact bodyPost_ret (v := .tuple #[.agg #[.int .i64 rn, .int .i64 rd], .int .i64 re]) (by simp [results, Tryd.results48, go_sem, k0, k1]) rfl ⟨rfl, (B7.setCell (by simp) _).setCell (by simp) _⟩))
end Go.Proofs.YtmofjkfghidlnaaDoor

/- surtitleref3.Parse: overT. -/
namespace Go.Proofs.YtmofjkfghidlnaaDoor
open Go.RowKit Go.Shelf
attribute [local go_sem] Oper.semAt_some bs_toList

set_option maxRecDepth 100000 in
set_option maxHeartbeats 2000000 in
theorem rp_overT (l : List UInt8) (hd rs m : List UInt8) (q n k : Nat) (vh vl dl rn rd re : Int) (vn : Bool) (h0 : 0 < (bs l).size)
    (hl : (bs l).size ≤ 9223372036854775806)
    (hg : (bs l)[0] = 45)
    (HR : ∀ w, Calls Tryd.prog 83 #[.string (bs l), .int .i64 1] w fun e w' => e = .returned (.int .i64 n) ∧ w' = w)
    (hn : 0 < n)
    (hn2 : 1 + n ≤ (bs l).size)
    (hnz : n ≤ 1 ∨ 1 < n ∧ ((((bs l)[1]'(by omega)).toNat : Int) == 48) = false)
    (hq : (1 : Int) + (n : Int) = (q : Int))
    (hh : (bs l).extract 1 q = bs hd)
    (hr : (bs l).extract q (bs l).size = bs rs)
    (HS : ∀ w, Calls Tryd.prog 83 #[.string (bs rs), .int .i64 1] w fun e w' => e = .returned (.int .i64 k) ∧ w' = w)
    (he : rs.isEmpty = false)
    (hs : 0 < (bs rs).size)
    (hsl : (bs rs).size ≤ 9223372036854775806)
    (hc : (bs rs)[0]'hs = 47)
    (hk : 0 < k) (hk2 : k + 1 = (bs rs).size)
    (hm : (bs rs).extract 1 (bs rs).size = bs m) (hms : 0 < (bs m).size)
    (hmz : k ≤ 1 ∨ 1 < k ∧ ((((bs m)[0]'hms).toNat : Int) == 48) = false)
    (HZhd : ∀ w, Calls Tryd.prog 84 #[.string (bs hd)] w fun e w' => e = .returned (.bool false) ∧ w' = w)
    (hw : (bs hd).size ≤ 19)
    (hw2 : (bs m).size ≤ 19)
    (hdl : (dl == 0) = false)
    (HB : ∀ w, Calls Tryd.prog 85 #[.string (bs hd)] w fun e w' => e = .returned (.agg #[.bool false, .int .u64 vh, .int .u64 vl]) ∧ Below w.heap.size w w')
    (HM : ∀ w, Calls Tryd.prog 85 #[.string (bs m)] w fun e w' => e = .returned (.agg #[.bool false, .int .u64 0, .int .u64 dl]) ∧ Below w.heap.size w w')
    (HG : ∀ w, Calls Tryd.prog 63 #[.agg #[.bool true, .int .u64 vh, .int .u64 vl]] w fun e w' => e = .returned (.agg #[.bool vn, .int .u64 vh, .int .u64 vl]) ∧ Below w.heap.size w w')
    (HL : ∀ w, Calls Tryd.prog 62 #[.agg #[.bool vn, .int .u64 vh, .int .u64 vl], .agg #[.bool false, .int .u64 0, .int .u64 dl]] w fun e w' => e = .returned (.tuple #[.agg #[.int .i64 rn, .int .i64 rd], .int .i64 re]) ∧ Below w.heap.size w w') (w : World) :
    Calls Tryd.prog 48 #[.string (bs l)] w fun e w' => e = .returned (.tuple #[.agg #[.int .i64 rn, .int .i64 rd], .int .i64 re]) ∧ Below w.heap.size w w' := by
  have HR := hideR HR
  have HS := hideR HS
  have HZhd := hideR HZhd
  have HB := hideR HB
  have HM := hideR HM
  have HG := hideR HG
  have HL := hideR HL
  have z0 : (0 : Int) < ((bs l).size : Int) := by omega
  have z1 : ((n : Int) == 0) = false := by simp; omega
  have z5 : (q : Int) ≤ ((bs l).size : Int) := by omega
  have z51 : q ≤ (bs l).size := by omega
  have z52 : (1 : Int) ≤ (q : Int) := by omega
  have z53 : 1 ≤ q := by omega
  have z6 : (1 : Int) < ((bs l).size : Int) := by omega
  have z7 : 1 < (bs l).size := by omega
  have y0 : (0 : Int) < ((bs rs).size : Int) := by omega
  have yk : ((k : Int) == 0) = false := by simp; omega
  have yw : IntKind.i64.wrap ((k : Int) + 1) = (k : Int) + 1 := by rw [IntKind.wrap_i64]; omega
  have ye : (((k : Int) + 1) == ((bs rs).size : Int)) = true := by simp; omega
  have y3 : (1 : Int) ≤ ((bs rs).size : Int) := by omega
  have y4 : 1 ≤ (bs rs).size := by omega
  have y5 : (0 : Int) < ((bs m).size : Int) := by omega
  have x1 : ((bs hd).size : Int) ≤ 19 := by omega
  have x2 : ((bs m).size : Int) ≤ 19 := by omega
  rcases hnz with z2 | ⟨z2, z9⟩
  all_goals rcases hmz with y2 | ⟨y2, y9⟩
  all_goals (
    have z2 := Int.ofNat_le.2 z2
    have y2 := Int.ofNat_le.2 y2
    go_enter Tryd.func48, Tryd.ntmps48
    go_wp2_with fail
    go_at_call 83
    refine (HR.out _).mono ?_
    rintro e w1 ⟨rfl, rfl⟩
    go_wp2_with fail
    go_at_call 83
    refine (HS.out _).mono ?_
    rintro e w1 ⟨rfl, rfl⟩
    go_wp2_with fail
    go_at_call 84
    refine (HZhd.out _).mono ?_
    rintro e w1 ⟨rfl, rfl⟩
    go_wp2_with fail
    go_at_call 85
    refine (HB.out _).mono ?_
    rintro e w1 ⟨rfl, b1⟩
    have T1 := (Two.new w (.int .i64 0) (.int .i64 0) 26).keep b1
    have B1 := bup (bel1 w _) b1
    clear b1
    go_wp2_with fail
    have T2 := (T1.alloc (.cells #[.bool false, .int .u64 vh, .int .u64 vl] 76)).alloc (.cells #[.bool false, .int .u64 0, .int .u64 1] 76)
    have B2 := bup B1 (bel2 w1 (.cells #[.bool false, .int .u64 vh, .int .u64 vl] 76) (.cells #[.bool false, .int .u64 0, .int .u64 1] 76))
    have X2 := (Tri.new w1 false vh vl 76).alloc (.cells #[.bool false, .int .u64 0, .int .u64 1] 76)
    have D2 := (Tri.new (w1.alloc (.cells #[.bool false, .int .u64 vh, .int .u64 vl] 76)) false 0 1 76).at (R2 := w1.heap.size + 1) (by simp)
    have hle := B1.size
    have hlt := T1.1
    clear T1
    generalize (w1.alloc (.cells #[.bool false, .int .u64 vh, .int .u64 vl] 76)).alloc (.cells #[.bool false, .int .u64 0, .int .u64 1] 76) = V at *
    go_at_call 85
    refine (HM.out _).mono ?_
    rintro e U ⟨rfl, bU⟩
    have T3 := T2.keep bU
    have X3 := X2.keep bU
    have D3 := D2.keep bU
    have B3 := bup B2 bU
    clear T2 X2 D2 bU
    obtain ⟨_, d0, d1, d2, df0, df1, df2⟩ := id D3
    obtain ⟨_, v0, v1, v2, vf0, vf1, vf2⟩ := id X3
    have ne : ¬ w1.heap.size + 1 = w.heap.size := by omega
    have nd : ¬ w1.heap.size = w.heap.size := by omega
    have T4 := (((T3.one (S := w1.heap.size + 1) (i := 0) (v := .bool false) ne).one (S := w1.heap.size + 1) (i := 1) (v := .int .u64 0) ne).one (S := w1.heap.size + 1) (i := 2) (v := .int .u64 dl) ne).one (S := w1.heap.size) (i := 0) (v := .bool true) nd
    have X4 := ((((X3.other (S := w1.heap.size + 1) (i := 0) (x := .bool false) (by omega)).other (S := w1.heap.size + 1) (i := 1) (x := .int .u64 0) (by omega)).other (S := w1.heap.size + 1) (i := 2) (x := .int .u64 dl) (by omega))).set0 (n2 := true)
    have D4 := ((((D3.set0 (n2 := false)).set1 (h2 := 0)).set2 (l2 := dl))).other (S := w1.heap.size) (i := 0) (x := .bool true) (by omega)
    have B4 := (((B3.setCell (p := ⟨w1.heap.size + 1, 0, none⟩) (show w.heap.size ≤ w1.heap.size + 1 by omega) (.bool false)).setCell (p := ⟨w1.heap.size + 1, 1, none⟩) (show w.heap.size ≤ w1.heap.size + 1 by omega) (.int .u64 0)).setCell (p := ⟨w1.heap.size + 1, 2, none⟩) (show w.heap.size ≤ w1.heap.size + 1 by omega) (.int .u64 dl)).setCell (p := ⟨w1.heap.size, 0, none⟩) (show w.heap.size ≤ w1.heap.size by omega) (.bool true)
    go_wp2_with fail
    clear d0 d1 d2 df0 df1 df2 v0 v1 v2 vf0 vf1 vf2 T3 X3 D3 B3
    generalize (((U.setCell ⟨w1.heap.size + 1, 0, none⟩ (.bool false)).setCell ⟨w1.heap.size + 1, 1, none⟩ (.int .u64 0)).setCell ⟨w1.heap.size + 1, 2, none⟩ (.int .u64 dl)).setCell ⟨w1.heap.size, 0, none⟩ (.bool true) = V4 at *
    have SE := s33 X4 D4
    obtain ⟨v0, v1, v2, d0, d1, d2⟩ := id SE
    go_region_held3 (fun w' => w'.cell? ⟨w1.heap.size, 0, none⟩ = some (.bool true) ∧ w'.cell? ⟨w1.heap.size, 1, none⟩ = some (.int .u64 vh) ∧ w'.cell? ⟨w1.heap.size, 2, none⟩ = some (.int .u64 vl) ∧ w'.cell? ⟨w1.heap.size + 1, 0, none⟩ = some (.bool false) ∧ w'.cell? ⟨w1.heap.size + 1, 1, none⟩ = some (.int .u64 0) ∧ w'.cell? ⟨w1.heap.size + 1, 2, none⟩ = some (.int .u64 dl)) (first | assumption | exact s33 ((X7.other (by omega)).other (by omega)) ((D7.other (by omega)).other (by omega)) | go_keep)
      (first
      | (go_at_call 63; refine (HG.out _).mono ?_; rintro e w6 ⟨rfl, b6⟩; have X6 := X4.drew.keep b6; have D6 := D4.drew.keep b6; have T6 := T4.drew.keep b6; have B6 := bup B4.drew b6; have S6 := s33 X6 D6)
      | (go_at_call 62; refine (HL.out _).mono ?_; rintro e w7 ⟨rfl, b7⟩; have X7 := X6.keep b7; have D7 := D6.keep b7; have T7 := T6.keep b7; have B7 := bup B6 b7; have S7 := s33 X7 D7; obtain ⟨_, k0, k1, k2, k3⟩ := id T7))
    all_goals (
      clear v0 v1 v2 d0 d1 d2
      go_wp2_with fail
      exact bodyPost_ret (v := .tuple #[.agg #[.int .i64 rn, .int .i64 rd], .int .i64 re]) (by simp [results, Tryd.results48, go_sem, k0, k1]) rfl ⟨rfl, (B7.setCell (by simp) _).setCell (by simp) _⟩))
end Go.Proofs.YtmofjkfghidlnaaDoor
