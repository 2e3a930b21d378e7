/- The contract of surtitleref3.big. -/
import Derived.Test.YtmofjkfghidlnaaDoorRatP2
import Derived.Test.YtmofjkfghidlnaaDoorMgE
import Derived.Deep.RegionHeld3
namespace Go.Proofs.YtmofjkfghidlnaaDoor
open Go.RowKit Go.Shelf
attribute [local go_sem] Oper.semAt_some bs_toList

theorem t3c {V : World} {R : Nat} {n : Bool} {h l : Int} (t : Tri V R n h l) : V.cell? ⟨R, 0, none⟩ = some (.bool n) ∧ V.cell? ⟨R, 1, none⟩ = some (.int .u64 h) ∧ V.cell? ⟨R, 2, none⟩ = some (.int .u64 l) := ⟨t.2.1, t.2.2.1, t.2.2.2.1⟩
theorem Tri.drewT {V : World} {R : Nat} {n : Bool} {h l : Int} (t : Tri V R n h l) : Tri V.drew R n h l := t
theorem nv_nat (m : Nat) : nv m = .agg #[.bool false, .int .u64 (hiZ m), .int .u64 (loZ m)] := by
  unfold nv
  rw [decide_eq_false (by omega), show sz (m : Int) = m by unfold sz; omega]
theorem rplus_nat (a b : Nat) (h : a + b < 340282366920938463463374607431768211456) (w : World) :
    Calls Tryd.prog 70 #[.agg #[.bool false, .int .u64 (hiZ a), .int .u64 (loZ a)], .agg #[.bool false, .int .u64 (hiZ b), .int .u64 (loZ b)]] w fun e w' => e = .returned (.agg #[.bool false, .int .u64 (hiZ ((a + b : Nat) : Int)), .int .u64 (loZ ((a + b : Nat) : Int))]) ∧ Below w.heap.size w w' := by
  have := rplus_any a b (by unfold sz; omega) w
  rw [nv_nat, nv_nat, show (a : Int) + b = ((a + b : Nat) : Int) by omega, nv_nat] at this
  exact this
/-- What a round of big does to its number. -/
structure BigL (vh vl ah al bh bl eh el th tl rh rl x : Int) : Prop where
  p1 : ∀ w, Calls Tryd.prog 70 #[.agg #[.bool false, .int .u64 vh, .int .u64 vl], .agg #[.bool false, .int .u64 vh, .int .u64 vl]] w fun e w' => e = .returned (.agg #[.bool false, .int .u64 ah, .int .u64 al]) ∧ Below w.heap.size w w'
  p2 : ∀ w, Calls Tryd.prog 70 #[.agg #[.bool false, .int .u64 ah, .int .u64 al], .agg #[.bool false, .int .u64 ah, .int .u64 al]] w fun e w' => e = .returned (.agg #[.bool false, .int .u64 bh, .int .u64 bl]) ∧ Below w.heap.size w w'
  p3 : ∀ w, Calls Tryd.prog 70 #[.agg #[.bool false, .int .u64 bh, .int .u64 bl], .agg #[.bool false, .int .u64 bh, .int .u64 bl]] w fun e w' => e = .returned (.agg #[.bool false, .int .u64 eh, .int .u64 el]) ∧ Below w.heap.size w w'
  p4 : ∀ w, Calls Tryd.prog 70 #[.agg #[.bool false, .int .u64 eh, .int .u64 el], .agg #[.bool false, .int .u64 ah, .int .u64 al]] w fun e w' => e = .returned (.agg #[.bool false, .int .u64 th, .int .u64 tl]) ∧ Below w.heap.size w w'
  p5 : ∀ w, Calls Tryd.prog 70 #[.agg #[.bool false, .int .u64 th, .int .u64 tl], .agg #[.bool false, .int .u64 0, .int .u64 x]] w fun e w' => e = .returned (.agg #[.bool false, .int .u64 rh, .int .u64 rl]) ∧ Below w.heap.size w w'
theorem bigL (v d : Nat) (hv : v < 10000000000000000000000000000) (hd : d < 10) : ∃ ah al bh bl eh el th tl, BigL (hiZ v) (loZ v) ah al bh bl eh el th tl (hiZ ((v * 10 + d : Nat) : Int)) (loZ ((v * 10 + d : Nat) : Int)) d := by
  have q5 := rplus_nat (v + v + (v + v) + (v + v + (v + v)) + (v + v)) d (by omega)
  rw [show v + v + (v + v) + (v + v + (v + v)) + (v + v) + d = v * 10 + d by omega, show hiZ (d : Int) = 0 by unfold hiZ; omega, show loZ (d : Int) = d by unfold loZ; omega] at q5
  exact ⟨_, _, _, _, _, _, _, _, rplus_nat v v (by omega), rplus_nat (v + v) (v + v) (by omega), rplus_nat (v + v + (v + v)) (v + v + (v + v)) (by omega), rplus_nat (v + v + (v + v) + (v + v + (v + v))) (v + v) (by omega), q5⟩

set_option maxRecDepth 100000 in
set_option maxHeartbeats 8000000 in
theorem rbig_any (l : List UInt8) (hd : l.all isDig = true) (hl : l.length ≤ 28) (w : World) :
    Calls Tryd.prog 85 #[.string (bs l)] w fun e w' => e = .returned (.agg #[.bool false, .int .u64 (hiZ (valN l)), .int .u64 (loZ (valN l))]) ∧ Below w.heap.size w w' := by
  have hsz := bs_size l
  obtain ⟨rh, erh⟩ : ∃ x, hiZ (valN l) = x := ⟨_, rfl⟩
  obtain ⟨rl, erl⟩ : ∃ x, loZ (valN l) = x := ⟨_, rfl⟩
  rw [erh, erl]
  have ERH := hideR erh
  have ERL := hideR erl
  clear erh erl
  go_enter Tryd.func85, Tryd.ntmps85
  go_wp2_with fail
  go_loopw [4] (fun i wr => ∃ (k : Nat) (vh vl : Int), i = .int .i64 k ∧ k ≤ l.length ∧ Hid (hiZ (valN (l.take k)) = vh ∧ loZ (valN (l.take k)) = vl) ∧ Tri wr w.heap.size false 0 0 ∧ Tri wr (w.heap.size + 1) false vh vl ∧ Below w.heap.size w wr) (fun i _ => l.length - (intOf i).toNat)
  case atStart =>
    refine ⟨0, 0, 0, rfl, Nat.zero_le _, ⟨by rw [List.take_zero]; rfl, by rw [List.take_zero]; rfl⟩, (Tri.new w false 0 0 76).alloc _, ?_, bel2 w _ _⟩
    have := (Tri.new (w.alloc (.cells #[.bool false, .int .u64 0, .int .u64 0] 76)) false 0 0 76).at (R2 := w.heap.size + 1) (by simp)
    exact this
  case round =>
    obtain ⟨k, vh, vl, rfl, hk, HV, T0, T1, hB⟩ := hrel
    have z1 : w.heap.size + 1 < wr.heap.size := T1.1
    by_cases hk2 : k < l.length
    · have zz1 : (k : Int) < ((bs l).size : Int) := by omega
      have zz2 : k < (bs l).size := by omega
      obtain ⟨c, hc⟩ : ∃ c, l[k]'hk2 = c := ⟨_, rfl⟩
      have hg : (bs l)[k] = c := (bs_get l k zz2).trans hc
      have hx := dig_at l hd k hk2
      have hst := valN_step l k hk2
      have hv := valN_lt l hd k (by omega)
      have hp := pow10_le k 28 (by omega)
      rw [hc] at hx hst
      clear hc
      obtain ⟨ah, al, bh, bl, eh, el, th, tl, BL⟩ := bigL (valN (l.take k)) (c.toNat - 48) (by omega) (by omega)
      rw [← hst, HV.out.1, HV.out.2] at BL
      obtain ⟨nh, enh⟩ : ∃ x, hiZ (valN (l.take (k + 1))) = x := ⟨_, rfl⟩
      obtain ⟨nl, enl⟩ : ∃ x, loZ (valN (l.take (k + 1))) = x := ⟨_, rfl⟩
      rw [enh, enl] at BL
      have HV2 : Hid (hiZ (valN (l.take (k + 1))) = nh ∧ loZ (valN (l.take (k + 1))) = nl) := ⟨enh, enl⟩
      clear enh enl hst hv hp HV
      obtain ⟨P1, P2, P3, P4, P5⟩ := BL
      rw [show (((c.toNat - 48 : Nat) : Nat) : Int) = (c.toNat : Int) - 48 by omega] at P5
      have zz3 : (k : Int) < (l.length : Int) := by omega
      have zz4 : (0 : Int) ≤ (k : Int) := by omega
      have hw8 : IntKind.u8.wrap ((c.toNat : Int) - 48) = (c.toNat : Int) - 48 := by rw [IntKind.wrap_u8]; omega
      have hw64 : IntKind.u64.wrap ((c.toNat : Int) - 48) = (c.toNat : Int) - 48 := by rw [IntKind.wrap_u64]; omega
      have P1 := hideR P1
      have P2 := hideR P2
      have P3 := hideR P3
      have P4 := hideR P4
      have P5 := hideR P5
      obtain ⟨_, v0, v1, v2, _, _, _⟩ := id T1
      go_wp2_with fail
      go_at_call 70
      refine Calls.mono (P1.out _) ?_
      rintro e w2 ⟨rfl, b2⟩
      have T02 := (T0.keep b2).alloc (.cells #[.bool false, .int .u64 ah, .int .u64 al] 76)
      have T12 := (T1.keep b2).alloc (.cells #[.bool false, .int .u64 ah, .int .u64 al] 76)
      have A2 := Tri.new w2 false ah al 76
      have B2 := bup (bup hB b2) (bel1 w2 (.cells #[.bool false, .int .u64 ah, .int .u64 al] 76))
      have z2 : w.heap.size + 1 < w2.heap.size := (T1.keep b2).1
      clear b2 T0 T1 hB v0 v1 v2
      have zA : w2.heap.size < (w2.alloc (.cells #[.bool false, .int .u64 ah, .int .u64 al] 76)).heap.size := A2.1
      obtain ⟨_, a0, a1, a2, _, _, _⟩ := id A2
      go_wp2_with fail
      generalize (w2.alloc (.cells #[.bool false, .int .u64 ah, .int .u64 al] 76)) = V at *
      have SC := t3c A2
      go_region_held3 (fun w' => w'.cell? ⟨w2.heap.size, 0, none⟩ = some (.bool false) ∧ w'.cell? ⟨w2.heap.size, 1, none⟩ = some (.int .u64 ah) ∧ w'.cell? ⟨w2.heap.size, 2, none⟩ = some (.int .u64 al)) (first | assumption | exact t3c (A2.drewT.alloc _) | exact t3c ((A2.keep DD).alloc _) | exact t3c ((((A2.keep DD).other (by omega)).other (by omega)).other (by omega)) | go_keep)
        (first
        | (go_at_call_of 70 ah; have _ := DD; refine (P2.out _).mono ?_; rintro e w4 ⟨rfl, b4⟩
           first
           | (have DD : Below V.heap.size V w4 := bup DD b4; have XX := XX.keep b4; have SS := t3c (A2.keep DD); have zD4 := DD.size; obtain ⟨xz, x0, x1, x2, x3, x4, x5⟩ := id XX)
           | (have DD : Below V.heap.size V w4 := bup DD b4; have SS := t3c (A2.keep DD); have zD4 := DD.size)
           | (have XX := (Tri.new w3 false 0 0 76).keep b4; have DD : Below V.heap.size V w4 := bup (bup DD (bel1 w3 _)) b4; have SS := t3c (A2.keep DD); have zD4 := DD.size; obtain ⟨xz, x0, x1, x2, x3, x4, x5⟩ := id XX))
        | (go_at_call_of 70 ah; refine (P2.out _).mono ?_; rintro e w3 ⟨rfl, b3⟩
           first
           | (have DD : Below V.heap.size V w3 := bup (Below.refl _ _).drew b3; have SS := t3c (A2.keep DD); have zD3 := DD.size)
           | (have XX : Tri w3 V.heap.size false 0 0 := (Tri.new V.drew false 0 0 76).keep b3; have DD : Below V.heap.size V w3 := bup ((Below.refl _ _).drew.alloc (Nat.le_refl _) _) b3; have SS := t3c (A2.keep DD); have zD3 := DD.size; obtain ⟨xz, x0, x1, x2, x3, x4, x5⟩ := id XX))
        | (go_at_call_of 70 bh; refine (P3.out _).mono ?_; rintro e w5 ⟨rfl, b5⟩
           first
           | (have DD : Below V.heap.size V w5 := bup DD b5; have XX := XX.keep b5; have SS := t3c (A2.keep DD); have zD5 := DD.size; obtain ⟨xz, x0, x1, x2, x3, x4, x5⟩ := id XX)
           | (have DD : Below V.heap.size V w5 := bup DD b5; have SS := t3c (A2.keep DD); have zD5 := DD.size)
           | (have XX := (Tri.new w4 false 0 0 76).keep b5; have DD : Below V.heap.size V w5 := bup (bup DD (bel1 w4 _)) b5; have SS := t3c (A2.keep DD); have zD5 := DD.size; obtain ⟨xz, x0, x1, x2, x3, x4, x5⟩ := id XX)))
      all_goals (clear a0 a1 a2)
      · have E5 := Tri.new w5 false eh el 76
        have A5 := (A2.keep DD).alloc (.cells #[.bool false, .int .u64 eh, .int .u64 el] 76)
        have T05 := (T02.keep DD).alloc (.cells #[.bool false, .int .u64 eh, .int .u64 el] 76)
        have T15 := (T12.keep DD).alloc (.cells #[.bool false, .int .u64 eh, .int .u64 el] 76)
        have B5 := bup (bup B2 DD) (bel1 w5 (.cells #[.bool false, .int .u64 eh, .int .u64 el] 76))
        have SE := s33 E5 A5
        obtain ⟨e0, e1, e2, a0, a1, a2⟩ := id SE
        have zE : w.heap.size + 1 < w5.heap.size := by omega
        have zA5 : w2.heap.size < V.heap.size := zA
        go_wp2_with fail
        go_region_held3 (fun w' => w'.cell? ⟨w5.heap.size, 0, none⟩ = some (.bool false) ∧ w'.cell? ⟨w5.heap.size, 1, none⟩ = some (.int .u64 eh) ∧ w'.cell? ⟨w5.heap.size, 2, none⟩ = some (.int .u64 el) ∧ w'.cell? ⟨w2.heap.size, 0, none⟩ = some (.bool false) ∧ w'.cell? ⟨w2.heap.size, 1, none⟩ = some (.int .u64 ah) ∧ w'.cell? ⟨w2.heap.size, 2, none⟩ = some (.int .u64 al)) (first | assumption | exact s33 (((E7.other (by omega)).other (by omega)).other (by omega)) (((A7.other (by omega)).other (by omega)).other (by omega)) | go_keep)
          (first
          | (go_at_call_of 70 eh; refine (P4.out _).mono ?_; rintro e w6 ⟨rfl, b6⟩; have E6 := E5.drewT.keep b6; have A6 := A5.drewT.keep b6; have T06 := T05.drewT.keep b6; have T16 := T15.drewT.keep b6; have B6 := bup B5.drew b6; have S6 := s33 E6 A6)
          | (go_at_call_of 70 th; refine (P5.out _).mono ?_; rintro e w7 ⟨rfl, b7⟩; have E7 := E6.keep b7; have A7 := A6.keep b7; have T07 := T06.keep b7; have T17 := T16.keep b7; have B7 := bup B6 b7; have S7 := s33 E7 A7; obtain ⟨_, y0, y1, y2, y3, y4, y5⟩ := id T17))
        all_goals (
          have T18 := ((T17.set0 (n2 := false)).set1 (h2 := nh)).set2 (l2 := nl)
          have T08 := ((T07.other (S := w.heap.size + 1) (i := 0) (x := .bool false) (by omega)).other (S := w.heap.size + 1) (i := 1) (x := .int .u64 nh) (by omega)).other (S := w.heap.size + 1) (i := 2) (x := .int .u64 nl) (by omega)
          have B8 := ((B7.setCell (p := ⟨w.heap.size + 1, 0, none⟩) (by simp) (.bool false)).setCell (p := ⟨w.heap.size + 1, 1, none⟩) (by simp) (.int .u64 nh)).setCell (p := ⟨w.heap.size + 1, 2, none⟩) (by simp) (.int .u64 nl)
          clear e0 e1 e2 a0 a1 a2
          go_wp2_with fail
          refine ⟨⟨k + 1, nh, nl, by go_num, by omega, HV2, T08, T18, B8⟩, ?_⟩
          simp [intOf]
          omega)
      · have E5 := ((XX.set0 (n2 := false)).set1 (h2 := eh)).set2 (l2 := el)
        have A5 := (((A2.keep DD).other (S := w4.heap.size) (i := 0) (x := .bool false) (by omega)).other (S := w4.heap.size) (i := 1) (x := .int .u64 eh) (by omega)).other (S := w4.heap.size) (i := 2) (x := .int .u64 el) (by omega)
        have T05 := (((T02.keep DD).other (S := w4.heap.size) (i := 0) (x := .bool false) (by omega)).other (S := w4.heap.size) (i := 1) (x := .int .u64 eh) (by omega)).other (S := w4.heap.size) (i := 2) (x := .int .u64 el) (by omega)
        have T15 := (((T12.keep DD).other (S := w4.heap.size) (i := 0) (x := .bool false) (by omega)).other (S := w4.heap.size) (i := 1) (x := .int .u64 eh) (by omega)).other (S := w4.heap.size) (i := 2) (x := .int .u64 el) (by omega)
        have B5 := (((bup B2 DD).setCell (p := ⟨w4.heap.size, 0, none⟩) (by simp; omega) (.bool false)).setCell (p := ⟨w4.heap.size, 1, none⟩) (by simp; omega) (.int .u64 eh)).setCell (p := ⟨w4.heap.size, 2, none⟩) (by simp; omega) (.int .u64 el)
        have SE := s33 E5 A5
        obtain ⟨e0, e1, e2, a0, a1, a2⟩ := id SE
        have zE : w.heap.size + 1 < w4.heap.size := by omega
        have zA5 : w2.heap.size < V.heap.size := zA
        go_wp2_with fail
        go_region_held3 (fun w' => w'.cell? ⟨w4.heap.size, 0, none⟩ = some (.bool false) ∧ w'.cell? ⟨w4.heap.size, 1, none⟩ = some (.int .u64 eh) ∧ w'.cell? ⟨w4.heap.size, 2, none⟩ = some (.int .u64 el) ∧ w'.cell? ⟨w2.heap.size, 0, none⟩ = some (.bool false) ∧ w'.cell? ⟨w2.heap.size, 1, none⟩ = some (.int .u64 ah) ∧ w'.cell? ⟨w2.heap.size, 2, none⟩ = some (.int .u64 al)) (first | assumption | exact s33 (((E7.other (by omega)).other (by omega)).other (by omega)) (((A7.other (by omega)).other (by omega)).other (by omega)) | go_keep)
          (first
          | (go_at_call_of 70 eh; refine (P4.out _).mono ?_; rintro e w6 ⟨rfl, b6⟩; have E6 := E5.drewT.keep b6; have A6 := A5.drewT.keep b6; have T06 := T05.drewT.keep b6; have T16 := T15.drewT.keep b6; have B6 := bup B5.drew b6; have S6 := s33 E6 A6)
          | (go_at_call_of 70 th; refine (P5.out _).mono ?_; rintro e w7 ⟨rfl, b7⟩; have E7 := E6.keep b7; have A7 := A6.keep b7; have T07 := T06.keep b7; have T17 := T16.keep b7; have B7 := bup B6 b7; have S7 := s33 E7 A7; obtain ⟨_, y0, y1, y2, y3, y4, y5⟩ := id T17))
        all_goals (
          have T18 := ((T17.set0 (n2 := false)).set1 (h2 := nh)).set2 (l2 := nl)
          have T08 := ((T07.other (S := w.heap.size + 1) (i := 0) (x := .bool false) (by omega)).other (S := w.heap.size + 1) (i := 1) (x := .int .u64 nh) (by omega)).other (S := w.heap.size + 1) (i := 2) (x := .int .u64 nl) (by omega)
          have B8 := ((B7.setCell (p := ⟨w.heap.size + 1, 0, none⟩) (by simp) (.bool false)).setCell (p := ⟨w.heap.size + 1, 1, none⟩) (by simp) (.int .u64 nh)).setCell (p := ⟨w.heap.size + 1, 2, none⟩) (by simp) (.int .u64 nl)
          clear e0 e1 e2 a0 a1 a2
          go_wp2_with fail
          refine ⟨⟨k + 1, nh, nl, by go_num, by omega, HV2, T08, T18, B8⟩, ?_⟩
          simp [intOf]
          omega)
      · have E5 := ((XX.set0 (n2 := false)).set1 (h2 := eh)).set2 (l2 := el)
        have A5 := (((A2.keep DD).other (S := w3.heap.size) (i := 0) (x := .bool false) (by omega)).other (S := w3.heap.size) (i := 1) (x := .int .u64 eh) (by omega)).other (S := w3.heap.size) (i := 2) (x := .int .u64 el) (by omega)
        have T05 := (((T02.keep DD).other (S := w3.heap.size) (i := 0) (x := .bool false) (by omega)).other (S := w3.heap.size) (i := 1) (x := .int .u64 eh) (by omega)).other (S := w3.heap.size) (i := 2) (x := .int .u64 el) (by omega)
        have T15 := (((T12.keep DD).other (S := w3.heap.size) (i := 0) (x := .bool false) (by omega)).other (S := w3.heap.size) (i := 1) (x := .int .u64 eh) (by omega)).other (S := w3.heap.size) (i := 2) (x := .int .u64 el) (by omega)
        have B5 := (((bup B2 DD).setCell (p := ⟨w3.heap.size, 0, none⟩) (by simp; omega) (.bool false)).setCell (p := ⟨w3.heap.size, 1, none⟩) (by simp; omega) (.int .u64 eh)).setCell (p := ⟨w3.heap.size, 2, none⟩) (by simp; omega) (.int .u64 el)
        have SE := s33 E5 A5
        obtain ⟨e0, e1, e2, a0, a1, a2⟩ := id SE
        have zE : w.heap.size + 1 < w3.heap.size := by omega
        have zA5 : w2.heap.size < V.heap.size := zA
        go_wp2_with fail
        go_region_held3 (fun w' => w'.cell? ⟨w3.heap.size, 0, none⟩ = some (.bool false) ∧ w'.cell? ⟨w3.heap.size, 1, none⟩ = some (.int .u64 eh) ∧ w'.cell? ⟨w3.heap.size, 2, none⟩ = some (.int .u64 el) ∧ w'.cell? ⟨w2.heap.size, 0, none⟩ = some (.bool false) ∧ w'.cell? ⟨w2.heap.size, 1, none⟩ = some (.int .u64 ah) ∧ w'.cell? ⟨w2.heap.size, 2, none⟩ = some (.int .u64 al)) (first | assumption | exact s33 (((E7.other (by omega)).other (by omega)).other (by omega)) (((A7.other (by omega)).other (by omega)).other (by omega)) | go_keep)
          (first
          | (go_at_call_of 70 eh; refine (P4.out _).mono ?_; rintro e w6 ⟨rfl, b6⟩; have E6 := E5.drewT.keep b6; have A6 := A5.drewT.keep b6; have T06 := T05.drewT.keep b6; have T16 := T15.drewT.keep b6; have B6 := bup B5.drew b6; have S6 := s33 E6 A6)
          | (go_at_call_of 70 th; refine (P5.out _).mono ?_; rintro e w7 ⟨rfl, b7⟩; have E7 := E6.keep b7; have A7 := A6.keep b7; have T07 := T06.keep b7; have T17 := T16.keep b7; have B7 := bup B6 b7; have S7 := s33 E7 A7; obtain ⟨_, y0, y1, y2, y3, y4, y5⟩ := id T17))
        all_goals (
          have T18 := ((T17.set0 (n2 := false)).set1 (h2 := nh)).set2 (l2 := nl)
          have T08 := ((T07.other (S := w.heap.size + 1) (i := 0) (x := .bool false) (by omega)).other (S := w.heap.size + 1) (i := 1) (x := .int .u64 nh) (by omega)).other (S := w.heap.size + 1) (i := 2) (x := .int .u64 nl) (by omega)
          have B8 := ((B7.setCell (p := ⟨w.heap.size + 1, 0, none⟩) (by simp) (.bool false)).setCell (p := ⟨w.heap.size + 1, 1, none⟩) (by simp) (.int .u64 nh)).setCell (p := ⟨w.heap.size + 1, 2, none⟩) (by simp) (.int .u64 nl)
          clear e0 e1 e2 a0 a1 a2
          go_wp2_with fail
          refine ⟨⟨k + 1, nh, nl, by go_num, by omega, HV2, T08, T18, B8⟩, ?_⟩
          simp [intOf]
          omega)
      · have E5 := ((XX.set0 (n2 := false)).set1 (h2 := eh)).set2 (l2 := el)
        have A5 := (((A2.keep DD).other (S := V.heap.size) (i := 0) (x := .bool false) (by omega)).other (S := V.heap.size) (i := 1) (x := .int .u64 eh) (by omega)).other (S := V.heap.size) (i := 2) (x := .int .u64 el) (by omega)
        have T05 := (((T02.keep DD).other (S := V.heap.size) (i := 0) (x := .bool false) (by omega)).other (S := V.heap.size) (i := 1) (x := .int .u64 eh) (by omega)).other (S := V.heap.size) (i := 2) (x := .int .u64 el) (by omega)
        have T15 := (((T12.keep DD).other (S := V.heap.size) (i := 0) (x := .bool false) (by omega)).other (S := V.heap.size) (i := 1) (x := .int .u64 eh) (by omega)).other (S := V.heap.size) (i := 2) (x := .int .u64 el) (by omega)
        have B5 := (((bup B2 DD).setCell (p := ⟨V.heap.size, 0, none⟩) (by simp; omega) (.bool false)).setCell (p := ⟨V.heap.size, 1, none⟩) (by simp; omega) (.int .u64 eh)).setCell (p := ⟨V.heap.size, 2, none⟩) (by simp; omega) (.int .u64 el)
        have SE := s33 E5 A5
        obtain ⟨e0, e1, e2, a0, a1, a2⟩ := id SE
        have zE : w.heap.size + 1 < V.heap.size := by omega
        have zA5 : w2.heap.size < V.heap.size := zA
        go_wp2_with fail
        go_region_held3 (fun w' => w'.cell? ⟨V.heap.size, 0, none⟩ = some (.bool false) ∧ w'.cell? ⟨V.heap.size, 1, none⟩ = some (.int .u64 eh) ∧ w'.cell? ⟨V.heap.size, 2, none⟩ = some (.int .u64 el) ∧ w'.cell? ⟨w2.heap.size, 0, none⟩ = some (.bool false) ∧ w'.cell? ⟨w2.heap.size, 1, none⟩ = some (.int .u64 ah) ∧ w'.cell? ⟨w2.heap.size, 2, none⟩ = some (.int .u64 al)) (first | assumption | exact s33 (((E7.other (by omega)).other (by omega)).other (by omega)) (((A7.other (by omega)).other (by omega)).other (by omega)) | go_keep)
          (first
          | (go_at_call_of 70 eh; refine (P4.out _).mono ?_; rintro e w6 ⟨rfl, b6⟩; have E6 := E5.drewT.keep b6; have A6 := A5.drewT.keep b6; have T06 := T05.drewT.keep b6; have T16 := T15.drewT.keep b6; have B6 := bup B5.drew b6; have S6 := s33 E6 A6)
          | (go_at_call_of 70 th; refine (P5.out _).mono ?_; rintro e w7 ⟨rfl, b7⟩; have E7 := E6.keep b7; have A7 := A6.keep b7; have T07 := T06.keep b7; have T17 := T16.keep b7; have B7 := bup B6 b7; have S7 := s33 E7 A7; obtain ⟨_, y0, y1, y2, y3, y4, y5⟩ := id T17))
        all_goals (
          have T18 := ((T17.set0 (n2 := false)).set1 (h2 := nh)).set2 (l2 := nl)
          have T08 := ((T07.other (S := w.heap.size + 1) (i := 0) (x := .bool false) (by omega)).other (S := w.heap.size + 1) (i := 1) (x := .int .u64 nh) (by omega)).other (S := w.heap.size + 1) (i := 2) (x := .int .u64 nl) (by omega)
          have B8 := ((B7.setCell (p := ⟨w.heap.size + 1, 0, none⟩) (by simp) (.bool false)).setCell (p := ⟨w.heap.size + 1, 1, none⟩) (by simp) (.int .u64 nh)).setCell (p := ⟨w.heap.size + 1, 2, none⟩) (by simp) (.int .u64 nl)
          clear e0 e1 e2 a0 a1 a2
          go_wp2_with fail
          refine ⟨⟨k + 1, nh, nl, by go_num, by omega, HV2, T08, T18, B8⟩, ?_⟩
          simp [intOf]
          omega)
    · obtain rfl : k = l.length := by omega
      have HV2 := HV.out
      rw [List.take_length] at HV2
      obtain ⟨_, v0, v1, v2, _, _, _⟩ := id T1
      obtain ⟨_, n0, n1, n2, n3, n4, n5⟩ := id T0
      have e1 : rh = vh := ERH.out.symm.trans HV2.1
      have e2 : rl = vl := ERL.out.symm.trans HV2.2
      have E1 := hideR e1.symm
      have E2 := hideR e2.symm
      clear HV2 e1 e2
      go_wp2_with fail
      exact bodyPost_ret (v := .agg #[.bool false, .int .u64 vh, .int .u64 vl]) (by simp [results, Tryd.results85, go_sem, n0, n1, n2]) rfl ⟨by rw [E1.out, E2.out], ((hB.setCell (by simp) _).setCell (by simp) _).setCell (by simp) _⟩
end Go.Proofs.YtmofjkfghidlnaaDoor
