/- Several texts, one behind the other. -/
import Derived.Deep.RegionHeld3
import Derived.Laws.StructEq
import Derived.Test.YthhhglfcacoejaaGreatDoorGD
import Derived.Test.YthhhglfcacoejaaGreatDoorGR
import Derived.Test.YthhhglfcacoejaaGreatDoorGS
import Derived.Test.YthhhglfcacoejaaGreatDoorRefA8
import Derived.Test.YthhhglfcacoejaaGreatDoorRefNone
import Derived.Test.YthhhglfcacoejaaGreatDoorRefWide
/- The contract of the document's own Width (surtitleref2). -/
namespace Go.Proofs.YthhhglfcacoejaaGreatDoor
open Go.RowKit

theorem plain_none (r : Int) (h1 : 32 ≤ r) (h2 : r ≤ 126) : inTab tab0 r = false := by
  simp only [inTab, tab0, List.any_cons, List.any_nil, Bool.or_eq_false_iff, Bool.and_eq_false_iff, decide_eq_false_iff_not, and_true]
  omega
theorem plain_wide (r : Int) (h1 : 32 ≤ r) (h2 : r ≤ 126) : inTab tab2 r = false := by
  simp only [inTab, tab2, List.any_cons, List.any_nil, Bool.or_eq_false_iff, Bool.and_eq_false_iff, decide_eq_false_iff_not, and_true]
  omega
theorem widthI_eq (r : Int) : widthI r = if inTab tab0 r = true then 0 else if inTab tab2 r = true then 2 else 1 := by
  unfold widthI
  split
  · rename_i h
    rw [plain_none r h.1 h.2, plain_wide r h.1 h.2]
    rfl
  · rfl

set_option maxRecDepth 100000 in
set_option maxHeartbeats 1000000 in
theorem refWidth_any (r : Int) (w : World) : Calls Tryz.prog 77 #[.int .i32 r] w fun e w' => e = .returned (.int .i64 (widthI r)) ∧ w' = w := by
  rw [widthI_eq]
  have H0 := hideC (fun w => none_any r w)
  have H2 := hideC (fun w => wide_any r w)
  cases h0 : inTab tab0 r
  · rw [h0] at H0
    cases h2 : inTab tab2 r
    · rw [h2] at H2
      clear h0 h2
      go_enter Tryz.func77, Tryz.ntmps77
      go_wp2_with fail
      refine (H0.out _).mono ?_
      rintro e w1 ⟨rfl, rfl⟩
      go_wp2_with fail
      refine (H2.out _).mono ?_
      rintro e w2 ⟨rfl, rfl⟩
      go_wp2
      go_ret
      exact ⟨rfl, rfl⟩
    · rw [h2] at H2
      clear h0 h2
      go_enter Tryz.func77, Tryz.ntmps77
      go_wp2_with fail
      refine (H0.out _).mono ?_
      rintro e w1 ⟨rfl, rfl⟩
      go_wp2_with fail
      refine (H2.out _).mono ?_
      rintro e w2 ⟨rfl, rfl⟩
      go_wp2
      go_ret
      exact ⟨rfl, rfl⟩
  · rw [h0] at H0
    clear h0
    go_enter Tryz.func77, Tryz.ntmps77
    go_wp2_with fail
    refine (H0.out _).mono ?_
    rintro e w1 ⟨rfl, rfl⟩
    go_wp2
    go_ret
    exact ⟨rfl, rfl⟩

end Go.Proofs.YthhhglfcacoejaaGreatDoor

/- The contract of surtitleref3.Div. -/
namespace Go.Proofs.YthhhglfcacoejaaGreatDoor
open Go.RowKit Go.Shelf
attribute [local go_sem] Oper.semAt_some

theorem s33 {V : World} {A B : Nat} {n n2 : Bool} {h l h2 l2 : Int} (t : Tri V A n h l) (u : Tri V B n2 h2 l2) : V.cell? ⟨A, 0, none⟩ = some (.bool n) ∧ V.cell? ⟨A, 1, none⟩ = some (.int .u64 h) ∧ V.cell? ⟨A, 2, none⟩ = some (.int .u64 l) ∧ V.cell? ⟨B, 0, none⟩ = some (.bool n2) ∧ V.cell? ⟨B, 1, none⟩ = some (.int .u64 h2) ∧ V.cell? ⟨B, 2, none⟩ = some (.int .u64 l2) :=
  ⟨t.2.1, t.2.2.1, t.2.2.2.1, u.2.1, u.2.2.1, u.2.2.2.1⟩
set_option maxRecDepth 100000 in
set_option maxHeartbeats 1000000 in
theorem rdiv_zero (an ad bd : Int)
    (HB : ∀ w, Calls Tryz.prog 73 #[.agg #[.int .i64 an, .int .i64 ad], .agg #[.int .i64 0, .int .i64 bd]] w fun e w' => e = .returned (.bool true) ∧ Below w.heap.size w w') (w : World) :
    Calls Tryz.prog 42 #[.agg #[.int .i64 an, .int .i64 ad], .agg #[.int .i64 0, .int .i64 bd]] w fun e w' => e = .returned (.tuple #[.agg #[.int .i64 0, .int .i64 0], .int .i64 11]) ∧ Below w.heap.size w w' := by
  have HB := hideR HB
  go_enter Tryz.func42, Tryz.ntmps42
  go_wp2_with fail
  go_at_call 73
  refine Calls.mono (HB.out _) ?_
  rintro e w1 ⟨rfl, b1⟩
  have S1 := (Three.new w an ad 0 bd 0 0 26).keep b1
  have B1 := bup (bel3 w _ _ _) b1
  clear b1
  obtain ⟨⟨_, a0, a1, _, _⟩, ⟨_, p0, p1, _, _⟩, ⟨_, c0, c1, cf0, cf1⟩⟩ := id S1
  go_wp2_with fail
  exact bodyPost_ret (v := .tuple #[.agg #[.int .i64 0, .int .i64 0], .int .i64 11]) (by simp [results, Tryz.results42, go_sem, c0, c1]) rfl ⟨rfl, (B1.setCell (by simp; omega) _).setCell (by simp; omega) _⟩

set_option maxRecDepth 100000 in
set_option maxHeartbeats 1000000 in
theorem rdiv_walk (an ad bn bd : Int) (nn dn un vn : Bool) (nh nl dh dl : Int) (r : Rt × Int) (h0 : ¬ bn = 0) (hd : (dn = true ∧ un = !nn) ∨ (dn = false ∧ nn = un))
    (HB : ∀ w, Calls Tryz.prog 73 #[.agg #[.int .i64 an, .int .i64 ad], .agg #[.int .i64 bn, .int .i64 bd]] w fun e w' => e = .returned (.bool true) ∧ Below w.heap.size w w')
    (HN : ∀ w, Calls Tryz.prog 74 #[.int .i64 an, .int .i64 bd] w fun e w' => e = .returned (.agg #[.bool nn, .int .u64 nh, .int .u64 nl]) ∧ Below w.heap.size w w')
    (HD : ∀ w, Calls Tryz.prog 74 #[.int .i64 ad, .int .i64 bn] w fun e w' => e = .returned (.agg #[.bool dn, .int .u64 dh, .int .u64 dl]) ∧ Below w.heap.size w w')
    (HR : ∀ w, Calls Tryz.prog 76 #[.agg #[.bool un, .int .u64 nh, .int .u64 nl]] w fun e w' => e = .returned (.agg #[.bool vn, .int .u64 nh, .int .u64 nl]) ∧ Below w.heap.size w w')
    (HL : ∀ w, Calls Tryz.prog 75 #[.agg #[.bool vn, .int .u64 nh, .int .u64 nl], .agg #[.bool false, .int .u64 dh, .int .u64 dl]] w fun e w' => e = .returned (.tuple #[rtv r.1, .int .i64 r.2]) ∧ Below w.heap.size w w') (w : World) :
    Calls Tryz.prog 42 #[.agg #[.int .i64 an, .int .i64 ad], .agg #[.int .i64 bn, .int .i64 bd]] w fun e w' => e = .returned (.tuple #[rtv r.1, .int .i64 r.2]) ∧ Below w.heap.size w w' := by
  simp only [rtv] at *
  have HB := hideR HB
  have HN := hideR HN
  have HD := hideR HD
  have HR := hideR HR
  have HL := hideR HL
  rcases hd with ⟨rfl, rfl⟩ | ⟨rfl, rfl⟩
  · go_enter Tryz.func42, Tryz.ntmps42
    go_wp2_with fail
    go_at_call 73
    refine Calls.mono (HB.out _) ?_
    rintro e w1 ⟨rfl, b1⟩
    have S1 := (Three.new w an ad bn bd 0 0 26).keep b1
    have B1 := bup (bel3 w _ _ _) b1
    clear b1
    obtain ⟨⟨_, a0, a1, _, _⟩, ⟨_, p0, p1, _, _⟩, ⟨_, c0, c1, cf0, cf1⟩⟩ := id S1
    go_wp2_with fail
    go_at_call 74
    refine Calls.mono (HN.out _) ?_
    rintro e w2 ⟨rfl, b2⟩
    have zz : w.heap.size + 1 + 1 < w2.heap.size := (S1.keep b2).2.2.1
    have S2 := (S1.keep b2).alloc (.cells #[.bool nn, .int .u64 nh, .int .u64 nl] 142)
    have N2 := Tri.new w2 nn nh nl 142
    have B2 := bup (bup B1 b2) (bel1 w2 (.cells #[.bool nn, .int .u64 nh, .int .u64 nl] 142))
    clear S1 B1 b2 a0 a1 p0 p1 c0 c1 cf0 cf1
    obtain ⟨⟨_, a0, a1, _, _⟩, ⟨_, p0, p1, _, _⟩, _⟩ := id S2
    go_wp2_with fail
    go_at_call 74
    refine Calls.mono (HD.out _) ?_
    rintro e w3 ⟨rfl, b3⟩
    have z3 : w2.heap.size < w3.heap.size := (N2.keep b3).1
    have N3 := N2.keep b3
    have R3 := (S2.keep b3).2.2
    have B3 := bup B2 b3
    have R4 := (R3.put1 (S := w2.heap.size) (i := 0) (v := .bool (!nn)) (by omega)).alloc (.cells #[.bool false, .int .u64 dh, .int .u64 dl] 142)
    have N4 := ((N3.set0 (n2 := !nn))).alloc (.cells #[.bool false, .int .u64 dh, .int .u64 dl] 142)
    have D4 := (Tri.new (w3.setCell ⟨w2.heap.size, 0, none⟩ (.bool (!nn))) false dh dl 142).at (R2 := w3.heap.size) (by simp)
    have B4 := bup (B3.setCell (p := ⟨w2.heap.size, 0, none⟩) (by simp; omega) (.bool (!nn))) (bel1 (w3.setCell ⟨w2.heap.size, 0, none⟩ (.bool (!nn))) (.cells #[.bool false, .int .u64 dh, .int .u64 dl] 142))
    obtain ⟨_, n0, n1, n2, n3, n4, n5⟩ := id N3
    clear S2 N2 B2 b3 a0 a1 p0 p1 N3 R3 B3
    have SC := s33 N4 D4
    go_wp2_with fail
    go_region_held3 (fun w' => w'.cell? ⟨w2.heap.size, 0, none⟩ = some (.bool (!nn)) ∧ w'.cell? ⟨w2.heap.size, 1, none⟩ = some (.int .u64 nh) ∧ w'.cell? ⟨w2.heap.size, 2, none⟩ = some (.int .u64 nl) ∧ w'.cell? ⟨w3.heap.size, 0, none⟩ = some (.bool false) ∧ w'.cell? ⟨w3.heap.size, 1, none⟩ = some (.int .u64 dh) ∧ w'.cell? ⟨w3.heap.size, 2, none⟩ = some (.int .u64 dl)) (first | assumption | exact s33 ((N6.other (by omega)).other (by omega)) ((D6.other (by omega)).other (by omega)) | go_keep)
      (first | (go_at_call 76; refine (HR.out _).mono ?_; rintro e w5 ⟨rfl, b5⟩; have R5 := R4.drew.keep b5; have N5 := N4.drew.keep b5; have D5 := D4.drew.keep b5; have S5 := s33 N5 D5) | (go_at_call 75; refine (HL.out _).mono ?_; rintro e w6 ⟨rfl, b6⟩; have R6 := R5.keep b6; have N6 := N5.keep b6; have D6 := D5.keep b6; have S6 := s33 N6 D6; obtain ⟨_, k0, k1, k2, k3⟩ := id R6))
    all_goals (try go_wp2_with fail)
    all_goals exact bodyPost_ret (v := .tuple #[.agg #[.int .i64 r.1.N, .int .i64 r.1.D], .int .i64 r.2]) (by simp [results, Tryz.results42, go_sem, k0, k1]) rfl ⟨rfl, ((bup (bup B4.drew b5) b6).setCell (by simp; omega) _).setCell (by simp; omega) _⟩
  · go_enter Tryz.func42, Tryz.ntmps42
    go_wp2_with fail
    go_at_call 73
    refine Calls.mono (HB.out _) ?_
    rintro e w1 ⟨rfl, b1⟩
    have S1 := (Three.new w an ad bn bd 0 0 26).keep b1
    have B1 := bup (bel3 w _ _ _) b1
    clear b1
    obtain ⟨⟨_, a0, a1, _, _⟩, ⟨_, p0, p1, _, _⟩, ⟨_, c0, c1, cf0, cf1⟩⟩ := id S1
    go_wp2_with fail
    go_at_call 74
    refine Calls.mono (HN.out _) ?_
    rintro e w2 ⟨rfl, b2⟩
    have zz : w.heap.size + 1 + 1 < w2.heap.size := (S1.keep b2).2.2.1
    have S2 := (S1.keep b2).alloc (.cells #[.bool nn, .int .u64 nh, .int .u64 nl] 142)
    have N2 := Tri.new w2 nn nh nl 142
    have B2 := bup (bup B1 b2) (bel1 w2 (.cells #[.bool nn, .int .u64 nh, .int .u64 nl] 142))
    clear S1 B1 b2 a0 a1 p0 p1 c0 c1 cf0 cf1
    obtain ⟨⟨_, a0, a1, _, _⟩, ⟨_, p0, p1, _, _⟩, _⟩ := id S2
    go_wp2_with fail
    go_at_call 74
    refine Calls.mono (HD.out _) ?_
    rintro e w3 ⟨rfl, b3⟩
    have z3 : w2.heap.size < w3.heap.size := (N2.keep b3).1
    have N3 := N2.keep b3
    have R3 := (S2.keep b3).2.2
    have B3 := bup B2 b3
    have R4 := R3.alloc (.cells #[.bool false, .int .u64 dh, .int .u64 dl] 142)
    have N4 := N3.alloc (.cells #[.bool false, .int .u64 dh, .int .u64 dl] 142)
    have D4 := Tri.new w3 false dh dl 142
    have B4 := bup B3 (bel1 w3 (.cells #[.bool false, .int .u64 dh, .int .u64 dl] 142))
    clear S2 N2 B2 b3 a0 a1 p0 p1 N3 R3 B3
    have SC := s33 N4 D4
    go_wp2_with fail
    go_region_held3 (fun w' => w'.cell? ⟨w2.heap.size, 0, none⟩ = some (.bool nn) ∧ w'.cell? ⟨w2.heap.size, 1, none⟩ = some (.int .u64 nh) ∧ w'.cell? ⟨w2.heap.size, 2, none⟩ = some (.int .u64 nl) ∧ w'.cell? ⟨w3.heap.size, 0, none⟩ = some (.bool false) ∧ w'.cell? ⟨w3.heap.size, 1, none⟩ = some (.int .u64 dh) ∧ w'.cell? ⟨w3.heap.size, 2, none⟩ = some (.int .u64 dl)) (first | assumption | exact s33 ((N6.other (by omega)).other (by omega)) ((D6.other (by omega)).other (by omega)) | go_keep)
      (first | (go_at_call 76; refine (HR.out _).mono ?_; rintro e w5 ⟨rfl, b5⟩; have R5 := R4.drew.keep b5; have N5 := N4.drew.keep b5; have D5 := D4.drew.keep b5; have S5 := s33 N5 D5) | (go_at_call 75; refine (HL.out _).mono ?_; rintro e w6 ⟨rfl, b6⟩; have R6 := R5.keep b6; have N6 := N5.keep b6; have D6 := D5.keep b6; have S6 := s33 N6 D6; obtain ⟨_, k0, k1, k2, k3⟩ := id R6))
    all_goals (try go_wp2_with fail)
    all_goals exact bodyPost_ret (v := .tuple #[.agg #[.int .i64 r.1.N, .int .i64 r.1.D], .int .i64 r.2]) (by simp [results, Tryz.results42, go_sem, k0, k1]) rfl ⟨rfl, ((bup (bup B4.drew b5) b6).setCell (by simp; omega) _).setCell (by simp; omega) _⟩

theorem rdiv_any (a b : Rt) (ha : RtIn a) (hb : RtIn b) (w : World) :
    Calls Tryz.prog 42 #[rtv a, rtv b] w fun e w' => e = .returned (.tuple #[rtv (divA a b).1, .int .i64 (divA a b).2]) ∧ Below w.heap.size w w' := by
  have HB := rboth_any a b ha hb
  by_cases hr : (rightB a && rightB b) = true
  · obtain ⟨ra, rb⟩ := (both_iff a b).1 hr
    rw [hr] at HB
    by_cases h0 : b.N = 0
    · have e : divA a b = bad 11 := by unfold divA; rw [if_pos hr, if_pos h0]
      rw [e]
      unfold rtv at HB ⊢
      rw [h0] at HB ⊢
      exact rdiv_zero a.N a.D b.D HB w
    · have e : divA a b = low (valQ a / valQ b) := by unfold divA; rw [if_pos hr, if_neg h0]
      have t1 := top_bounds ra rb
      have t2 := top_bounds rb ra
      have s1 := sz_le t1
      have s2 := sz_le t2
      have pa := val_pos a ra
      have HN := rtimes_any a.N b.D ha.1 hb.2
      have HD := rtimes_any a.D b.N ha.2 hb.1
      have ec : b.N * a.D = a.D * b.N := Int.mul_comm _ _
      rw [ec] at s2 t2
      have s0 := sz_nonneg (a.N * b.D)
      rw [e, val_div]
      by_cases hs : b.N < 0
      · have hd : a.D * b.N < 0 := Int.mul_neg_of_pos_of_neg pa hs
        have HR := right_sgn (!decide (a.N * b.D < 0)) (sz (a.N * b.D)) s0 (by omega)
        have e1 : sgnQ (!decide (a.N * b.D < 0)) (sz (a.N * b.D)) = -(a.N * b.D) := by generalize a.N * b.D = z; unfold sgnQ sz; by_cases h : z < 0 <;> simp [h] <;> omega
        rw [e1] at HR
        have HL := rlow_i (-(a.N * b.D)) (-(a.D * b.N)) (by rw [show sz (-(a.N * b.D)) = sz (a.N * b.D) by unfold sz; omega]; omega) (by omega) (by omega)
        rw [Rat.neg_divInt_neg] at HL
        unfold nv at HN HD HR HL
        rw [show sz (-(a.N * b.D)) = sz (a.N * b.D) by unfold sz; omega] at HR HL
        rw [show sz (-(a.D * b.N)) = sz (a.D * b.N) by unfold sz; omega, decide_eq_false (show ¬ -(a.D * b.N) < 0 by omega)] at HL
        exact rdiv_walk a.N a.D b.N b.D _ _ _ _ _ _ _ _ _ h0 (.inl ⟨decide_eq_true hd, rfl⟩) HB HN HD HR HL w
      · have hd : 0 < a.D * b.N := Int.mul_pos pa (by omega)
        have HR := right_sgn (decide (a.N * b.D < 0)) (sz (a.N * b.D)) s0 (by omega)
        rw [sgn_sz] at HR
        have HL := rlow_i (a.N * b.D) (a.D * b.N) (by omega) hd (by omega)
        unfold nv at HN HD HR HL
        rw [decide_eq_false (show ¬ a.D * b.N < 0 by omega)] at HL
        exact rdiv_walk a.N a.D b.N b.D _ _ _ _ _ _ _ _ _ h0 (.inr ⟨decide_eq_false (by omega), rfl⟩) HB HN HD HR HL w
  · have e : divA a b = bad 12 := by unfold divA; rw [if_neg hr]
    rw [e]
    rw [Bool.not_eq_true] at hr
    rw [hr] at HB
    exact rdiv_not a.N a.D b.N b.D HB w
end Go.Proofs.YthhhglfcacoejaaGreatDoor

/- The reference of chapter 11: Count, right, Wants. -/
namespace Go.Proofs.YthhhglfcacoejaaGreatDoor
open Go.RowKit Go.Shelf

set_option maxRecDepth 100000 in
set_option maxHeartbeats 1000000 in
theorem rcount11_any (s : ByteArray) (hs : s.size ≤ 140737488355328) (v : Value) (w : World) : Calls Tryz.prog 43 #[.agg #[.string s, v]] w fun e w' => e = .returned (.int .i64 (readN (signs s))) ∧ Below w.heap.size w w' := by
  go_enter Tryz.func43, Tryz.ntmps43
  go_wp2
  generalize hV : w.alloc (.cells #[.string s, v] 52) = V at *
  have hVb : Below w.heap.size w V := by rw [← hV]; exact bel1 _ _
  have HV := hideC hVb
  have HZ := hideC (show V.heap.size = w.heap.size + 1 by rw [← hV]; simp)
  clear hV hVb
  go_loopw [3, 5] (fun n _ w' => ∃ (pos b : Nat) (pre : List Sg), w' = V.iter s pos ∧ n = .int .i64 (readN pre) ∧ pre ++ sgns s b pos = signs s ∧ s.size ≤ pos + b ∧ pre.length ≤ pos) (fun _ _ w' => s.size - w'.iterPos V.heap.size)
  case atStart => exact ⟨0, s.size, [], rfl, rfl, rfl, by omega, by simp⟩
  case round =>
    obtain ⟨pos, b, pre, rfl, rfl, hc, hb, ha⟩ := hrel
    have HA := hideC ha
    have hrl := readN_le pre
    have HC := hideC hc
    clear hc
    by_cases hp : pos < s.size
    · have hnx := fun ty => run_next_any (P := Tryz.prog) V s pos ty hp
      rw [HZ.out] at hnx
      have hwd := Lib.decode_width_pos s pos hp
      have hsn := readN_snoc pre (sgn s pos)
      have hru : (sgn s pos).rune = ((Utf8.decode s pos).1 : Nat) := (sgn_dec s pos hp).2.2.1
      rw [hru] at hsn
      have HS := hideC hsn
      clear hsn hru
      obtain ⟨k, hk⟩ : ∃ k, readN pre = k := ⟨_, rfl⟩
      obtain ⟨k2, hk2⟩ : ∃ k, readN (pre ++ [sgn s pos]) = k := ⟨_, rfl⟩
      obtain ⟨r, hr⟩ : ∃ r : Int, (((Utf8.decode s pos).1 : Nat) : Int) = r := ⟨_, rfl⟩
      obtain ⟨ps, hps⟩ : ∃ ps, pos + (Utf8.decode s pos).2 = ps := ⟨_, rfl⟩
      rw [hps] at hnx
      rw [hr] at HS hnx
      rw [hk, hk2] at HS
      rw [hk]
      have HK := hideC (And.intro hk2 (And.intro hps hk))
      have hrl' : k ≤ pos := by omega
      have hps' : pos < ps := by omega
      clear hk hk2 hr hps hwd hrl ha
      have HW := hideC (refWidth_any r)
      obtain ⟨wd, hwd⟩ : ∃ wd, widthI r = wd := ⟨_, rfl⟩
      rw [hwd] at HW
      have hq : k2 = k + if readB r then 1 else 0 := HS.out
      clear HS
      by_cases g0 : 0 < wd
      · by_cases g1 : r = 32
        · have : k2 = k := by rw [hq]; simp [readB, blankR, g1]
          subst this
          clear hq
          have HG := hideC g1
          have g1' : (r != 32) = false := by simpa using g1
          clear hwd g1
          have d0 : decide (0 < wd) = true := by simpa using g0
          go_wp2_with (go_at_call 77; refine (HW.out _).mono ?_; rintro e w1 ⟨rfl, rfl⟩)
          go_roundw
          case rel => 
                  have hc := HC.out
                  cases b with
                  | zero => omega
                  | succ b =>
                    rw [sgns, if_pos hp, HK.out.2.1] at hc
                    have hle : (pre ++ [sgn s pos]).length ≤ ps := by have := HA.out; simp; omega
                    exact ⟨ps, b, pre ++ [sgn s pos], rfl, (by rw [HK.out.1]; first | done | rfl | simp), by simpa using hc, by omega, hle⟩
          case measure => simp; omega
        · have g1' : (r != 32) = true := by simpa using g1
          by_cases g2 : r = 160
          · have : k2 = k := by rw [hq]; simp [readB, blankR, g2]
            subst this
            clear hq
            have g2' : (r != 160) = false := by simpa using g2
            clear hwd g1 g2
            have d0 : decide (0 < wd) = true := by simpa using g0
            go_wp2_with (go_at_call 77; refine (HW.out _).mono ?_; rintro e w1 ⟨rfl, rfl⟩)
            go_roundw
            case rel => 
                  have hc := HC.out
                  cases b with
                  | zero => omega
                  | succ b =>
                    rw [sgns, if_pos hp, HK.out.2.1] at hc
                    have hle : (pre ++ [sgn s pos]).length ≤ ps := by have := HA.out; simp; omega
                    exact ⟨ps, b, pre ++ [sgn s pos], rfl, (by rw [HK.out.1]; first | done | rfl | simp), by simpa using hc, by omega, hle⟩
            case measure => simp; omega
          · have g2' : (r != 160) = true := by simpa using g2
            by_cases g3 : r = 12288
            · have : k2 = k := by rw [hq]; simp [readB, blankR, g3]
              subst this
              clear hq
              have g3' : (r != 12288) = false := by simpa using g3
              clear hwd g1 g2 g3
              have d0 : decide (0 < wd) = true := by simpa using g0
              go_wp2_with (go_at_call 77; refine (HW.out _).mono ?_; rintro e w1 ⟨rfl, rfl⟩)
              go_roundw
              case rel => 
                  have hc := HC.out
                  cases b with
                  | zero => omega
                  | succ b =>
                    rw [sgns, if_pos hp, HK.out.2.1] at hc
                    have hle : (pre ++ [sgn s pos]).length ≤ ps := by have := HA.out; simp; omega
                    exact ⟨ps, b, pre ++ [sgn s pos], rfl, (by rw [HK.out.1]; first | done | rfl | simp), by simpa using hc, by omega, hle⟩
              case measure => simp; omega
            · have : k2 = k + 1 := by rw [hq]; simp [readB, blankR, g1, g2, g3, hwd, g0]
              subst this
              clear hq
              have g3' : (r != 12288) = true := by simpa using g3
              clear hwd
              have d0 : decide (0 < wd) = true := by simpa using g0
              have wk : IntKind.i64.wrap ((k : Int) + 1) = ((k + 1 : Nat) : Int) := by rw [show ((k + 1 : Nat) : Int) = (k : Int) + 1 by omega]; exact IntWalk.i64_in _ ⟨by omega, by omega⟩
              go_wp2_with (go_at_call 77; refine (HW.out _).mono ?_; rintro e w1 ⟨rfl, rfl⟩)
              go_roundw
              case rel => 
                  have hc := HC.out
                  cases b with
                  | zero => omega
                  | succ b =>
                    rw [sgns, if_pos hp, HK.out.2.1] at hc
                    have hle : (pre ++ [sgn s pos]).length ≤ ps := by have := HA.out; simp; omega
                    exact ⟨ps, b, pre ++ [sgn s pos], rfl, (by rw [HK.out.1]; first | done | rfl | simp), by simpa using hc, by omega, hle⟩
              case measure => simp; omega
      · have : k2 = k := by rw [hq]; simp [readB, hwd, g0]
        subst this
        clear hq hwd
        have d0 : decide (0 < wd) = false := by simpa using g0
        go_wp2_with (go_at_call 77; refine (HW.out _).mono ?_; rintro e w1 ⟨rfl, rfl⟩)
        go_roundw
        case rel => 
                  have hc := HC.out
                  cases b with
                  | zero => omega
                  | succ b =>
                    rw [sgns, if_pos hp, HK.out.2.1] at hc
                    have hle : (pre ++ [sgn s pos]).length ≤ ps := by have := HA.out; simp; omega
                    exact ⟨ps, b, pre ++ [sgn s pos], rfl, (by rw [HK.out.1]; first | done | rfl | simp), by simpa using hc, by omega, hle⟩
        case measure => simp; omega
    · have hnx := fun ty => run_next_end (P := Tryz.prog) V s pos ty hp
      rw [HZ.out] at hnx
      go_wp2
      go_ret
      have hc := HC.out
      rw [sgns_end s b pos hp, List.append_nil] at hc
      subst hc
      exact ⟨rfl, bup HV.out ((Below.refl _ V).alloc (Nat.le_refl _) _)⟩
set_option maxRecDepth 100000 in
set_option maxHeartbeats 800000 in
theorem rright11_walk (a0 a1 a2 a3 a4 a5 : Int) (rb : Bool) (e1 e2 : Int) (w : World)
    (H1 : ∀ W, Calls Tryz.prog 39 #[.agg #[.int .i64 a0, .int .i64 a1]] W fun e w' => e = .returned (.bool rb) ∧ Below W.heap.size W w')
    (H2 : ∀ W, Calls Tryz.prog 40 #[.agg #[.int .i64 a2, .int .i64 a3]] W fun e w' => e = .returned (.int .i64 e1) ∧ Below W.heap.size W w')
    (H3 : ∀ W, Calls Tryz.prog 40 #[.agg #[.int .i64 a4, .int .i64 a5]] W fun e w' => e = .returned (.int .i64 e2) ∧ Below W.heap.size W w') :
    Calls Tryz.prog 22 #[.agg #[.int .i64 a0, .int .i64 a1, .int .i64 a2, .int .i64 a3, .int .i64 a4, .int .i64 a5]] w fun e w' => e = .returned (.bool (rb && decide (0 < a0) && decide (e1 = 0) && decide (e2 = 0))) ∧ Below w.heap.size w w' := by
  obtain ⟨R, hR⟩ : ∃ R, (rb && decide (0 < a0) && decide (e1 = 0) && decide (e2 = 0)) = R := ⟨_, rfl⟩
  rw [hR]
  have HR := hideC hR
  clear hR
  replace H1 := hideC H1
  replace H2 := hideC H2
  replace H3 := hideC H3
  go_enter Tryz.func22, Tryz.ntmps22
  go_wp2_with fail
  refine (H1.out _).mono ?_
  rintro e w1 ⟨rfl, b1⟩
  have Q1 : SixC w1 w.heap.size 44 a0 a1 a2 a3 a4 a5 := (show SixC _ w.heap.size 44 a0 a1 a2 a3 a4 a5 from World.alloc_heap_new w _).keep b1
  have B1 := hideC (bup (bel1 w _) b1)
  clear b1
  have ⟨c0, c1, c2, c3, c4, c5⟩ := Q1.cells
  have Q1 := hideC Q1
  cases rb with
  | false =>
    have hr : R = false := by have := HR.out; simp at this; first | exact this | exact this.symm
    subst hr
    go_wp2_with fail
    go_ret
    exact ⟨rfl, B1.out⟩
  | true =>
    by_cases g1 : 0 < a0
    · have g1' : decide (0 < a0) = true := by simpa using g1
      go_wp2_with fail
      refine (H2.out _).mono ?_
      rintro e w2 ⟨rfl, b2⟩
      have Q2 := Q1.out.keep b2
      have B2 := hideC (bup B1.out b2)
      clear b2 B1 c0 c1 c2 c3 c4 c5
      have ⟨c0, c1, c2, c3, c4, c5⟩ := Q2.cells
      have Q2 := hideC Q2
      by_cases g2 : e1 = 0
      · subst g2
        go_wp2_with fail
        refine (H3.out _).mono ?_
        rintro e w3 ⟨rfl, b3⟩
        have B3 := hideC (bup B2.out b3)
        clear b3 B2 c0 c1 c2 c3 c4 c5
        by_cases g3 : e2 = 0
        · subst g3
          have hr : R = true := by have := HR.out; simp [g1] at this; first | exact this | exact this.symm
          subst hr
          go_wp2
          go_ret
          exact ⟨rfl, B3.out⟩
        · have hr : R = false := by have := HR.out; simp [g1, g3] at this; first | exact this | exact this.symm
          subst hr
          have g3' : (e2 == 0) = false := by simpa using g3
          go_wp2
          go_ret
          exact ⟨rfl, B3.out⟩
      · have hr : R = false := by have := HR.out; simp [g2] at this; first | exact this | exact this.symm
        subst hr
        have g2' : (e1 == 0) = false := by simpa using g2
        go_wp2_with fail
        go_ret
        exact ⟨rfl, B2.out⟩
    · have hr : R = false := by have := HR.out; simp [g1] at this; first | exact this | exact this.symm
      subst hr
      have g1' : decide (0 < a0) = false := by simpa using g1
      go_wp2_with fail
      go_ret
      exact ⟨rfl, B1.out⟩


/-- What lies at the head of the reference's Wants. -/
structure RwV (w : World) (s : ByteArray) (v : Value) (a0 a1 a2 a3 a4 a5 : Int) (W : World) : Prop where
  below : Below w.heap.size w W
  txt : TxtV W w.heap.size s v
  six : SixC W (w.heap.size + 1) 44 a0 a1 a2 a3 a4 a5
  res : Two W (w.heap.size + 1 + 1) (.int .i64 0) (.int .i64 0)
theorem RwV.keep {w W W' : World} {s : ByteArray} {v : Value} {a0 a1 a2 a3 a4 a5 : Int} (h : RwV w s v a0 a1 a2 a3 a4 a5 W) (b : Below W.heap.size W W') : RwV w s v a0 a1 a2 a3 a4 a5 W' := ⟨bup h.below b, h.txt.keep b, h.six.keep b, h.res.keep b⟩
theorem RwV.set {w W : World} {s : ByteArray} {v : Value} {a0 a1 a2 a3 a4 a5 : Int} {r : Nat} {a b : Value} (h : RwV w s v a0 a1 a2 a3 a4 a5 W) (hr : w.heap.size + 1 + 1 < r) : RwV w s v a0 a1 a2 a3 a4 a5 ((W.setCell ⟨r, 0, none⟩ a).setCell ⟨r, 1, none⟩ b) :=
  ⟨(h.below.setCell (by simp; omega) _).setCell (by simp; omega) _, h.txt.set (by omega), h.six.set (by omega), h.res.other (by omega)⟩

set_option maxRecDepth 100000 in
set_option maxHeartbeats 2000000 in
theorem rwants11_walk (s : ByteArray) (v : Value) (a0 a1 a2 a3 a4 a5 : Int) (ec : Int) (rb : Bool) (n : Nat) (q0 q1 e1 c1 c2 : Int) (hn : n < 9223372036854775808) (w : World)
    (H1 : ∀ W, Below w.heap.size w W → Calls Tryz.prog 41 #[.agg #[.string s, v]] W fun e w' => e = .returned (.int .i64 ec) ∧ Below W.heap.size W w')
    (H2 : ∀ W, Calls Tryz.prog 22 #[.agg #[.int .i64 a0, .int .i64 a1, .int .i64 a2, .int .i64 a3, .int .i64 a4, .int .i64 a5]] W fun e w' => e = .returned (.bool rb) ∧ Below W.heap.size W w')
    (H3 : ∀ W, Below w.heap.size w W → Calls Tryz.prog 43 #[.agg #[.string s, v]] W fun e w' => e = .returned (.int .i64 n) ∧ Below W.heap.size W w')
    (H4 : ∀ W, Calls Tryz.prog 42 #[.agg #[.int .i64 n, .int .i64 1], .agg #[.int .i64 a0, .int .i64 a1]] W fun e w' => e = .returned (.tuple #[.agg #[.int .i64 q0, .int .i64 q1], .int .i64 e1]) ∧ Below W.heap.size W w')
    (H5 : ∀ W, Calls Tryz.prog 44 #[.agg #[.int .i64 q0, .int .i64 q1], .agg #[.int .i64 360000, .int .i64 1]] W fun e w' => e = .returned (.int .i64 c1) ∧ Below W.heap.size W w')
    (H6 : ∀ W, Calls Tryz.prog 44 #[.agg #[.int .i64 q0, .int .i64 q1], .agg #[.int .i64 a2, .int .i64 a3]] W fun e w' => e = .returned (.int .i64 c2) ∧ Below W.heap.size W w')
    (r0 r1 r2 : Int) (hr : (¬ ec = 0 ∧ r0 = 0 ∧ r1 = 0 ∧ r2 = ec) ∨ (ec = 0 ∧ rb = false ∧ r0 = 0 ∧ r1 = 0 ∧ r2 = 1) ∨ (ec = 0 ∧ rb = true ∧ (¬ e1 = 0 ∨ 1048576 < q1) ∧ r0 = 0 ∧ r1 = 0 ∧ r2 = 12) ∨ (ec = 0 ∧ rb = true ∧ e1 = 0 ∧ ¬ 1048576 < q1 ∧ 0 < c1 ∧ r0 = 0 ∧ r1 = 0 ∧ r2 = 31) ∨ (ec = 0 ∧ rb = true ∧ e1 = 0 ∧ ¬ 1048576 < q1 ∧ ¬ 0 < c1 ∧ c2 < 0 ∧ r0 = a2 ∧ r1 = a3 ∧ r2 = 0) ∨ (ec = 0 ∧ rb = true ∧ e1 = 0 ∧ ¬ 1048576 < q1 ∧ ¬ 0 < c1 ∧ ¬ c2 < 0 ∧ r0 = q0 ∧ r1 = q1 ∧ r2 = 0)) :
    Calls Tryz.prog 23 #[.agg #[.string s, v], .agg #[.int .i64 a0, .int .i64 a1, .int .i64 a2, .int .i64 a3, .int .i64 a4, .int .i64 a5]] w fun e w' => e = .returned (.tuple #[.agg #[.int .i64 r0, .int .i64 r1], .int .i64 r2]) ∧ Below w.heap.size w w' := by
  replace H1 := hideC H1
  replace H2 := hideC H2
  replace H3 := hideC H3
  replace H4 := hideC H4
  replace H5 := hideC H5
  replace H6 := hideC H6
  have HQ := hideC hr
  clear hr
  have wn : IntKind.i64.wrap (n : Int) = (n : Int) := IntWalk.i64_in _ ⟨by omega, by omega⟩
  go_enter Tryz.func23, Tryz.ntmps23
  go_wp2_with fail
  have BB : Below w.heap.size w (((w.alloc (.cells #[.string s, v] 52)).alloc (.cells #[.int .i64 a0, .int .i64 a1, .int .i64 a2, .int .i64 a3, .int .i64 a4, .int .i64 a5] 44)).alloc (.cells #[.int .i64 0, .int .i64 0] 26)) := ((bel1 w _).trans ((bel1 _ _).mono (by simp))).trans ((bel1 _ _).mono (by simp; omega))
  have X0 : TxtV (((w.alloc (.cells #[.string s, v] 52)).alloc (.cells #[.int .i64 a0, .int .i64 a1, .int .i64 a2, .int .i64 a3, .int .i64 a4, .int .i64 a5] 44)).alloc (.cells #[.int .i64 0, .int .i64 0] 26)) w.heap.size s v := (((show TxtV _ w.heap.size s v from World.alloc_heap_new w _).keep (bel1 _ _))).keep (bel1 _ _)
  have P0 : SixC (((w.alloc (.cells #[.string s, v] 52)).alloc (.cells #[.int .i64 a0, .int .i64 a1, .int .i64 a2, .int .i64 a3, .int .i64 a4, .int .i64 a5] 44)).alloc (.cells #[.int .i64 0, .int .i64 0] 26)) (w.heap.size + 1) 44 a0 a1 a2 a3 a4 a5 := by
    have : SixC ((w.alloc (.cells #[.string s, v] 52)).alloc (.cells #[.int .i64 a0, .int .i64 a1, .int .i64 a2, .int .i64 a3, .int .i64 a4, .int .i64 a5] 44)) (w.heap.size + 1) 44 a0 a1 a2 a3 a4 a5 := by
      have := World.alloc_heap_new (w.alloc (.cells #[.string s, v] 52)) (.cells #[.int .i64 a0, .int .i64 a1, .int .i64 a2, .int .i64 a3, .int .i64 a4, .int .i64 a5] 44)
      rwa [World.size_alloc] at this
    exact this.keep (bel1 _ _)
  have R0 : Two (((w.alloc (.cells #[.string s, v] 52)).alloc (.cells #[.int .i64 a0, .int .i64 a1, .int .i64 a2, .int .i64 a3, .int .i64 a4, .int .i64 a5] 44)).alloc (.cells #[.int .i64 0, .int .i64 0] 26)) (w.heap.size + 1 + 1) (.int .i64 0) (.int .i64 0) := by
    have := Two.new ((w.alloc (.cells #[.string s, v] 52)).alloc (.cells #[.int .i64 a0, .int .i64 a1, .int .i64 a2, .int .i64 a3, .int .i64 a4, .int .i64 a5] 44)) (.int .i64 0) (.int .i64 0) 26
    simpa only [World.size_alloc] using this
  generalize (((w.alloc (.cells #[.string s, v] 52)).alloc (.cells #[.int .i64 a0, .int .i64 a1, .int .i64 a2, .int .i64 a3, .int .i64 a4, .int .i64 a5] 44)).alloc (.cells #[.int .i64 0, .int .i64 0] 26)) = V at *
  have HH := hideC (RwV.mk (w := w) BB X0 P0 R0)
  clear BB X0 P0 R0
  refine (H1.out _ HH.out.below).mono ?_
  rintro e w1 ⟨rfl, b1⟩
  have K1 := hideC (HH.out.keep b1)
  clear HH b1
  have zz1 : w.heap.size + 1 + 1 < w1.heap.size := K1.out.res.1
  by_cases g : ec = 0
  · subst g
    have ⟨x0, x1⟩ := K1.out.txt.cells
    have ⟨c0, c1', c2', c3, c4, c5⟩ := K1.out.six.cells
    go_wp2_with fail
    refine (H2.out _).mono ?_
    rintro e w2 ⟨rfl, b2⟩
    have K2 := hideC (K1.out.keep b2)
    clear K1 b2 x0 x1 c0 c1' c2' c3 c4 c5
    have zz2 : w.heap.size + 1 + 1 < w2.heap.size := K2.out.res.1
    cases rb with
    | true =>
      have ⟨x0, x1⟩ := K2.out.txt.cells
      have ⟨c0, c1', c2', c3, c4, c5⟩ := K2.out.six.cells
      go_wp2_with fail
      go_cut [7, 6] (fun p e wx => ∃ r, p = .pointer (some ⟨r, 0, none⟩) ∧ e = .int .i64 e1 ∧ RwV w s v a0 a1 a2 a3 a4 a5 wx ∧ Two wx r (.int .i64 q0) (.int .i64 q1) ∧ w.heap.size + 1 + 1 < r)
      case first =>
        go_region_held3 (fun w' => (w'.cell? ⟨w.heap.size, 0, none⟩ = some (.string s) ∧ w'.cell? ⟨w.heap.size, 1, none⟩ = some v) ∧ w'.cell? ⟨w.heap.size + 1, 0, none⟩ = some (.int .i64 a0) ∧ w'.cell? ⟨w.heap.size + 1, 1, none⟩ = some (.int .i64 a1)) (first | go_keep | assumption | exact ⟨⟨cell_two_setD (by omega) (by first | assumption | (rw [cell_old_allocD (by simp; omega)]; assumption)), cell_two_setD (by omega) (by first | assumption | (rw [cell_old_allocD (by simp; omega)]; assumption))⟩, cell_two_setD (by omega) (by first | assumption | (rw [cell_old_allocD (by simp; omega)]; assumption)), cell_two_setD (by omega) (by first | assumption | (rw [cell_old_allocD (by simp; omega)]; assumption))⟩) (first
          | (go_at_call 42; (with_reducible refine (H4.out _).mono ?_); rintro e w4 ⟨rfl, b4⟩; (first | (have F4 := hideC (F3.out.keep b4); have ⟨h0, h1, h2, h3⟩ := F4.out.cellsD; have K4 := hideC (K3.out.keep b4)) | (have F4 := hideC ((Two.new w3 (.int .i64 0) (.int .i64 0) 26).keep b4); have ⟨h0, h1, h2, h3⟩ := F4.out.cellsD; have b4 := bup (bel1 w3 _) b4; have K4 := hideC (K3.out.keep b4)) | (have K4 := hideC (K3.out.keep b4))); have ⟨y0, y1⟩ := K4.out.txt.cells; have ⟨d0, d1, _⟩ := K4.out.six.cells; have zz4 : w.heap.size + 1 + 1 < w4.heap.size := K4.out.res.1)
          | (go_at_call 43; (with_reducible refine Calls.mono (H3.out _ (by first | exact bup K2.out.below (Below.refl _ w2).drew | exact bup K2.out.below (bup (Below.refl _ w2).drew (bel1 w2.drew _)) | exact bup K2.out.below (bel1 w2 _).drew)) ?_); rintro e w3 ⟨rfl, b3⟩; (first
              | (have b3 := Below.drew_of b3; have K3 := hideC (K2.out.keep b3))
              | (have F3 : Hid (Two w3 w2.heap.size (.int .i64 0) (.int .i64 0)) := hideC ((Two.new w2.drew (.int .i64 0) (.int .i64 0) 26).keep b3); have ⟨g0, g1, g2, g3⟩ := F3.out.cellsD; have b3 := bup (bup (Below.refl _ w2).drew (bel1 w2.drew _)) b3; have K3 := hideC (K2.out.keep b3))
              | (have F3 : Hid (Two w3 w2.heap.size (.int .i64 0) (.int .i64 0)) := hideC ((Two.new w2 (.int .i64 0) (.int .i64 0) 26).drew.keep b3); have ⟨g0, g1, g2, g3⟩ := F3.out.cellsD; have b3 := bup (bel1 w2 _).drew b3; have K3 := hideC (K2.out.keep b3))); have ⟨z0', z1'⟩ := K3.out.txt.cells; have ⟨f0, f1, _⟩ := K3.out.six.cells; have zz3 : w.heap.size + 1 + 1 < w3.heap.size := K3.out.res.1))
        all_goals first | go_wp2_with fail | skip
        all_goals go_meet
        · exact ⟨_, rfl, rfl, K4.out.keep (bel1 _ _), Two.new w4 _ _ _, zz4⟩
        · exact ⟨_, rfl, rfl, K4.out.set (by omega), F4.out.set, zz3⟩
        · exact ⟨_, rfl, rfl, K4.out.set (by omega), F4.out.set, zz2⟩
      case rest =>
        obtain ⟨r, rfl, rfl, K, F, hrr⟩ := hcut
        generalize wc = X at *
        clear K2 x0 x1 c0 c1' c2' c3 c4 c5
        have ⟨d0, d1, d2, d3⟩ := K.res.cellsD
        have ⟨f0, f1, f2, f3⟩ := F.cellsD
        have zzX : w.heap.size + 1 + 1 < X.heap.size := K.res.1
        have KF := hideC (And.intro K F)
        clear K F
        by_cases u1 : ¬ e1 = 0
        · have hq : r0 = 0 ∧ r1 = 0 ∧ r2 = 12 := by rcases HQ.out with h | h | h | h | h | h; (first | exact absurd rfl h.1 | exact absurd trivial h.1); cases h.2.1; exact h.2.2.2; exact absurd h.2.2.1 u1; exact absurd h.2.2.1 u1; exact absurd h.2.2.1 u1
          obtain ⟨rfl, rfl, rfl⟩ := hq
          have u1' : (e1 != 0) = true := by simpa using u1
          go_wp2_with fail
          have ⟨t0, t1, _⟩ := (KF.out.1.res.set (x2 := .int .i64 0) (y2 := .int .i64 0)).cellsD
          exact bodyPost_ret (v := .tuple #[.agg #[.int .i64 0, .int .i64 0], .int .i64 12]) (by simp [results, Tryz.results23, go_sem, t0, t1]) rfl ⟨rfl, (KF.out.1.below.setCell (by simp; omega) _).setCell (by simp; omega) _⟩
        have u1 : e1 = 0 := Classical.not_not.1 u1
        subst u1
        by_cases u2 : 1048576 < q1
        · have hq : r0 = 0 ∧ r1 = 0 ∧ r2 = 12 := by have h9 := HQ.out; simp at h9; omega
          obtain ⟨rfl, rfl, rfl⟩ := hq
          go_wp2_with fail
          have ⟨t0, t1, _⟩ := (KF.out.1.res.set (x2 := .int .i64 0) (y2 := .int .i64 0)).cellsD
          exact bodyPost_ret (v := .tuple #[.agg #[.int .i64 0, .int .i64 0], .int .i64 12]) (by simp [results, Tryz.results23, go_sem, t0, t1]) rfl ⟨rfl, (KF.out.1.below.setCell (by simp; omega) _).setCell (by simp; omega) _⟩
        clear d0 d1 d2 d3
        go_wp2_with fail
        refine (H5.out _).mono ?_
        rintro e w5 ⟨rfl, b5⟩
        have KG := hideC (And.intro (KF.out.1.keep b5) (KF.out.2.keep b5))
        clear b5 KF f0 f1 f2 f3
        have ⟨d0, d1, d2, d3⟩ := KG.out.1.res.cellsD
        have zz5 : w.heap.size + 1 + 1 < w5.heap.size := KG.out.1.res.1
        by_cases u3 : 0 < c1
        · have hq : r0 = 0 ∧ r1 = 0 ∧ r2 = 31 := by have h9 := HQ.out; simp at h9; omega
          obtain ⟨rfl, rfl, rfl⟩ := hq
          go_wp2_with fail
          have ⟨t0, t1, _⟩ := (KG.out.1.res.set (x2 := .int .i64 0) (y2 := .int .i64 0)).cellsD
          exact bodyPost_ret (v := .tuple #[.agg #[.int .i64 0, .int .i64 0], .int .i64 31]) (by simp [results, Tryz.results23, go_sem, t0, t1]) rfl ⟨rfl, (KG.out.1.below.setCell (by simp; omega) _).setCell (by simp; omega) _⟩
        clear d0 d1 d2 d3
        have ⟨f0, f1, f2, f3⟩ := KG.out.2.cellsD
        have ⟨k0, k1, k2, k3, k4, k5⟩ := KG.out.1.six.cells
        go_wp2_with fail
        refine (H6.out _).mono ?_
        rintro e w6 ⟨rfl, b6⟩
        have KI := hideC (And.intro (KG.out.1.keep b6) (KG.out.2.keep b6))
        clear b6 KG f0 f1 f2 f3 k0 k1 k2 k3 k4 k5
        have ⟨d0, d1, d2, d3⟩ := KI.out.1.res.cellsD
        have zz6 : w.heap.size + 1 + 1 < w6.heap.size := KI.out.1.res.1
        by_cases u4 : c2 < 0
        · have hq : r0 = a2 ∧ r1 = a3 ∧ r2 = 0 := by have h9 := HQ.out; simp at h9; omega
          obtain ⟨rfl, rfl, rfl⟩ := hq
          have ⟨k0, k1, k2, k3, k4, k5⟩ := KI.out.1.six.cells
          go_wp2_with fail
          have ⟨t0, t1, _⟩ := (KI.out.1.res.set (x2 := .int .i64 r0) (y2 := .int .i64 r1)).cellsD
          exact bodyPost_ret (v := .tuple #[.agg #[.int .i64 r0, .int .i64 r1], .int .i64 0]) (by simp [results, Tryz.results23, go_sem, t0, t1]) rfl ⟨rfl, (KI.out.1.below.setCell (by simp; omega) _).setCell (by simp; omega) _⟩
        · have hq : r0 = q0 ∧ r1 = q1 ∧ r2 = 0 := by have h9 := HQ.out; simp at h9; omega
          obtain ⟨rfl, rfl, rfl⟩ := hq
          have ⟨f0, f1, f2, f3⟩ := KI.out.2.cellsD
          go_wp2_with fail
          have ⟨t0, t1, _⟩ := (KI.out.1.res.set (x2 := .int .i64 r0) (y2 := .int .i64 r1)).cellsD
          exact bodyPost_ret (v := .tuple #[.agg #[.int .i64 r0, .int .i64 r1], .int .i64 0]) (by simp [results, Tryz.results23, go_sem, t0, t1]) rfl ⟨rfl, (KI.out.1.below.setCell (by simp; omega) _).setCell (by simp; omega) _⟩
    | false =>
      have hq : r0 = 0 ∧ r1 = 0 ∧ r2 = 1 := by rcases HQ.out with h | h | h | h | h | h; (first | exact absurd rfl h.1 | exact absurd trivial h.1); exact h.2.2; cases h.2.1; cases h.2.1; cases h.2.1; cases h.2.1
      obtain ⟨rfl, rfl, rfl⟩ := hq
      have ⟨d0, d1, d2, d3⟩ := K2.out.res.cellsD
      go_wp2_with fail
      have ⟨t0, t1, _⟩ := (K2.out.res.set (x2 := .int .i64 0) (y2 := .int .i64 0)).cellsD
      exact bodyPost_ret (v := .tuple #[.agg #[.int .i64 0, .int .i64 0], .int .i64 1]) (by simp [results, Tryz.results23, go_sem, t0, t1]) rfl ⟨rfl, (K2.out.below.setCell (by simp; omega) _).setCell (by simp; omega) _⟩
  · have hq : r0 = 0 ∧ r1 = 0 ∧ r2 = ec := by rcases HQ.out with h | h | h | h | h | h; exact h.2; exact absurd h.1 g; exact absurd h.1 g; exact absurd h.1 g; exact absurd h.1 g; exact absurd h.1 g
    obtain ⟨rfl, rfl, rfl⟩ := hq
    have g' : (r2 != 0) = true := by simpa using g
    have ⟨d0, d1, d2, d3⟩ := K1.out.res.cellsD
    go_wp2_with fail
    have ⟨t0, t1, _⟩ := (K1.out.res.set (x2 := .int .i64 0) (y2 := .int .i64 0)).cellsD
    exact bodyPost_ret (v := .tuple #[.agg #[.int .i64 0, .int .i64 0], .int .i64 r2]) (by simp [results, Tryz.results23, go_sem, t0, t1]) rfl ⟨rfl, (K1.out.below.setCell (by simp; omega) _).setCell (by simp; omega) _⟩

end Go.Proofs.YthhhglfcacoejaaGreatDoor

/- SpeedCounts: the walk. -/
namespace Go.Proofs.YthhhglfcacoejaaGreatDoor
open Go.RowKit Go.Shelf

theorem rt_guardD : Tryz.prog.eqGuardType Tryz.prog.depth 26 = false := by kernel_rfl
theorem rt_underD : Tryz.prog.underlying 26 = some (.struct (Tryz.prog.fieldsOf 26)) := by kernel_rfl
theorem rt_heldD : Tryz.prog.stoodInHeld 26 = false := by kernel_rfl
theorem rt_fieldsD : (Tryz.prog.fieldsOf 26).toList.map (fun f => (f.name, f.type, f.offset)) = [("N", 2, 0), ("D", 2, 1)] := by kernel_rfl
set_option maxRecDepth 100000 in
theorem rt_sameD (a b : Int) (w : World) : (Op.equalIn 10000 26 (.agg #[.int .i64 a, .int .i64 b]) (.agg #[.int .i64 a, .int .i64 b])).run Tryz.prog w = .ok true w := by
  rw [run_equalIn_agg _ _ _ _ _ rt_underD rt_heldD]
  have hf := rt_fieldsD
  match h : (Tryz.prog.fieldsOf 26).toList, hf with
  | [f0, f1], hf =>
    clear h
    simp only [List.map_cons, List.map_nil, List.cons.injEq, Prod.mk.injEq, and_true] at hf
    obtain ⟨⟨n0, t0, o0⟩, ⟨n1, t1, o1⟩⟩ := hf
    have u3 : Tryz.prog.underlying 2 = some (.int .i64) := Tryz.underlying2
    simp [Op.eqFields, n0, n1, t0, t1, o0, o1, go_sem, u3]
  | [], hf => simp at hf
  | [_], hf => simp at hf
  | _ :: _ :: _ :: _, hf => simp at hf
theorem rt_eqlD (a b : Int) (w : World) : (binOp .eql 26 (.agg #[.int .i64 a, .int .i64 b]) (.agg #[.int .i64 a, .int .i64 b])).run Tryz.prog w = .ok (.bool true) w := by
  rw [run_eql_struct, rt_sameD]; rfl

set_option maxHeartbeats 400000 in
theorem as11 (a0 a1 a2 a3 a4 a5 : Int) (w : World) : Calls Tryz.prog 8 #[.agg #[.int .i64 a0, .int .i64 a1, .int .i64 a2, .int .i64 a3, .int .i64 a4, .int .i64 a5]] w fun e w' => e = .returned (.agg #[.int .i64 a0, .int .i64 a1, .int .i64 a2, .int .i64 a3, .int .i64 a4, .int .i64 a5]) ∧ Below w.heap.size w w' := by
  go_enter Tryz.func8, Tryz.ntmps8
  go_wp2
  exact bodyPost_ret (v := .agg #[.int .i64 a0, .int .i64 a1, .int .i64 a2, .int .i64 a3, .int .i64 a4, .int .i64 a5]) (by simp [results, Tryz.results8, go_sem]) rfl ⟨rfl, by first | exact bel1 _ _ | exact bup (bel1 _ _) (bel1 _ _)⟩
set_option maxHeartbeats 400000 in
theorem by11 (a0 a1 a2 a3 a4 a5 : Int) (w : World) : Calls Tryz.prog 10 #[.agg #[.int .i64 a0, .int .i64 a1, .int .i64 a2, .int .i64 a3, .int .i64 a4, .int .i64 a5]] w fun e w' => e = .returned (.agg #[.int .i64 a0, .int .i64 a1, .int .i64 a2, .int .i64 a3, .int .i64 a4, .int .i64 a5]) ∧ Below w.heap.size w w' := by
  go_enter Tryz.func10, Tryz.ntmps10
  go_wp2
  exact bodyPost_ret (v := .agg #[.int .i64 a0, .int .i64 a1, .int .i64 a2, .int .i64 a3, .int .i64 a4, .int .i64 a5]) (by simp [results, Tryz.results10, go_sem]) rfl ⟨rfl, by first | exact bel1 _ _ | exact bup (bel1 _ _) (bel1 _ _)⟩

/-- What lies at the head of SpeedCounts. -/
structure ScV (w : World) (s : ByteArray) (v : Value) (a0 a1 a2 a3 a4 a5 : Int) (W : World) : Prop where
  below : Below w.heap.size w W
  txt : TxtV W w.heap.size s v
  six : SixC W (w.heap.size + 1) 28 a0 a1 a2 a3 a4 a5
theorem ScV.keep {w W W' : World} {s : ByteArray} {v : Value} {a0 a1 a2 a3 a4 a5 : Int} (h : ScV w s v a0 a1 a2 a3 a4 a5 W) (b : Below W.heap.size W W') : ScV w s v a0 a1 a2 a3 a4 a5 W' := ⟨bup h.below b, h.txt.keep b, h.six.keep b⟩
theorem ScV.set {w W : World} {s : ByteArray} {v : Value} {a0 a1 a2 a3 a4 a5 : Int} {r : Nat} {a b : Value} (h : ScV w s v a0 a1 a2 a3 a4 a5 W) (hr : w.heap.size + 1 < r) : ScV w s v a0 a1 a2 a3 a4 a5 ((W.setCell ⟨r, 0, none⟩ a).setCell ⟨r, 1, none⟩ b) :=
  ⟨(h.below.setCell (by simp; omega) _).setCell (by simp; omega) _, h.txt.set (by omega), h.six.set (by omega)⟩
theorem ScV.lt {w W : World} {s : ByteArray} {v : Value} {a0 a1 a2 a3 a4 a5 : Int} (h : ScV w s v a0 a1 a2 a3 a4 a5 W) : w.heap.size + 1 < W.heap.size := (Array.getElem?_eq_some_iff.1 h.six).1

theorem signs_leD (s : ByteArray) : (signs s).length ≤ s.size := sgns_length s s.size 0
/-- What both Wants tell. -/
theorem wants_same (n : Nat) (hn : (n : Int) ≤ 4611686018427387904) (S L G : Rt) (ec : Int) (RB : Bool) (hRB : (rightB S && decide (0 < S.N) && decide (timeA L = 0) && decide (timeA G = 0)) = RB)
    (q : Rt × Int) (hq : divA ⟨n, 1⟩ S = q) : ∃ r0 r1 r2 p0 p1 p2 : Int,
      ((¬ (if q.2 = 0 then timeA q.1 else q.2) = 0 ∧ p0 = 0 ∧ p1 = 0 ∧ p2 = (if q.2 = 0 then timeA q.1 else q.2)) ∨ ((if q.2 = 0 then timeA q.1 else q.2) = 0 ∧ p0 = (if cmpI q.1 L = 1 then q.1 else L).N ∧ p1 = (if cmpI q.1 L = 1 then q.1 else L).D ∧ p2 = 0)) ∧
      ((¬ ec = 0 ∧ r0 = 0 ∧ r1 = 0 ∧ r2 = ec) ∨ (ec = 0 ∧ RB = false ∧ r0 = 0 ∧ r1 = 0 ∧ r2 = 1) ∨ (ec = 0 ∧ RB = true ∧ r0 = p0 ∧ r1 = p1 ∧ r2 = p2)) ∧
      ((¬ ec = 0 ∧ r0 = 0 ∧ r1 = 0 ∧ r2 = ec) ∨ (ec = 0 ∧ RB = false ∧ r0 = 0 ∧ r1 = 0 ∧ r2 = 1) ∨ (ec = 0 ∧ RB = true ∧ (¬ q.2 = 0 ∨ 1048576 < q.1.D) ∧ r0 = 0 ∧ r1 = 0 ∧ r2 = 12) ∨ (ec = 0 ∧ RB = true ∧ q.2 = 0 ∧ ¬ 1048576 < q.1.D ∧ 0 < cmpI q.1 ⟨360000, 1⟩ ∧ r0 = 0 ∧ r1 = 0 ∧ r2 = 31) ∨ (ec = 0 ∧ RB = true ∧ q.2 = 0 ∧ ¬ 1048576 < q.1.D ∧ ¬ 0 < cmpI q.1 ⟨360000, 1⟩ ∧ cmpI q.1 L < 0 ∧ r0 = L.N ∧ r1 = L.D ∧ r2 = 0) ∨ (ec = 0 ∧ RB = true ∧ q.2 = 0 ∧ ¬ 1048576 < q.1.D ∧ ¬ 0 < cmpI q.1 ⟨360000, 1⟩ ∧ ¬ cmpI q.1 L < 0 ∧ r0 = q.1.N ∧ r1 = q.1.D ∧ r2 = 0)) := by
  have pe : ∃ p0 p1 p2 : Int, ((¬ (if q.2 = 0 then timeA q.1 else q.2) = 0 ∧ p0 = 0 ∧ p1 = 0 ∧ p2 = (if q.2 = 0 then timeA q.1 else q.2)) ∨ ((if q.2 = 0 then timeA q.1 else q.2) = 0 ∧ p0 = (if cmpI q.1 L = 1 then q.1 else L).N ∧ p1 = (if cmpI q.1 L = 1 then q.1 else L).D ∧ p2 = 0)) := by
    by_cases h : (if q.2 = 0 then timeA q.1 else q.2) = 0
    · exact ⟨_, _, _, .inr ⟨h, rfl, rfl, rfl⟩⟩
    · exact ⟨_, _, _, .inl ⟨h, rfl, rfl, rfl⟩⟩
  obtain ⟨p0, p1, p2, hp⟩ := pe
  by_cases he : ec = 0
  · cases RB with
    | false => exact ⟨0, 0, 1, p0, p1, p2, hp, .inr (.inl ⟨he, rfl, rfl, rfl, rfl⟩), .inr (.inl ⟨he, rfl, rfl, rfl, rfl⟩)⟩
    | true =>
      refine ⟨p0, p1, p2, p0, p1, p2, hp, .inr (.inr ⟨he, rfl, rfl, rfl, rfl⟩), ?_⟩
      simp only [Bool.and_eq_true, decide_eq_true_eq] at hRB
      obtain ⟨⟨⟨hS, hS0⟩, hL⟩, _⟩ := hRB
      have hnr : rightB ⟨n, 1⟩ = true := by
        rw [right_iff]
        refine ⟨by simp, by simp, by simp only; omega, by simp only; omega, by simp⟩
      rw [divA_right hnr hS (by omega)] at hq
      have hge : 0 ≤ valQ ⟨n, 1⟩ / valQ S := by
        rw [val_div]
        exact (Rat.divInt_nonneg_iff_of_pos_right (by simp only; omega)).2 (Int.mul_nonneg (by simp) (by have := val_pos S hS; omega))
      by_cases hz : q.2 = 0
      · have hz' : (low (valQ ⟨n, 1⟩ / valQ S)).2 = 0 := by rw [hq]; exact hz
        obtain ⟨qr, qv⟩ := low_ok_right _ hz'
        rw [hq] at qr qv
        rw [if_pos hz] at hp
        have hN : ¬ q.1.N < 0 := by
          rw [← qv] at hge
          intro h
          have := (Rat.divInt_nonneg_iff_of_pos_right (val_pos _ qr)).1 hge
          omega
        have hLr : rightB L = true := by
          rcases timeA_cases L with h | h | h | h | h
          · rw [h.2] at hL; omega
          · exact h.1
          · exact h.1
          · exact h.1
          · exact h.1
        rcases timeA_cases q.1 with h | h | h | h | h
        · rw [qr] at h; cases h.1
        · rw [h.2.2] at hp
          rcases hp with hp | hp
          · exact .inr (.inr (.inl ⟨he, rfl, .inr h.2.1, hp.2⟩))
          · exact absurd hp.1 (by omega)
        · exact absurd h.2.2.1 hN
        · rw [h.2.2.2.2] at hp
          rcases hp with hp | hp
          · exact .inr (.inr (.inr (.inl ⟨he, rfl, hz, h.2.1, h.2.2.2.1, hp.2⟩)))
          · exact absurd hp.1 (by omega)
        · rw [h.2.2.2.2] at hp
          rcases hp with hp | hp
          · exact absurd rfl hp.1
          · have hnc : ¬ 0 < cmpI q.1 ⟨360000, 1⟩ := h.2.2.2.1
            by_cases hc : cmpI q.1 L < 0
            · rw [if_neg (by omega)] at hp
              exact .inr (.inr (.inr (.inr (.inl ⟨he, rfl, hz, h.2.1, hnc, hc, hp.2⟩))))
            · by_cases hc1 : cmpI q.1 L = 1
              · rw [if_pos hc1] at hp
                exact .inr (.inr (.inr (.inr (.inr ⟨he, rfl, hz, h.2.1, hnc, hc, hp.2⟩))))
              · have := cmp_range q.1 L
                have e : q.1 = L := (cmp_zero qr hLr).1 (by omega)
                rw [if_neg hc1, ← e] at hp
                exact .inr (.inr (.inr (.inr (.inr ⟨he, rfl, hz, h.2.1, hnc, hc, hp.2⟩))))
      · rw [if_neg hz] at hp
        have h12 : q.2 = 12 := by
          rw [← hq]
          rw [← hq] at hz
          unfold low at hz ⊢
          split <;> simp_all
        rcases hp with hp | hp
        · exact .inr (.inr (.inl ⟨he, rfl, .inl hz, by rw [← h12]; exact hp.2⟩))
        · exact absurd hp.1 hz
  · exact ⟨0, 0, ec, p0, p1, p2, hp, .inl ⟨he, rfl, rfl, rfl⟩, .inl ⟨he, rfl, rfl, rfl⟩⟩

theorem divA_in (a b : Rt) : RtIn (divA a b).1 := by
  unfold divA
  split
  · split
    · exact ⟨⟨by simp [bad], by simp [bad]⟩, ⟨by simp [bad], by simp [bad]⟩⟩
    · exact low_in _
  · exact ⟨⟨by simp [bad], by simp [bad]⟩, ⟨by simp [bad], by simp [bad]⟩⟩
theorem chkT_size {s : ByteArray} {D : List Sp} (h : chkT s D = 0) : s.size ≤ 4096 := by
  unfold chkT at h
  by_cases hs : 4096 < s.size
  · rw [if_pos hs] at h; omega
  · omega

end Go.Proofs.YthhhglfcacoejaaGreatDoor
