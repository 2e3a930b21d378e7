/- The walk of surtitlelaw3.RatioTexts. -/
import Derived.Test.YtmofjkfghidlnaaDoorTold
import Derived.Test.YtmofjkfghidlnaaDoorBackZ
import Derived.Test.YtmofjkfghidlnaaDoorRefD4
import Derived.Test.YtmofjkfghidlnaaDoorRefE5F
import Derived.Test.YtmofjkfghidlnaaDoorRefE5T
import Derived.Deep.RegionHeld3
namespace Go.Proofs.YtmofjkfghidlnaaDoor
open Go.RowKit Go.Shelf
attribute [local go_sem] Oper.semAt_some bs_toList

theorem t6x {V : World} {A B C : Nat} {a0 a1 b0 b1 c0 c1 : Value} (x : Two V A a0 a1) (y : Two V B b0 b1) (z : Two V C c0 c1) : V.cell? ⟨A, 0, none⟩ = some a0 ∧ V.cell? ⟨A, 1, none⟩ = some a1 ∧ V.cell? ⟨B, 0, none⟩ = some b0 ∧ V.cell? ⟨B, 1, none⟩ = some b1 ∧ V.cell? ⟨C, 0, none⟩ = some c0 ∧ V.cell? ⟨C, 1, none⟩ = some c1 :=
  ⟨x.2.1, x.2.2.1, y.2.1, y.2.2.1, z.2.1, z.2.2.1⟩
set_option maxRecDepth 100000 in
theorem texts_long (s : ByteArray) (hs : 100000 < s.size) (an ad : Int) (w : World) :
    Calls Tryd.prog 10 #[.string s, .agg #[.int .i64 an, .int .i64 ad]] w fun e w' => e = .returned (.bool true) ∧ Below w.heap.size w w' := by
  have HK := hideR known_any
  have z : (100000 : Int) < (s.size : Int) := by omega
  go_enter Tryd.func10, Tryd.ntmps10
  go_wp2_with fail
  go_at_call 17
  refine Calls.mono (HK.out _) ?_
  rintro e w1 ⟨rfl, b1⟩
  go_wp2_with fail
  go_ret
  exact ⟨rfl, bup (bel1 w _) b1⟩
set_option maxRecDepth 100000 in
set_option maxHeartbeats 1000000 in
theorem texts_walkT (l tx : List UInt8) (hl : l.length ≤ 100000) (an ad xn xd ec : Int) (w : World)
    (H1 : ∀ w, Calls Tryd.prog 47 #[.string (bs l)] w fun e w' => e = .returned (.tuple #[.agg #[.int .i64 xn, .int .i64 xd], .int .i64 ec]) ∧ Below w.heap.size w w')
    (H2 : ∀ w, Calls Tryd.prog 48 #[.string (bs l)] w fun e w' => e = .returned (.tuple #[.agg #[.int .i64 xn, .int .i64 xd], .int .i64 ec]) ∧ Below w.heap.size w w')
    (H3 : ∀ w, Calls Tryd.prog 22 #[.agg #[.int .i64 an, .int .i64 ad]] w fun e w' => e = .returned (.bool true) ∧ Below w.heap.size w w')
    (H4 : ∀ w0, Below w.heap.size w w0 → Calls Tryd.prog 49 #[.agg #[.int .i64 an, .int .i64 ad]] w0 fun e w' => e = .returned (.string (bs tx)) ∧ Below w0.heap.size w0 w')
    (H5 : ∀ w, Calls Tryd.prog 50 #[.agg #[.int .i64 an, .int .i64 ad]] w fun e w' => e = .returned (.string (bs tx)) ∧ Below w.heap.size w w') :
    Calls Tryd.prog 10 #[.string (bs l), .agg #[.int .i64 an, .int .i64 ad]] w fun e w' => e = .returned (.bool true) ∧ Below w.heap.size w w' := by
  have HK := hideR known_any
  have H1 := hideR H1
  have H2 := hideR H2
  have H3 := hideR H3
  have H4 := hideR H4
  have H5 := hideR H5
  have HT := hideR (told_any xn xd ec)
  have hsz := bs_size l
  have z : ((bs l).size : Int) ≤ 100000 := by omega
  go_enter Tryd.func10, Tryd.ntmps10
  go_wp2_with fail
  go_at_call 17
  refine Calls.mono (HK.out _) ?_
  rintro e w1 ⟨rfl, b1⟩
  have P1 := (Two.new w (.int .i64 an) (.int .i64 ad) 26).keep b1
  have B1 := bup (bel1 w _) b1
  clear b1
  go_wp2_with fail
  go_at_call 47
  refine Calls.mono (H1.out _) ?_
  rintro e w2 ⟨rfl, b2⟩
  have P2 := (P1.keep b2).alloc (.cells #[.int .i64 xn, .int .i64 xd] 26)
  have X2 := Two.new w2 (.int .i64 xn) (.int .i64 xd) 26
  have B2 := bup (bup B1 b2) (bel1 w2 (.cells #[.int .i64 xn, .int .i64 xd] 26))
  clear P1 B1 b2
  go_wp2_with fail
  go_at_call 48
  refine Calls.mono (H2.out _) ?_
  rintro e w3 ⟨rfl, b3⟩
  have P3 := (P2.keep b3).alloc (.cells #[.int .i64 xn, .int .i64 xd] 26)
  have X3 := (X2.keep b3).alloc (.cells #[.int .i64 xn, .int .i64 xd] 26)
  have Y3 := Two.new w3 (.int .i64 xn) (.int .i64 xd) 26
  have B3 := bup (bup B2 b3) (bel1 w3 (.cells #[.int .i64 xn, .int .i64 xd] 26))
  clear P2 X2 B2 b3
  obtain ⟨_, p0, p1, _, _⟩ := id P3
  obtain ⟨_, x0, x1, _, _⟩ := id X3
  obtain ⟨_, y0, y1, _, _⟩ := id Y3
  have SC := t6x P3 X3 Y3
  go_wp2_with fail
  go_region_held3 (fun w' => w'.cell? ⟨w.heap.size, 0, none⟩ = some (.int .i64 an) ∧ w'.cell? ⟨w.heap.size, 1, none⟩ = some (.int .i64 ad) ∧ w'.cell? ⟨w2.heap.size, 0, none⟩ = some (.int .i64 xn) ∧ w'.cell? ⟨w2.heap.size, 1, none⟩ = some (.int .i64 xd) ∧ w'.cell? ⟨w3.heap.size, 0, none⟩ = some (.int .i64 xn) ∧ w'.cell? ⟨w3.heap.size, 1, none⟩ = some (.int .i64 xd)) (first | assumption | go_keep)
    (first
    | (go_at_call 25; refine (HT.out _).mono ?_; rintro e w4 ⟨rfl, b4⟩; have P4 := P3.drew.keep b4; have X4 := X3.drew.keep b4; have Y4 := Y3.drew.keep b4; have S4 := t6x P4 X4 Y4; have B4 := bup B3.drew b4)
    | (go_at_call 22; refine (H3.out _).mono ?_; rintro e w5 ⟨rfl, b5⟩; have P5 := P4.keep b5; have X5 := X4.keep b5; have Y5 := Y4.keep b5; have S5 := t6x P5 X5 Y5; have B5 := bup B4 b5)
    | (go_at_call 49; refine (H4.out _ B5).mono ?_; rintro e w6 ⟨rfl, b6⟩; have P6 := P5.keep b6; have X6 := X5.keep b6; have Y6 := Y5.keep b6; have S6 := t6x P6 X6 Y6; have B6 := bup B5 b6)
    | (go_at_call 50; refine (H5.out _).mono ?_; rintro e w7 ⟨rfl, b7⟩; have P7 := P6.keep b7; have X7 := X6.keep b7; have Y7 := Y6.keep b7; have S7 := t6x P7 X7 Y7; have B7 := bup B6 b7))
  all_goals (try go_wp2_with fail)
  all_goals (go_ret; exact ⟨by simp, B7⟩)
set_option maxRecDepth 100000 in
set_option maxHeartbeats 1000000 in
theorem texts_walkF (l : List UInt8) (hl : l.length ≤ 100000) (an ad xn xd ec : Int) (w : World)
    (H1 : ∀ w, Calls Tryd.prog 47 #[.string (bs l)] w fun e w' => e = .returned (.tuple #[.agg #[.int .i64 xn, .int .i64 xd], .int .i64 ec]) ∧ Below w.heap.size w w')
    (H2 : ∀ w, Calls Tryd.prog 48 #[.string (bs l)] w fun e w' => e = .returned (.tuple #[.agg #[.int .i64 xn, .int .i64 xd], .int .i64 ec]) ∧ Below w.heap.size w w')
    (H3 : ∀ w, Calls Tryd.prog 22 #[.agg #[.int .i64 an, .int .i64 ad]] w fun e w' => e = .returned (.bool false) ∧ Below w.heap.size w w') :
    Calls Tryd.prog 10 #[.string (bs l), .agg #[.int .i64 an, .int .i64 ad]] w fun e w' => e = .returned (.bool true) ∧ Below w.heap.size w w' := by
  have HK := hideR known_any
  have H1 := hideR H1
  have H2 := hideR H2
  have H3 := hideR H3
  have HT := hideR (told_any xn xd ec)
  have hsz := bs_size l
  have z : ((bs l).size : Int) ≤ 100000 := by omega
  go_enter Tryd.func10, Tryd.ntmps10
  go_wp2_with fail
  go_at_call 17
  refine Calls.mono (HK.out _) ?_
  rintro e w1 ⟨rfl, b1⟩
  have P1 := (Two.new w (.int .i64 an) (.int .i64 ad) 26).keep b1
  have B1 := bup (bel1 w _) b1
  clear b1
  go_wp2_with fail
  go_at_call 47
  refine Calls.mono (H1.out _) ?_
  rintro e w2 ⟨rfl, b2⟩
  have P2 := (P1.keep b2).alloc (.cells #[.int .i64 xn, .int .i64 xd] 26)
  have X2 := Two.new w2 (.int .i64 xn) (.int .i64 xd) 26
  have B2 := bup (bup B1 b2) (bel1 w2 (.cells #[.int .i64 xn, .int .i64 xd] 26))
  clear P1 B1 b2
  go_wp2_with fail
  go_at_call 48
  refine Calls.mono (H2.out _) ?_
  rintro e w3 ⟨rfl, b3⟩
  have P3 := (P2.keep b3).alloc (.cells #[.int .i64 xn, .int .i64 xd] 26)
  have X3 := (X2.keep b3).alloc (.cells #[.int .i64 xn, .int .i64 xd] 26)
  have Y3 := Two.new w3 (.int .i64 xn) (.int .i64 xd) 26
  have B3 := bup (bup B2 b3) (bel1 w3 (.cells #[.int .i64 xn, .int .i64 xd] 26))
  clear P2 X2 B2 b3
  obtain ⟨_, p0, p1, _, _⟩ := id P3
  obtain ⟨_, x0, x1, _, _⟩ := id X3
  obtain ⟨_, y0, y1, _, _⟩ := id Y3
  have SC := t6x P3 X3 Y3
  go_wp2_with fail
  go_region_with (first
    | (go_at_call 25; refine (HT.out _).mono ?_; rintro e w4 ⟨rfl, b4⟩; have P4 := P3.drew.keep b4; have X4 := X3.drew.keep b4; have Y4 := Y3.drew.keep b4; have S4 := t6x P4 X4 Y4; obtain ⟨p0, p1, x0, x1, y0, y1⟩ := id S4; have B4 := bup B3.drew b4)
    | (go_at_call 22; refine (H3.out _).mono ?_; rintro e w5 ⟨rfl, b5⟩; have P5 := P4.keep b5; have X5 := X4.keep b5; have Y5 := Y4.keep b5; have S5 := t6x P5 X5 Y5; obtain ⟨p0, p1, x0, x1, y0, y1⟩ := id S5; have B5 := bup B4 b5))
  all_goals (try go_wp2_with fail)
  all_goals (go_ret; exact ⟨by first | rfl | go_simp, B5⟩)
theorem texts_any (s : ByteArray) (r : Rt) (hr : RtIn r) (w : World) (hp : PowAt w) :
    Calls Tryd.prog 10 #[.string s, rtv r] w fun e w' => e = .returned (.bool true) ∧ Below w.heap.size w w' := by
  by_cases hs : 100000 < s.size
  · exact texts_long s hs r.N r.D w
  · obtain ⟨l, rfl⟩ : ∃ l, s = bs l := ⟨s.data.toList, (bs_of s).symm⟩
    have hl : l.length ≤ 100000 := by rw [← bs_size]; omega
    have hP := prefix_any l
    have HR := rright_r r hr
    have P1 : ∀ w, Calls Tryd.prog 48 #[.string (bs l)] w fun e w' => e = .returned (.tuple #[rtv (parseS (Lib.hasPrefix l [45]) (Lib.trimPrefix l [45])).1, .int .i64 (parseS (Lib.hasPrefix l [45]) (Lib.trimPrefix l [45])).2]) ∧ Below w.heap.size w w' := by
      cases l with
      | nil => exact rparseF [] (by simp) (by simp)
      | cons c t =>
        by_cases hc : c = 45
        · subst hc
          have e1 : Lib.hasPrefix (45 :: t) [45] = true := by simp [Lib.hasPrefix]
          have e2 : Lib.trimPrefix (45 :: t) [45] = t := by simp [Lib.trimPrefix, Lib.hasPrefix]
          rw [e1, e2]
          exact rparseT t (by simp at hl; omega)
        · have hx : ((45 : UInt8) == c) = false := by
            rw [beq_eq_false_iff_ne]
            exact Ne.symm hc
          have e1 : Lib.hasPrefix (c :: t) [45] = false := by simp [Lib.hasPrefix, List.isPrefixOf, hx]
          have e2 : Lib.trimPrefix (c :: t) [45] = c :: t := by
            unfold Lib.trimPrefix
            rw [e1]
            rfl
          rw [e1, e2]
          exact rparseF (c :: t) hl (by simpa using hc)
    have len : (Lib.trimPrefix l [45]).length ≤ 4611686018427387903 := by
      unfold Lib.trimPrefix
      split
      · rw [List.length_drop]
        omega
      · omega
    have P0 := parse_any l _ _ len hP
    cases hb : rightB r
    · rw [hb] at HR
      exact texts_walkF l hl r.N r.D _ _ _ w P0 P1 HR
    · rw [hb] at HR
      exact texts_walkT l (txt r) hl r.N r.D _ _ _ w P0 P1 HR (fun w0 b0 => text_any r hb hr w0 (hp.keep b0)) (rtext_any r hb hr)
end Go.Proofs.YtmofjkfghidlnaaDoor
