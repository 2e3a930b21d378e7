/- The walk of surtitlelaw3.RatioNear. -/
import Derived.Test.YtmofjkfghidlnaaDoorRatFine
import Derived.Test.YtmofjkfghidlnaaDoorRatW15
import Derived.Deep.QuietTactic
import Derived.BigQuiet
namespace Go.Proofs.YtmofjkfghidlnaaDoor
open Go.RowKit
attribute [local go_sem] Oper.semAt_some

set_option maxRecDepth 100000 in
set_option maxHeartbeats 2000000 in
theorem nearS (rn rd gn gd z1 z2 : Int)
    (H1 : ∀ w, Calls Tryd.prog 43 #[.agg #[.int .i64 rn, .int .i64 rd], .agg #[.int .i64 gn, .int .i64 gd], .int .i64 1] w fun r w' => r = .returned (.tuple #[.agg #[.int .i64 rn, .int .i64 rd], .int .i64 0]) ∧ Below w.heap.size w w')
    (H2 : ∀ w, Calls Tryd.prog 43 #[.agg #[.int .i64 rn, .int .i64 rd], .agg #[.int .i64 gn, .int .i64 gd], .int .i64 3] w fun r w' => r = .returned (.tuple #[.agg #[.int .i64 rn, .int .i64 rd], .int .i64 0]) ∧ Below w.heap.size w w')
    (H3 : ∀ w, Calls Tryd.prog 43 #[.agg #[.int .i64 rn, .int .i64 rd], .agg #[.int .i64 gn, .int .i64 gd], .int .i64 2] w fun r w' => r = .returned (.tuple #[.agg #[.int .i64 rn, .int .i64 rd], .int .i64 0]) ∧ Below w.heap.size w w')
    (H4 : ∀ w, Calls Tryd.prog 39 #[.agg #[.int .i64 rn, .int .i64 rd], .agg #[.int .i64 rn, .int .i64 rd]] w fun r w' => r = .returned (.int .i64 0) ∧ Below w.heap.size w w')
    (H6 : ∀ w, Calls Tryd.prog 26 #[.agg #[.int .i64 rn, .int .i64 rd], .agg #[.int .i64 rn, .int .i64 rd]] w fun r w' => r = .returned (.tuple #[.agg #[.int .i64 z1, .int .i64 z2], .int .i64 0]) ∧ Below w.heap.size w w')
    (H9 : ∀ w, Calls Tryd.prog 39 #[.agg #[.int .i64 z1, .int .i64 z2], .agg #[.int .i64 z1, .int .i64 z2]] w fun r w' => r = .returned (.int .i64 0) ∧ Below w.heap.size w w') (w : World) :
    Calls Tryd.prog 13 #[.agg #[.int .i64 rn, .int .i64 rd], .agg #[.int .i64 gn, .int .i64 gd]] w fun e w' => e = .returned (.bool true) ∧ Below w.heap.size w w' := by
  have HK := hideR known_any
  have H1 := hideR H1
  have H2 := hideR H2
  have H3 := hideR H3
  have H4 := hideR H4
  have H6 := hideR H6
  have H9 := hideR H9
  go_enter Tryd.func13, Tryd.ntmps13
  go_wp2_with fail
  go_at_call 17
  refine Calls.mono (HK.out _) ?_
  rintro r1 w1 ⟨rfl, b1⟩
  have Ta := ((Two.new w (.int .i64 rn) (.int .i64 rd) 26).alloc (.cells #[.int .i64 gn, .int .i64 gd] 26)).keep b1
  have Tb := (Two.new (w.alloc (.cells #[.int .i64 rn, .int .i64 rd] 26)) (.int .i64 gn) (.int .i64 gd) 26).keep b1
  rw [show (w.alloc (.cells #[.int .i64 rn, .int .i64 rd] 26)).heap.size = w.heap.size + 1 by simp] at Tb
  have BB := bup (bel2 w _ _) b1
  clear b1
  obtain ⟨_, ac0, ac1, _, _⟩ := id Ta
  obtain ⟨_, bc0, bc1, _, _⟩ := id Tb
  go_wp2_with fail
  go_at_call 43
  refine Calls.mono (H1.out _) ?_
  rintro r2 w2 ⟨rfl, b2⟩
  clear ac0 ac1 bc0 bc1
  replace Ta := (Ta.keep b2).alloc (.cells #[.int .i64 rn, .int .i64 rd] 26)
  replace Tb := (Tb.keep b2).alloc (.cells #[.int .i64 rn, .int .i64 rd] 26)
  have Tl := Two.new w2 (.int .i64 rn) (.int .i64 rd) 26
  replace BB := bup (bup BB b2) (bel1 w2 (.cells #[.int .i64 rn, .int .i64 rd] 26))
  clear b2
  obtain ⟨_, ac0, ac1, _, _⟩ := id Ta
  obtain ⟨_, bc0, bc1, _, _⟩ := id Tb
  obtain ⟨_, lc0, lc1, _, _⟩ := id Tl
  go_wp2_with fail
  go_at_call 43
  refine Calls.mono (H2.out _) ?_
  rintro r3 w3 ⟨rfl, b3⟩
  clear ac0 ac1 bc0 bc1 lc0 lc1
  replace Ta := (Ta.keep b3).alloc (.cells #[.int .i64 rn, .int .i64 rd] 26)
  replace Tb := (Tb.keep b3).alloc (.cells #[.int .i64 rn, .int .i64 rd] 26)
  replace Tl := (Tl.keep b3).alloc (.cells #[.int .i64 rn, .int .i64 rd] 26)
  have Th := Two.new w3 (.int .i64 rn) (.int .i64 rd) 26
  replace BB := bup (bup BB b3) (bel1 w3 (.cells #[.int .i64 rn, .int .i64 rd] 26))
  clear b3
  obtain ⟨_, ac0, ac1, _, _⟩ := id Ta
  obtain ⟨_, bc0, bc1, _, _⟩ := id Tb
  obtain ⟨_, lc0, lc1, _, _⟩ := id Tl
  obtain ⟨_, hc0, hc1, _, _⟩ := id Th
  go_wp2_with fail
  go_at_call 43
  refine Calls.mono (H3.out _) ?_
  rintro r4 w4 ⟨rfl, b4⟩
  clear ac0 ac1 bc0 bc1 lc0 lc1 hc0 hc1
  replace Ta := (Ta.keep b4).alloc (.cells #[.int .i64 rn, .int .i64 rd] 26)
  replace Tb := (Tb.keep b4).alloc (.cells #[.int .i64 rn, .int .i64 rd] 26)
  replace Tl := (Tl.keep b4).alloc (.cells #[.int .i64 rn, .int .i64 rd] 26)
  replace Th := (Th.keep b4).alloc (.cells #[.int .i64 rn, .int .i64 rd] 26)
  have Tk := Two.new w4 (.int .i64 rn) (.int .i64 rd) 26
  replace BB := bup (bup BB b4) (bel1 w4 (.cells #[.int .i64 rn, .int .i64 rd] 26))
  clear b4
  obtain ⟨_, ac0, ac1, _, _⟩ := id Ta
  obtain ⟨_, bc0, bc1, _, _⟩ := id Tb
  obtain ⟨_, lc0, lc1, _, _⟩ := id Tl
  obtain ⟨_, hc0, hc1, _, _⟩ := id Th
  obtain ⟨_, kc0, kc1, _, _⟩ := id Tk
  go_wp2_with fail
  go_at_call 51
  refine Calls.mono (fine_ok _) ?_
  rintro r5 w5 ⟨rfl, hw⟩
  obtain rfl := hw.symm
  go_wp2_with fail
  go_at_call 51
  refine Calls.mono (fine_ok _) ?_
  rintro r6 w6 ⟨rfl, hw⟩
  obtain rfl := hw.symm
  go_wp2_with fail
  go_at_call 51
  refine Calls.mono (fine_ok _) ?_
  rintro r7 w7 ⟨rfl, hw⟩
  obtain rfl := hw.symm
  go_wp2_with fail
  go_at_call 39
  refine Calls.mono (H4.out _) ?_
  rintro r8 w8 ⟨rfl, b8⟩
  clear ac0 ac1 bc0 bc1 lc0 lc1 hc0 hc1 kc0 kc1
  replace Ta := Ta.keep b8
  replace Tb := Tb.keep b8
  replace Tl := Tl.keep b8
  replace Th := Th.keep b8
  replace Tk := Tk.keep b8
  replace BB := bup BB b8
  clear b8
  obtain ⟨_, ac0, ac1, _, _⟩ := id Ta
  obtain ⟨_, bc0, bc1, _, _⟩ := id Tb
  obtain ⟨_, lc0, lc1, _, _⟩ := id Tl
  obtain ⟨_, hc0, hc1, _, _⟩ := id Th
  obtain ⟨_, kc0, kc1, _, _⟩ := id Tk
  go_wp2_with fail
  go_at_call 39
  refine Calls.mono (H4.out _) ?_
  rintro r9 w9 ⟨rfl, b9⟩
  clear ac0 ac1 bc0 bc1 lc0 lc1 hc0 hc1 kc0 kc1
  replace Ta := Ta.keep b9
  replace Tb := Tb.keep b9
  replace Tl := Tl.keep b9
  replace Th := Th.keep b9
  replace Tk := Tk.keep b9
  replace BB := bup BB b9
  clear b9
  obtain ⟨_, ac0, ac1, _, _⟩ := id Ta
  obtain ⟨_, bc0, bc1, _, _⟩ := id Tb
  obtain ⟨_, lc0, lc1, _, _⟩ := id Tl
  obtain ⟨_, hc0, hc1, _, _⟩ := id Th
  obtain ⟨_, kc0, kc1, _, _⟩ := id Tk
  go_wp2_with fail
  go_at_call 26
  refine Calls.mono (H6.out _) ?_
  rintro r10 w10 ⟨rfl, b10⟩
  clear ac0 ac1 bc0 bc1 lc0 lc1 hc0 hc1 kc0 kc1
  replace Ta := (Ta.keep b10).alloc (.cells #[.int .i64 z1, .int .i64 z2] 26)
  replace Tb := (Tb.keep b10).alloc (.cells #[.int .i64 z1, .int .i64 z2] 26)
  replace Tl := (Tl.keep b10).alloc (.cells #[.int .i64 z1, .int .i64 z2] 26)
  replace Th := (Th.keep b10).alloc (.cells #[.int .i64 z1, .int .i64 z2] 26)
  replace Tk := (Tk.keep b10).alloc (.cells #[.int .i64 z1, .int .i64 z2] 26)
  have Ts := Two.new w10 (.int .i64 z1) (.int .i64 z2) 26
  replace BB := bup (bup BB b10) (bel1 w10 (.cells #[.int .i64 z1, .int .i64 z2] 26))
  clear b10
  obtain ⟨_, ac0, ac1, _, _⟩ := id Ta
  obtain ⟨_, bc0, bc1, _, _⟩ := id Tb
  obtain ⟨_, lc0, lc1, _, _⟩ := id Tl
  obtain ⟨_, hc0, hc1, _, _⟩ := id Th
  obtain ⟨_, kc0, kc1, _, _⟩ := id Tk
  obtain ⟨_, sc0, sc1, _, _⟩ := id Ts
  go_wp2_with fail
  go_quiet ((go_at_call 51; exact Calls.quiet_of_same (fine_ok _)))
  clear ac0 ac1 bc0 bc1 lc0 lc1 hc0 hc1 kc0 kc1 sc0 sc1
  replace Ta : Two ((w10.alloc (.cells #[.int .i64 z1, .int .i64 z2] 26)).drewN nq) _ _ _ := Ta
  replace Tb : Two ((w10.alloc (.cells #[.int .i64 z1, .int .i64 z2] 26)).drewN nq) _ _ _ := Tb
  replace Tl : Two ((w10.alloc (.cells #[.int .i64 z1, .int .i64 z2] 26)).drewN nq) _ _ _ := Tl
  replace Th : Two ((w10.alloc (.cells #[.int .i64 z1, .int .i64 z2] 26)).drewN nq) _ _ _ := Th
  replace Tk : Two ((w10.alloc (.cells #[.int .i64 z1, .int .i64 z2] 26)).drewN nq) _ _ _ := Tk
  replace Ts : Two ((w10.alloc (.cells #[.int .i64 z1, .int .i64 z2] 26)).drewN nq) _ _ _ := Ts
  replace BB : Below w.heap.size w ((w10.alloc (.cells #[.int .i64 z1, .int .i64 z2] 26)).drewN nq) := below_drewN BB nq
  generalize (w10.alloc (.cells #[.int .i64 z1, .int .i64 z2] 26)).drewN nq = U at *
  obtain ⟨_, ac0, ac1, _, _⟩ := id Ta
  obtain ⟨_, bc0, bc1, _, _⟩ := id Tb
  obtain ⟨_, lc0, lc1, _, _⟩ := id Tl
  obtain ⟨_, hc0, hc1, _, _⟩ := id Th
  obtain ⟨_, kc0, kc1, _, _⟩ := id Tk
  obtain ⟨_, sc0, sc1, _, _⟩ := id Ts
  go_wp2_with fail
  go_at_call 26
  refine Calls.mono (H6.out _) ?_
  rintro r11 w11 ⟨rfl, b11⟩
  clear ac0 ac1 bc0 bc1 lc0 lc1 hc0 hc1 kc0 kc1 sc0 sc1
  replace Ta := (Ta.keep b11).alloc (.cells #[.int .i64 z1, .int .i64 z2] 26)
  replace Tb := (Tb.keep b11).alloc (.cells #[.int .i64 z1, .int .i64 z2] 26)
  replace Tl := (Tl.keep b11).alloc (.cells #[.int .i64 z1, .int .i64 z2] 26)
  replace Th := (Th.keep b11).alloc (.cells #[.int .i64 z1, .int .i64 z2] 26)
  replace Tk := (Tk.keep b11).alloc (.cells #[.int .i64 z1, .int .i64 z2] 26)
  replace Ts := (Ts.keep b11).alloc (.cells #[.int .i64 z1, .int .i64 z2] 26)
  have Td := Two.new w11 (.int .i64 z1) (.int .i64 z2) 26
  replace BB := bup (bup BB b11) (bel1 w11 (.cells #[.int .i64 z1, .int .i64 z2] 26))
  clear b11
  obtain ⟨_, ac0, ac1, _, _⟩ := id Ta
  obtain ⟨_, bc0, bc1, _, _⟩ := id Tb
  obtain ⟨_, lc0, lc1, _, _⟩ := id Tl
  obtain ⟨_, hc0, hc1, _, _⟩ := id Th
  obtain ⟨_, kc0, kc1, _, _⟩ := id Tk
  obtain ⟨_, sc0, sc1, _, _⟩ := id Ts
  obtain ⟨_, dc0, dc1, _, _⟩ := id Td
  go_wp2_with fail
  go_at_call 26
  refine Calls.mono (H6.out _) ?_
  rintro r12 w12 ⟨rfl, b12⟩
  clear ac0 ac1 bc0 bc1 lc0 lc1 hc0 hc1 kc0 kc1 sc0 sc1 dc0 dc1
  replace Ta := (Ta.keep b12).alloc (.cells #[.int .i64 z1, .int .i64 z2] 26)
  replace Tb := (Tb.keep b12).alloc (.cells #[.int .i64 z1, .int .i64 z2] 26)
  replace Tl := (Tl.keep b12).alloc (.cells #[.int .i64 z1, .int .i64 z2] 26)
  replace Th := (Th.keep b12).alloc (.cells #[.int .i64 z1, .int .i64 z2] 26)
  replace Tk := (Tk.keep b12).alloc (.cells #[.int .i64 z1, .int .i64 z2] 26)
  replace Ts := (Ts.keep b12).alloc (.cells #[.int .i64 z1, .int .i64 z2] 26)
  replace Td := (Td.keep b12).alloc (.cells #[.int .i64 z1, .int .i64 z2] 26)
  have Tu := Two.new w12 (.int .i64 z1) (.int .i64 z2) 26
  replace BB := bup (bup BB b12) (bel1 w12 (.cells #[.int .i64 z1, .int .i64 z2] 26))
  clear b12
  obtain ⟨_, ac0, ac1, _, _⟩ := id Ta
  obtain ⟨_, bc0, bc1, _, _⟩ := id Tb
  obtain ⟨_, lc0, lc1, _, _⟩ := id Tl
  obtain ⟨_, hc0, hc1, _, _⟩ := id Th
  obtain ⟨_, kc0, kc1, _, _⟩ := id Tk
  obtain ⟨_, sc0, sc1, _, _⟩ := id Ts
  obtain ⟨_, dc0, dc1, _, _⟩ := id Td
  obtain ⟨_, uc0, uc1, _, _⟩ := id Tu
  go_wp2_with fail
  go_at_call 51
  refine Calls.mono (fine_ok _) ?_
  rintro r13 w13 ⟨rfl, hw⟩
  obtain rfl := hw.symm
  go_wp2_with fail
  go_at_call 51
  refine Calls.mono (fine_ok _) ?_
  rintro r14 w14 ⟨rfl, hw⟩
  obtain rfl := hw.symm
  go_wp2_with fail
  go_at_call 39
  refine Calls.mono (H9.out _) ?_
  rintro r15 w15 ⟨rfl, b15⟩
  clear ac0 ac1 bc0 bc1 lc0 lc1 hc0 hc1 kc0 kc1 sc0 sc1 dc0 dc1 uc0 uc1
  replace Ta := Ta.keep b15
  replace Tb := Tb.keep b15
  replace Tl := Tl.keep b15
  replace Th := Th.keep b15
  replace Tk := Tk.keep b15
  replace Ts := Ts.keep b15
  replace Td := Td.keep b15
  replace Tu := Tu.keep b15
  replace BB := bup BB b15
  clear b15
  obtain ⟨_, ac0, ac1, _, _⟩ := id Ta
  obtain ⟨_, bc0, bc1, _, _⟩ := id Tb
  obtain ⟨_, lc0, lc1, _, _⟩ := id Tl
  obtain ⟨_, hc0, hc1, _, _⟩ := id Th
  obtain ⟨_, kc0, kc1, _, _⟩ := id Tk
  obtain ⟨_, sc0, sc1, _, _⟩ := id Ts
  obtain ⟨_, dc0, dc1, _, _⟩ := id Td
  obtain ⟨_, uc0, uc1, _, _⟩ := id Tu
  go_wp2_with fail
  go_ret
  exact ⟨by first | rfl | simp, BB⟩

set_option maxRecDepth 100000 in
set_option maxHeartbeats 2000000 in
theorem nearN (rn rd gn gd ln ld hn hd kn kd e f g : Int) (hnn : ¬ (e = 0 ∧ f = 0 ∧ g = 0))
    (H1 : ∀ w, Calls Tryd.prog 43 #[.agg #[.int .i64 rn, .int .i64 rd], .agg #[.int .i64 gn, .int .i64 gd], .int .i64 1] w fun r w' => r = .returned (.tuple #[.agg #[.int .i64 ln, .int .i64 ld], .int .i64 e]) ∧ Below w.heap.size w w')
    (H2 : ∀ w, Calls Tryd.prog 43 #[.agg #[.int .i64 rn, .int .i64 rd], .agg #[.int .i64 gn, .int .i64 gd], .int .i64 3] w fun r w' => r = .returned (.tuple #[.agg #[.int .i64 hn, .int .i64 hd], .int .i64 f]) ∧ Below w.heap.size w w')
    (H3 : ∀ w, Calls Tryd.prog 43 #[.agg #[.int .i64 rn, .int .i64 rd], .agg #[.int .i64 gn, .int .i64 gd], .int .i64 2] w fun r w' => r = .returned (.tuple #[.agg #[.int .i64 kn, .int .i64 kd], .int .i64 g]) ∧ Below w.heap.size w w') (w : World) :
    Calls Tryd.prog 13 #[.agg #[.int .i64 rn, .int .i64 rd], .agg #[.int .i64 gn, .int .i64 gd]] w fun e w' => e = .returned (.bool true) ∧ Below w.heap.size w w' := by
  have HK := hideR known_any
  have H1 := hideR H1
  have H2 := hideR H2
  have H3 := hideR H3
  go_enter Tryd.func13, Tryd.ntmps13
  go_wp2_with fail
  go_at_call 17
  refine Calls.mono (HK.out _) ?_
  rintro r1 w1 ⟨rfl, b1⟩
  have Ta := ((Two.new w (.int .i64 rn) (.int .i64 rd) 26).alloc (.cells #[.int .i64 gn, .int .i64 gd] 26)).keep b1
  have Tb := (Two.new (w.alloc (.cells #[.int .i64 rn, .int .i64 rd] 26)) (.int .i64 gn) (.int .i64 gd) 26).keep b1
  rw [show (w.alloc (.cells #[.int .i64 rn, .int .i64 rd] 26)).heap.size = w.heap.size + 1 by simp] at Tb
  have BB := bup (bel2 w _ _) b1
  clear b1
  obtain ⟨_, ac0, ac1, _, _⟩ := id Ta
  obtain ⟨_, bc0, bc1, _, _⟩ := id Tb
  go_wp2_with fail
  go_at_call 43
  refine Calls.mono (H1.out _) ?_
  rintro r2 w2 ⟨rfl, b2⟩
  clear ac0 ac1 bc0 bc1
  replace Ta := (Ta.keep b2).alloc (.cells #[.int .i64 ln, .int .i64 ld] 26)
  replace Tb := (Tb.keep b2).alloc (.cells #[.int .i64 ln, .int .i64 ld] 26)
  have Tl := Two.new w2 (.int .i64 ln) (.int .i64 ld) 26
  replace BB := bup (bup BB b2) (bel1 w2 (.cells #[.int .i64 ln, .int .i64 ld] 26))
  clear b2
  obtain ⟨_, ac0, ac1, _, _⟩ := id Ta
  obtain ⟨_, bc0, bc1, _, _⟩ := id Tb
  obtain ⟨_, lc0, lc1, _, _⟩ := id Tl
  go_wp2_with fail
  go_at_call 43
  refine Calls.mono (H2.out _) ?_
  rintro r3 w3 ⟨rfl, b3⟩
  clear ac0 ac1 bc0 bc1 lc0 lc1
  replace Ta := (Ta.keep b3).alloc (.cells #[.int .i64 hn, .int .i64 hd] 26)
  replace Tb := (Tb.keep b3).alloc (.cells #[.int .i64 hn, .int .i64 hd] 26)
  replace Tl := (Tl.keep b3).alloc (.cells #[.int .i64 hn, .int .i64 hd] 26)
  have Th := Two.new w3 (.int .i64 hn) (.int .i64 hd) 26
  replace BB := bup (bup BB b3) (bel1 w3 (.cells #[.int .i64 hn, .int .i64 hd] 26))
  clear b3
  obtain ⟨_, ac0, ac1, _, _⟩ := id Ta
  obtain ⟨_, bc0, bc1, _, _⟩ := id Tb
  obtain ⟨_, lc0, lc1, _, _⟩ := id Tl
  obtain ⟨_, hc0, hc1, _, _⟩ := id Th
  go_wp2_with fail
  go_at_call 43
  refine Calls.mono (H3.out _) ?_
  rintro r4 w4 ⟨rfl, b4⟩
  clear ac0 ac1 bc0 bc1 lc0 lc1 hc0 hc1
  replace Ta := (Ta.keep b4).alloc (.cells #[.int .i64 kn, .int .i64 kd] 26)
  replace Tb := (Tb.keep b4).alloc (.cells #[.int .i64 kn, .int .i64 kd] 26)
  replace Tl := (Tl.keep b4).alloc (.cells #[.int .i64 kn, .int .i64 kd] 26)
  replace Th := (Th.keep b4).alloc (.cells #[.int .i64 kn, .int .i64 kd] 26)
  have Tk := Two.new w4 (.int .i64 kn) (.int .i64 kd) 26
  replace BB := bup (bup BB b4) (bel1 w4 (.cells #[.int .i64 kn, .int .i64 kd] 26))
  clear b4
  obtain ⟨_, ac0, ac1, _, _⟩ := id Ta
  obtain ⟨_, bc0, bc1, _, _⟩ := id Tb
  obtain ⟨_, lc0, lc1, _, _⟩ := id Tl
  obtain ⟨_, hc0, hc1, _, _⟩ := id Th
  obtain ⟨_, kc0, kc1, _, _⟩ := id Tk
  go_wp2_with fail
  by_cases he : e = 0
  · subst he
    go_at_call 51
    refine Calls.mono (fine_ok _) ?_
    rintro r5 w5 ⟨rfl, hw⟩
    obtain rfl := hw.symm
    go_wp2_with fail
    by_cases hf : f = 0
    · subst hf
      go_at_call 51
      refine Calls.mono (fine_ok _) ?_
      rintro r6 w6 ⟨rfl, hw⟩
      obtain rfl := hw.symm
      go_wp2_with fail
      have hg : g ≠ 0 := fun h => hnn ⟨by trivial, by trivial, h⟩
      go_at_call 51
      refine Calls.mono (fine_not g hg _) ?_
      rintro r7 w7 ⟨rfl, hw⟩
      obtain rfl := hw.symm
      go_wp2_with fail
      go_ret
      exact ⟨by first | rfl | simp, BB⟩
    · go_at_call 51
      refine Calls.mono (fine_not f hf _) ?_
      rintro r6 w6 ⟨rfl, hw⟩
      obtain rfl := hw.symm
      go_wp2_with fail
      go_ret
      exact ⟨by first | rfl | simp, BB⟩
  · go_at_call 51
    refine Calls.mono (fine_not e he _) ?_
    rintro r5 w5 ⟨rfl, hw⟩
    obtain rfl := hw.symm
    go_wp2_with fail
    go_ret
    exact ⟨by first | rfl | simp, BB⟩
end Go.Proofs.YtmofjkfghidlnaaDoor
