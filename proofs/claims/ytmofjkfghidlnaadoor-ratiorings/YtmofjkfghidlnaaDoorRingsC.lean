/- The walk of surtitlelaw3.RatioRings. -/
import Derived.Test.YtmofjkfghidlnaaDoorRatFine
import Derived.Test.YtmofjkfghidlnaaDoorRatW11
namespace Go.Proofs.YtmofjkfghidlnaaDoor
open Go.RowKit
attribute [local go_sem] Oper.semAt_some

set_option maxRecDepth 100000 in
set_option maxHeartbeats 4000000 in
theorem ringsC (an ad bn bd cn cd s1 s2 p1 p2 q1 q2 y1 y2 z1 z2 l1 l2 k m n m1 g : Int) (hg : g ≠ 0)
    (H1 : ∀ w, Calls Tryd.prog 23 #[.agg #[.int .i64 an, .int .i64 ad], .agg #[.int .i64 bn, .int .i64 bd]] w fun r w' => r = .returned (.tuple #[.agg #[.int .i64 s1, .int .i64 s2], .int .i64 0]) ∧ Below w.heap.size w w')
    (H2 : ∀ w, Calls Tryd.prog 23 #[.agg #[.int .i64 bn, .int .i64 bd], .agg #[.int .i64 an, .int .i64 ad]] w fun r w' => r = .returned (.tuple #[.agg #[.int .i64 s1, .int .i64 s2], .int .i64 0]) ∧ Below w.heap.size w w')
    (H3 : ∀ w, Calls Tryd.prog 30 #[.agg #[.int .i64 an, .int .i64 ad], .agg #[.int .i64 bn, .int .i64 bd]] w fun r w' => r = .returned (.tuple #[.agg #[.int .i64 p1, .int .i64 p2], .int .i64 g]) ∧ Below w.heap.size w w')
    (H4 : ∀ w, Calls Tryd.prog 30 #[.agg #[.int .i64 bn, .int .i64 bd], .agg #[.int .i64 an, .int .i64 ad]] w fun r w' => r = .returned (.tuple #[.agg #[.int .i64 p1, .int .i64 p2], .int .i64 g]) ∧ Below w.heap.size w w')
    (H5 : ∀ w, Calls Tryd.prog 26 #[.agg #[.int .i64 s1, .int .i64 s2], .agg #[.int .i64 bn, .int .i64 bd]] w fun r w' => r = .returned (.tuple #[.agg #[.int .i64 an, .int .i64 ad], .int .i64 0]) ∧ Below w.heap.size w w')
    (H6 : ∀ w, Calls Tryd.prog 21 #[.agg #[.int .i64 s1, .int .i64 s2]] w fun r w' => r = .returned (.bool true) ∧ Below w.heap.size w w')
    (H9 : ∀ w, Calls Tryd.prog 23 #[.agg #[.int .i64 bn, .int .i64 bd], .agg #[.int .i64 cn, .int .i64 cd]] w fun r w' => r = .returned (.tuple #[.agg #[.int .i64 q1, .int .i64 q2], .int .i64 k]) ∧ Below w.heap.size w w')
    (H10 : k = 0 → ∀ w, Calls Tryd.prog 23 #[.agg #[.int .i64 s1, .int .i64 s2], .agg #[.int .i64 cn, .int .i64 cd]] w fun r w' => r = .returned (.tuple #[.agg #[.int .i64 l1, .int .i64 l2], .int .i64 m1]) ∧ Below w.heap.size w w')
    (H11 : k = 0 → ∀ w, Calls Tryd.prog 23 #[.agg #[.int .i64 an, .int .i64 ad], .agg #[.int .i64 q1, .int .i64 q2]] w fun r w' => r = .returned (.tuple #[.agg #[.int .i64 l1, .int .i64 l2], .int .i64 m1]) ∧ Below w.heap.size w w')
    (H12 : ∀ w, Calls Tryd.prog 30 #[.agg #[.int .i64 bn, .int .i64 bd], .agg #[.int .i64 cn, .int .i64 cd]] w fun r w' => r = .returned (.tuple #[.agg #[.int .i64 y1, .int .i64 y2], .int .i64 m]) ∧ Below w.heap.size w w')
    (H15 : ∀ w, Calls Tryd.prog 30 #[.agg #[.int .i64 an, .int .i64 ad], .agg #[.int .i64 cn, .int .i64 cd]] w fun r w' => r = .returned (.tuple #[.agg #[.int .i64 z1, .int .i64 z2], .int .i64 n]) ∧ Below w.heap.size w w') (w : World) :
    Calls Tryd.prog 11 #[.agg #[.int .i64 an, .int .i64 ad], .agg #[.int .i64 bn, .int .i64 bd], .agg #[.int .i64 cn, .int .i64 cd]] w fun e w' => e = .returned (.bool true) ∧ Below w.heap.size w w' := by
  have HK := hideR known_any
  have H1 := hideR H1
  have H2 := hideR H2
  have H3 := hideR H3
  have H4 := hideR H4
  have H5 := hideR H5
  have H6 := hideR H6
  have H9 := hideR H9
  have H10 := hideR H10
  have H11 := hideR H11
  have H12 := hideR H12
  have H15 := hideR H15
  go_enter Tryd.func11, Tryd.ntmps11
  go_wp2_with fail
  go_at_call 17
  refine Calls.mono (HK.out _) ?_
  rintro r1 w1 ⟨rfl, b1⟩
  have S1 := (Three.new w _ _ _ _ _ _ 26).keep b1
  have BB := bup (bel3 w _ _ _) b1
  clear b1
  obtain ⟨Ta, Tb, Tc⟩ := S1
  obtain ⟨_, ac0, ac1, _, _⟩ := id Ta
  obtain ⟨_, bc0, bc1, _, _⟩ := id Tb
  obtain ⟨_, cc0, cc1, _, _⟩ := id Tc
  go_wp2_with fail
  go_at_call 23
  refine Calls.mono (H1.out _) ?_
  rintro r2 w2 ⟨rfl, b2⟩
  clear ac0 ac1 bc0 bc1 cc0 cc1
  replace Ta := (Ta.keep b2).alloc (.cells #[.int .i64 s1, .int .i64 s2] 26)
  replace Tb := (Tb.keep b2).alloc (.cells #[.int .i64 s1, .int .i64 s2] 26)
  replace Tc := (Tc.keep b2).alloc (.cells #[.int .i64 s1, .int .i64 s2] 26)
  have Ts := Two.new w2 (.int .i64 s1) (.int .i64 s2) 26
  replace BB := bup (bup BB b2) (bel1 w2 (.cells #[.int .i64 s1, .int .i64 s2] 26))
  clear b2
  obtain ⟨_, ac0, ac1, _, _⟩ := id Ta
  obtain ⟨_, bc0, bc1, _, _⟩ := id Tb
  obtain ⟨_, cc0, cc1, _, _⟩ := id Tc
  obtain ⟨_, sc0, sc1, _, _⟩ := id Ts
  go_wp2_with fail
  go_at_call 23
  refine Calls.mono (H2.out _) ?_
  rintro r3 w3 ⟨rfl, b3⟩
  clear ac0 ac1 bc0 bc1 cc0 cc1 sc0 sc1
  replace Ta := (Ta.keep b3).alloc (.cells #[.int .i64 s1, .int .i64 s2] 26)
  replace Tb := (Tb.keep b3).alloc (.cells #[.int .i64 s1, .int .i64 s2] 26)
  replace Tc := (Tc.keep b3).alloc (.cells #[.int .i64 s1, .int .i64 s2] 26)
  replace Ts := (Ts.keep b3).alloc (.cells #[.int .i64 s1, .int .i64 s2] 26)
  have Tt := Two.new w3 (.int .i64 s1) (.int .i64 s2) 26
  replace BB := bup (bup BB b3) (bel1 w3 (.cells #[.int .i64 s1, .int .i64 s2] 26))
  clear b3
  obtain ⟨_, ac0, ac1, _, _⟩ := id Ta
  obtain ⟨_, bc0, bc1, _, _⟩ := id Tb
  obtain ⟨_, cc0, cc1, _, _⟩ := id Tc
  obtain ⟨_, sc0, sc1, _, _⟩ := id Ts
  obtain ⟨_, tc0, tc1, _, _⟩ := id Tt
  go_wp2_with fail
  go_at_call 30
  refine Calls.mono (H3.out _) ?_
  rintro r4 w4 ⟨rfl, b4⟩
  clear ac0 ac1 bc0 bc1 cc0 cc1 sc0 sc1 tc0 tc1
  replace Ta := (Ta.keep b4).alloc (.cells #[.int .i64 p1, .int .i64 p2] 26)
  replace Tb := (Tb.keep b4).alloc (.cells #[.int .i64 p1, .int .i64 p2] 26)
  replace Tc := (Tc.keep b4).alloc (.cells #[.int .i64 p1, .int .i64 p2] 26)
  replace Ts := (Ts.keep b4).alloc (.cells #[.int .i64 p1, .int .i64 p2] 26)
  replace Tt := (Tt.keep b4).alloc (.cells #[.int .i64 p1, .int .i64 p2] 26)
  have Tp := Two.new w4 (.int .i64 p1) (.int .i64 p2) 26
  replace BB := bup (bup BB b4) (bel1 w4 (.cells #[.int .i64 p1, .int .i64 p2] 26))
  clear b4
  obtain ⟨_, ac0, ac1, _, _⟩ := id Ta
  obtain ⟨_, bc0, bc1, _, _⟩ := id Tb
  obtain ⟨_, cc0, cc1, _, _⟩ := id Tc
  obtain ⟨_, sc0, sc1, _, _⟩ := id Ts
  obtain ⟨_, tc0, tc1, _, _⟩ := id Tt
  obtain ⟨_, pc0, pc1, _, _⟩ := id Tp
  go_wp2_with fail
  go_at_call 30
  refine Calls.mono (H4.out _) ?_
  rintro r5 w5 ⟨rfl, b5⟩
  clear ac0 ac1 bc0 bc1 cc0 cc1 sc0 sc1 tc0 tc1 pc0 pc1
  replace Ta := (Ta.keep b5).alloc (.cells #[.int .i64 p1, .int .i64 p2] 26)
  replace Tb := (Tb.keep b5).alloc (.cells #[.int .i64 p1, .int .i64 p2] 26)
  replace Tc := (Tc.keep b5).alloc (.cells #[.int .i64 p1, .int .i64 p2] 26)
  replace Ts := (Ts.keep b5).alloc (.cells #[.int .i64 p1, .int .i64 p2] 26)
  replace Tt := (Tt.keep b5).alloc (.cells #[.int .i64 p1, .int .i64 p2] 26)
  replace Tp := (Tp.keep b5).alloc (.cells #[.int .i64 p1, .int .i64 p2] 26)
  have Th := Two.new w5 (.int .i64 p1) (.int .i64 p2) 26
  replace BB := bup (bup BB b5) (bel1 w5 (.cells #[.int .i64 p1, .int .i64 p2] 26))
  clear b5
  obtain ⟨_, ac0, ac1, _, _⟩ := id Ta
  obtain ⟨_, bc0, bc1, _, _⟩ := id Tb
  obtain ⟨_, cc0, cc1, _, _⟩ := id Tc
  obtain ⟨_, sc0, sc1, _, _⟩ := id Ts
  obtain ⟨_, tc0, tc1, _, _⟩ := id Tt
  obtain ⟨_, pc0, pc1, _, _⟩ := id Tp
  obtain ⟨_, hc0, hc1, _, _⟩ := id Th
  go_wp2_with fail
  go_at_call 51
  refine Calls.mono (fine_ok _) ?_
  rintro r6 w6 ⟨rfl, hw⟩
  obtain rfl := hw.symm
  go_wp2_with fail
  go_at_call 26
  refine Calls.mono (H5.out _) ?_
  rintro r7 w7 ⟨rfl, b7⟩
  clear ac0 ac1 bc0 bc1 cc0 cc1 sc0 sc1 tc0 tc1 pc0 pc1 hc0 hc1
  replace Ta := (Ta.keep b7).alloc (.cells #[.int .i64 an, .int .i64 ad] 26)
  replace Tb := (Tb.keep b7).alloc (.cells #[.int .i64 an, .int .i64 ad] 26)
  replace Tc := (Tc.keep b7).alloc (.cells #[.int .i64 an, .int .i64 ad] 26)
  replace Ts := (Ts.keep b7).alloc (.cells #[.int .i64 an, .int .i64 ad] 26)
  replace Tt := (Tt.keep b7).alloc (.cells #[.int .i64 an, .int .i64 ad] 26)
  replace Tp := (Tp.keep b7).alloc (.cells #[.int .i64 an, .int .i64 ad] 26)
  replace Th := (Th.keep b7).alloc (.cells #[.int .i64 an, .int .i64 ad] 26)
  have Ti := Two.new w7 (.int .i64 an) (.int .i64 ad) 26
  replace BB := bup (bup BB b7) (bel1 w7 (.cells #[.int .i64 an, .int .i64 ad] 26))
  clear b7
  obtain ⟨_, ac0, ac1, _, _⟩ := id Ta
  obtain ⟨_, bc0, bc1, _, _⟩ := id Tb
  obtain ⟨_, cc0, cc1, _, _⟩ := id Tc
  obtain ⟨_, sc0, sc1, _, _⟩ := id Ts
  obtain ⟨_, tc0, tc1, _, _⟩ := id Tt
  obtain ⟨_, pc0, pc1, _, _⟩ := id Tp
  obtain ⟨_, hc0, hc1, _, _⟩ := id Th
  obtain ⟨_, ic0, ic1, _, _⟩ := id Ti
  go_wp2_with fail
  go_at_call 51
  refine Calls.mono (fine_ok _) ?_
  rintro r8 w8 ⟨rfl, hw⟩
  obtain rfl := hw.symm
  go_wp2_with fail
  go_at_call 21
  refine Calls.mono (H6.out _) ?_
  rintro r9 w9 ⟨rfl, b9⟩
  clear ac0 ac1 bc0 bc1 cc0 cc1 sc0 sc1 tc0 tc1 pc0 pc1 hc0 hc1 ic0 ic1
  replace Ta := Ta.keep b9
  replace Tb := Tb.keep b9
  replace Tc := Tc.keep b9
  replace Ts := Ts.keep b9
  replace Tt := Tt.keep b9
  replace Tp := Tp.keep b9
  replace Th := Th.keep b9
  replace Ti := Ti.keep b9
  replace BB := bup BB b9
  clear b9
  obtain ⟨_, ac0, ac1, _, _⟩ := id Ta
  obtain ⟨_, bc0, bc1, _, _⟩ := id Tb
  obtain ⟨_, cc0, cc1, _, _⟩ := id Tc
  obtain ⟨_, sc0, sc1, _, _⟩ := id Ts
  obtain ⟨_, tc0, tc1, _, _⟩ := id Tt
  obtain ⟨_, pc0, pc1, _, _⟩ := id Tp
  obtain ⟨_, hc0, hc1, _, _⟩ := id Th
  obtain ⟨_, ic0, ic1, _, _⟩ := id Ti
  go_wp2_with fail
  go_at_call 51
  refine Calls.mono (fine_not g hg _) ?_
  rintro r10 w10 ⟨rfl, hw⟩
  obtain rfl := hw.symm
  go_wp2_with fail
  go_at_call 23
  refine Calls.mono (H9.out _) ?_
  rintro r11 w11 ⟨rfl, b11⟩
  clear ac0 ac1 bc0 bc1 cc0 cc1 sc0 sc1 tc0 tc1 pc0 pc1 hc0 hc1 ic0 ic1
  replace Ta := (Ta.keep b11).alloc (.cells #[.int .i64 q1, .int .i64 q2] 26)
  replace Tb := (Tb.keep b11).alloc (.cells #[.int .i64 q1, .int .i64 q2] 26)
  replace Tc := (Tc.keep b11).alloc (.cells #[.int .i64 q1, .int .i64 q2] 26)
  replace Ts := (Ts.keep b11).alloc (.cells #[.int .i64 q1, .int .i64 q2] 26)
  replace Tt := (Tt.keep b11).alloc (.cells #[.int .i64 q1, .int .i64 q2] 26)
  replace Tp := (Tp.keep b11).alloc (.cells #[.int .i64 q1, .int .i64 q2] 26)
  replace Th := (Th.keep b11).alloc (.cells #[.int .i64 q1, .int .i64 q2] 26)
  replace Ti := (Ti.keep b11).alloc (.cells #[.int .i64 q1, .int .i64 q2] 26)
  have Tv := Two.new w11 (.int .i64 q1) (.int .i64 q2) 26
  replace BB := bup (bup BB b11) (bel1 w11 (.cells #[.int .i64 q1, .int .i64 q2] 26))
  clear b11
  obtain ⟨_, ac0, ac1, _, _⟩ := id Ta
  obtain ⟨_, bc0, bc1, _, _⟩ := id Tb
  obtain ⟨_, cc0, cc1, _, _⟩ := id Tc
  obtain ⟨_, sc0, sc1, _, _⟩ := id Ts
  obtain ⟨_, tc0, tc1, _, _⟩ := id Tt
  obtain ⟨_, pc0, pc1, _, _⟩ := id Tp
  obtain ⟨_, hc0, hc1, _, _⟩ := id Th
  obtain ⟨_, ic0, ic1, _, _⟩ := id Ti
  obtain ⟨_, vc0, vc1, _, _⟩ := id Tv
  go_wp2_with fail
  by_cases hk : k = 0
  · subst hk
    go_at_call 51
    refine Calls.mono (fine_ok _) ?_
    rintro r12 w12 ⟨rfl, hw⟩
    obtain rfl := hw.symm
    go_wp2_with fail
    go_at_call 51
    refine Calls.mono (fine_ok _) ?_
    rintro r13 w13 ⟨rfl, hw⟩
    obtain rfl := hw.symm
    go_wp2_with fail
    go_at_call 23
    refine Calls.mono ((H10.out (by trivial)) _) ?_
    rintro r14 w14 ⟨rfl, b14⟩
    clear ac0 ac1 bc0 bc1 cc0 cc1 sc0 sc1 tc0 tc1 pc0 pc1 hc0 hc1 ic0 ic1 vc0 vc1
    replace Ta := (Ta.keep b14).alloc (.cells #[.int .i64 l1, .int .i64 l2] 26)
    replace Tb := (Tb.keep b14).alloc (.cells #[.int .i64 l1, .int .i64 l2] 26)
    replace Tc := (Tc.keep b14).alloc (.cells #[.int .i64 l1, .int .i64 l2] 26)
    replace Ts := (Ts.keep b14).alloc (.cells #[.int .i64 l1, .int .i64 l2] 26)
    replace Tt := (Tt.keep b14).alloc (.cells #[.int .i64 l1, .int .i64 l2] 26)
    replace Tp := (Tp.keep b14).alloc (.cells #[.int .i64 l1, .int .i64 l2] 26)
    replace Th := (Th.keep b14).alloc (.cells #[.int .i64 l1, .int .i64 l2] 26)
    replace Ti := (Ti.keep b14).alloc (.cells #[.int .i64 l1, .int .i64 l2] 26)
    replace Tv := (Tv.keep b14).alloc (.cells #[.int .i64 l1, .int .i64 l2] 26)
    have Td := Two.new w14 (.int .i64 l1) (.int .i64 l2) 26
    replace BB := bup (bup BB b14) (bel1 w14 (.cells #[.int .i64 l1, .int .i64 l2] 26))
    clear b14
    obtain ⟨_, ac0, ac1, _, _⟩ := id Ta
    obtain ⟨_, bc0, bc1, _, _⟩ := id Tb
    obtain ⟨_, cc0, cc1, _, _⟩ := id Tc
    obtain ⟨_, sc0, sc1, _, _⟩ := id Ts
    obtain ⟨_, tc0, tc1, _, _⟩ := id Tt
    obtain ⟨_, pc0, pc1, _, _⟩ := id Tp
    obtain ⟨_, hc0, hc1, _, _⟩ := id Th
    obtain ⟨_, ic0, ic1, _, _⟩ := id Ti
    obtain ⟨_, vc0, vc1, _, _⟩ := id Tv
    obtain ⟨_, dc0, dc1, _, _⟩ := id Td
    go_wp2_with fail
    go_at_call 23
    refine Calls.mono ((H11.out (by trivial)) _) ?_
    rintro r15 w15 ⟨rfl, b15⟩
    clear ac0 ac1 bc0 bc1 cc0 cc1 sc0 sc1 tc0 tc1 pc0 pc1 hc0 hc1 ic0 ic1 vc0 vc1 dc0 dc1
    replace Ta := (Ta.keep b15).alloc (.cells #[.int .i64 l1, .int .i64 l2] 26)
    replace Tb := (Tb.keep b15).alloc (.cells #[.int .i64 l1, .int .i64 l2] 26)
    replace Tc := (Tc.keep b15).alloc (.cells #[.int .i64 l1, .int .i64 l2] 26)
    replace Ts := (Ts.keep b15).alloc (.cells #[.int .i64 l1, .int .i64 l2] 26)
    replace Tt := (Tt.keep b15).alloc (.cells #[.int .i64 l1, .int .i64 l2] 26)
    replace Tp := (Tp.keep b15).alloc (.cells #[.int .i64 l1, .int .i64 l2] 26)
    replace Th := (Th.keep b15).alloc (.cells #[.int .i64 l1, .int .i64 l2] 26)
    replace Ti := (Ti.keep b15).alloc (.cells #[.int .i64 l1, .int .i64 l2] 26)
    replace Tv := (Tv.keep b15).alloc (.cells #[.int .i64 l1, .int .i64 l2] 26)
    replace Td := (Td.keep b15).alloc (.cells #[.int .i64 l1, .int .i64 l2] 26)
    have Tf := Two.new w15 (.int .i64 l1) (.int .i64 l2) 26
    replace BB := bup (bup BB b15) (bel1 w15 (.cells #[.int .i64 l1, .int .i64 l2] 26))
    clear b15
    obtain ⟨_, ac0, ac1, _, _⟩ := id Ta
    obtain ⟨_, bc0, bc1, _, _⟩ := id Tb
    obtain ⟨_, cc0, cc1, _, _⟩ := id Tc
    obtain ⟨_, sc0, sc1, _, _⟩ := id Ts
    obtain ⟨_, tc0, tc1, _, _⟩ := id Tt
    obtain ⟨_, pc0, pc1, _, _⟩ := id Tp
    obtain ⟨_, hc0, hc1, _, _⟩ := id Th
    obtain ⟨_, ic0, ic1, _, _⟩ := id Ti
    obtain ⟨_, vc0, vc1, _, _⟩ := id Tv
    obtain ⟨_, dc0, dc1, _, _⟩ := id Td
    obtain ⟨_, fc0, fc1, _, _⟩ := id Tf
    go_wp2_with fail
    go_at_call 30
    refine Calls.mono (H12.out _) ?_
    rintro r16 w16 ⟨rfl, b16⟩
    clear ac0 ac1 bc0 bc1 cc0 cc1 sc0 sc1 tc0 tc1 pc0 pc1 hc0 hc1 ic0 ic1 vc0 vc1 dc0 dc1 fc0 fc1
    replace Ta := (Ta.keep b16).alloc (.cells #[.int .i64 y1, .int .i64 y2] 26)
    replace Tb := (Tb.keep b16).alloc (.cells #[.int .i64 y1, .int .i64 y2] 26)
    replace Tc := (Tc.keep b16).alloc (.cells #[.int .i64 y1, .int .i64 y2] 26)
    replace Ts := (Ts.keep b16).alloc (.cells #[.int .i64 y1, .int .i64 y2] 26)
    replace Tt := (Tt.keep b16).alloc (.cells #[.int .i64 y1, .int .i64 y2] 26)
    replace Tp := (Tp.keep b16).alloc (.cells #[.int .i64 y1, .int .i64 y2] 26)
    replace Th := (Th.keep b16).alloc (.cells #[.int .i64 y1, .int .i64 y2] 26)
    replace Ti := (Ti.keep b16).alloc (.cells #[.int .i64 y1, .int .i64 y2] 26)
    replace Tv := (Tv.keep b16).alloc (.cells #[.int .i64 y1, .int .i64 y2] 26)
    replace Td := (Td.keep b16).alloc (.cells #[.int .i64 y1, .int .i64 y2] 26)
    replace Tf := (Tf.keep b16).alloc (.cells #[.int .i64 y1, .int .i64 y2] 26)
    have Ty := Two.new w16 (.int .i64 y1) (.int .i64 y2) 26
    replace BB := bup (bup BB b16) (bel1 w16 (.cells #[.int .i64 y1, .int .i64 y2] 26))
    clear b16
    obtain ⟨_, ac0, ac1, _, _⟩ := id Ta
    obtain ⟨_, bc0, bc1, _, _⟩ := id Tb
    obtain ⟨_, cc0, cc1, _, _⟩ := id Tc
    obtain ⟨_, sc0, sc1, _, _⟩ := id Ts
    obtain ⟨_, tc0, tc1, _, _⟩ := id Tt
    obtain ⟨_, pc0, pc1, _, _⟩ := id Tp
    obtain ⟨_, hc0, hc1, _, _⟩ := id Th
    obtain ⟨_, ic0, ic1, _, _⟩ := id Ti
    obtain ⟨_, vc0, vc1, _, _⟩ := id Tv
    obtain ⟨_, dc0, dc1, _, _⟩ := id Td
    obtain ⟨_, fc0, fc1, _, _⟩ := id Tf
    obtain ⟨_, yc0, yc1, _, _⟩ := id Ty
    go_wp2_with fail
    go_at_call 51
    refine Calls.mono (fine_not g hg _) ?_
    rintro r17 w17 ⟨rfl, hw⟩
    obtain rfl := hw.symm
    go_wp2_with fail
    go_at_call 30
    refine Calls.mono (H15.out _) ?_
    rintro r18 w18 ⟨rfl, b18⟩
    clear ac0 ac1 bc0 bc1 cc0 cc1 sc0 sc1 tc0 tc1 pc0 pc1 hc0 hc1 ic0 ic1 vc0 vc1 dc0 dc1 fc0 fc1 yc0 yc1
    replace Ta := (Ta.keep b18).alloc (.cells #[.int .i64 z1, .int .i64 z2] 26)
    replace Tb := (Tb.keep b18).alloc (.cells #[.int .i64 z1, .int .i64 z2] 26)
    replace Tc := (Tc.keep b18).alloc (.cells #[.int .i64 z1, .int .i64 z2] 26)
    replace Ts := (Ts.keep b18).alloc (.cells #[.int .i64 z1, .int .i64 z2] 26)
    replace Tt := (Tt.keep b18).alloc (.cells #[.int .i64 z1, .int .i64 z2] 26)
    replace Tp := (Tp.keep b18).alloc (.cells #[.int .i64 z1, .int .i64 z2] 26)
    replace Th := (Th.keep b18).alloc (.cells #[.int .i64 z1, .int .i64 z2] 26)
    replace Ti := (Ti.keep b18).alloc (.cells #[.int .i64 z1, .int .i64 z2] 26)
    replace Tv := (Tv.keep b18).alloc (.cells #[.int .i64 z1, .int .i64 z2] 26)
    replace Td := (Td.keep b18).alloc (.cells #[.int .i64 z1, .int .i64 z2] 26)
    replace Tf := (Tf.keep b18).alloc (.cells #[.int .i64 z1, .int .i64 z2] 26)
    replace Ty := (Ty.keep b18).alloc (.cells #[.int .i64 z1, .int .i64 z2] 26)
    have Tz := Two.new w18 (.int .i64 z1) (.int .i64 z2) 26
    replace BB := bup (bup BB b18) (bel1 w18 (.cells #[.int .i64 z1, .int .i64 z2] 26))
    clear b18
    obtain ⟨_, ac0, ac1, _, _⟩ := id Ta
    obtain ⟨_, bc0, bc1, _, _⟩ := id Tb
    obtain ⟨_, cc0, cc1, _, _⟩ := id Tc
    obtain ⟨_, sc0, sc1, _, _⟩ := id Ts
    obtain ⟨_, tc0, tc1, _, _⟩ := id Tt
    obtain ⟨_, pc0, pc1, _, _⟩ := id Tp
    obtain ⟨_, hc0, hc1, _, _⟩ := id Th
    obtain ⟨_, ic0, ic1, _, _⟩ := id Ti
    obtain ⟨_, vc0, vc1, _, _⟩ := id Tv
    obtain ⟨_, dc0, dc1, _, _⟩ := id Td
    obtain ⟨_, fc0, fc1, _, _⟩ := id Tf
    obtain ⟨_, yc0, yc1, _, _⟩ := id Ty
    obtain ⟨_, zc0, zc1, _, _⟩ := id Tz
    go_wp2_with fail
    go_at_call 51
    refine Calls.mono (fine_ok _) ?_
    rintro r19 w19 ⟨rfl, hw⟩
    obtain rfl := hw.symm
    go_wp2_with fail
    go_at_call 51
    refine Calls.mono (fine_not g hg _) ?_
    rintro r20 w20 ⟨rfl, hw⟩
    obtain rfl := hw.symm
    go_wp2_with fail
    go_ret
    exact ⟨by first | rfl | simp, BB⟩
  · go_at_call 51
    refine Calls.mono (fine_ok _) ?_
    rintro r12 w12 ⟨rfl, hw⟩
    obtain rfl := hw.symm
    go_wp2_with fail
    go_at_call 51
    refine Calls.mono (fine_not k hk _) ?_
    rintro r13 w13 ⟨rfl, hw⟩
    obtain rfl := hw.symm
    go_wp2_with fail
    go_at_call 30
    refine Calls.mono (H12.out _) ?_
    rintro r14 w14 ⟨rfl, b14⟩
    clear ac0 ac1 bc0 bc1 cc0 cc1 sc0 sc1 tc0 tc1 pc0 pc1 hc0 hc1 ic0 ic1 vc0 vc1
    replace Ta := (Ta.keep b14).alloc (.cells #[.int .i64 y1, .int .i64 y2] 26)
    replace Tb := (Tb.keep b14).alloc (.cells #[.int .i64 y1, .int .i64 y2] 26)
    replace Tc := (Tc.keep b14).alloc (.cells #[.int .i64 y1, .int .i64 y2] 26)
    replace Ts := (Ts.keep b14).alloc (.cells #[.int .i64 y1, .int .i64 y2] 26)
    replace Tt := (Tt.keep b14).alloc (.cells #[.int .i64 y1, .int .i64 y2] 26)
    replace Tp := (Tp.keep b14).alloc (.cells #[.int .i64 y1, .int .i64 y2] 26)
    replace Th := (Th.keep b14).alloc (.cells #[.int .i64 y1, .int .i64 y2] 26)
    replace Ti := (Ti.keep b14).alloc (.cells #[.int .i64 y1, .int .i64 y2] 26)
    replace Tv := (Tv.keep b14).alloc (.cells #[.int .i64 y1, .int .i64 y2] 26)
    have Ty := Two.new w14 (.int .i64 y1) (.int .i64 y2) 26
    replace BB := bup (bup BB b14) (bel1 w14 (.cells #[.int .i64 y1, .int .i64 y2] 26))
    clear b14
    obtain ⟨_, ac0, ac1, _, _⟩ := id Ta
    obtain ⟨_, bc0, bc1, _, _⟩ := id Tb
    obtain ⟨_, cc0, cc1, _, _⟩ := id Tc
    obtain ⟨_, sc0, sc1, _, _⟩ := id Ts
    obtain ⟨_, tc0, tc1, _, _⟩ := id Tt
    obtain ⟨_, pc0, pc1, _, _⟩ := id Tp
    obtain ⟨_, hc0, hc1, _, _⟩ := id Th
    obtain ⟨_, ic0, ic1, _, _⟩ := id Ti
    obtain ⟨_, vc0, vc1, _, _⟩ := id Tv
    obtain ⟨_, yc0, yc1, _, _⟩ := id Ty
    go_wp2_with fail
    go_at_call 51
    refine Calls.mono (fine_not g hg _) ?_
    rintro r15 w15 ⟨rfl, hw⟩
    obtain rfl := hw.symm
    go_wp2_with fail
    go_at_call 30
    refine Calls.mono (H15.out _) ?_
    rintro r16 w16 ⟨rfl, b16⟩
    clear ac0 ac1 bc0 bc1 cc0 cc1 sc0 sc1 tc0 tc1 pc0 pc1 hc0 hc1 ic0 ic1 vc0 vc1 yc0 yc1
    replace Ta := (Ta.keep b16).alloc (.cells #[.int .i64 z1, .int .i64 z2] 26)
    replace Tb := (Tb.keep b16).alloc (.cells #[.int .i64 z1, .int .i64 z2] 26)
    replace Tc := (Tc.keep b16).alloc (.cells #[.int .i64 z1, .int .i64 z2] 26)
    replace Ts := (Ts.keep b16).alloc (.cells #[.int .i64 z1, .int .i64 z2] 26)
    replace Tt := (Tt.keep b16).alloc (.cells #[.int .i64 z1, .int .i64 z2] 26)
    replace Tp := (Tp.keep b16).alloc (.cells #[.int .i64 z1, .int .i64 z2] 26)
    replace Th := (Th.keep b16).alloc (.cells #[.int .i64 z1, .int .i64 z2] 26)
    replace Ti := (Ti.keep b16).alloc (.cells #[.int .i64 z1, .int .i64 z2] 26)
    replace Tv := (Tv.keep b16).alloc (.cells #[.int .i64 z1, .int .i64 z2] 26)
    replace Ty := (Ty.keep b16).alloc (.cells #[.int .i64 z1, .int .i64 z2] 26)
    have Tz := Two.new w16 (.int .i64 z1) (.int .i64 z2) 26
    replace BB := bup (bup BB b16) (bel1 w16 (.cells #[.int .i64 z1, .int .i64 z2] 26))
    clear b16
    obtain ⟨_, ac0, ac1, _, _⟩ := id Ta
    obtain ⟨_, bc0, bc1, _, _⟩ := id Tb
    obtain ⟨_, cc0, cc1, _, _⟩ := id Tc
    obtain ⟨_, sc0, sc1, _, _⟩ := id Ts
    obtain ⟨_, tc0, tc1, _, _⟩ := id Tt
    obtain ⟨_, pc0, pc1, _, _⟩ := id Tp
    obtain ⟨_, hc0, hc1, _, _⟩ := id Th
    obtain ⟨_, ic0, ic1, _, _⟩ := id Ti
    obtain ⟨_, vc0, vc1, _, _⟩ := id Tv
    obtain ⟨_, yc0, yc1, _, _⟩ := id Ty
    obtain ⟨_, zc0, zc1, _, _⟩ := id Tz
    go_wp2_with fail
    go_at_call 51
    refine Calls.mono (fine_not k hk _) ?_
    rintro r17 w17 ⟨rfl, hw⟩
    obtain rfl := hw.symm
    go_wp2_with fail
    go_ret
    exact ⟨by first | rfl | simp, BB⟩
end Go.Proofs.YtmofjkfghidlnaaDoor
