/- The walk of surtitlelaw3.RatioRings. -/
import Derived.Test.YtmofjkfghidlnaaDoorRatFine
import Derived.Test.YtmofjkfghidlnaaDoorRatW11
namespace Go.Proofs.YtmofjkfghidlnaaDoor
open Go.RowKit
attribute [local go_sem] Oper.semAt_some

set_option maxRecDepth 100000 in
set_option maxHeartbeats 4000000 in
theorem ringsF (an ad bn bd cn cd s1 s2 p1 p2 q1 q2 y1 y2 z1 z2 k m n e g : Int) (he : e ≠ 0) (hg : g ≠ 0)
    (H1 : ∀ w, Calls Tryd.prog 23 #[.agg #[.int .i64 an, .int .i64 ad], .agg #[.int .i64 bn, .int .i64 bd]] w fun r w' => r = .returned (.tuple #[.agg #[.int .i64 s1, .int .i64 s2], .int .i64 e]) ∧ Below w.heap.size w w')
    (H2 : ∀ w, Calls Tryd.prog 23 #[.agg #[.int .i64 bn, .int .i64 bd], .agg #[.int .i64 an, .int .i64 ad]] w fun r w' => r = .returned (.tuple #[.agg #[.int .i64 s1, .int .i64 s2], .int .i64 e]) ∧ Below w.heap.size w w')
    (H3 : ∀ w, Calls Tryd.prog 30 #[.agg #[.int .i64 an, .int .i64 ad], .agg #[.int .i64 bn, .int .i64 bd]] w fun r w' => r = .returned (.tuple #[.agg #[.int .i64 p1, .int .i64 p2], .int .i64 g]) ∧ Below w.heap.size w w')
    (H4 : ∀ w, Calls Tryd.prog 30 #[.agg #[.int .i64 bn, .int .i64 bd], .agg #[.int .i64 an, .int .i64 ad]] w fun r w' => r = .returned (.tuple #[.agg #[.int .i64 p1, .int .i64 p2], .int .i64 g]) ∧ Below w.heap.size w w')
    (H9 : ∀ w, Calls Tryd.prog 23 #[.agg #[.int .i64 bn, .int .i64 bd], .agg #[.int .i64 cn, .int .i64 cd]] w fun r w' => r = .returned (.tuple #[.agg #[.int .i64 q1, .int .i64 q2], .int .i64 k]) ∧ Below w.heap.size w w')
    (H12 : ∀ w, Calls Tryd.prog 30 #[.agg #[.int .i64 bn, .int .i64 bd], .agg #[.int .i64 cn, .int .i64 cd]] w fun r w' => r = .returned (.tuple #[.agg #[.int .i64 y1, .int .i64 y2], .int .i64 m]) ∧ Below w.heap.size w w')
    (H15 : ∀ w, Calls Tryd.prog 30 #[.agg #[.int .i64 an, .int .i64 ad], .agg #[.int .i64 cn, .int .i64 cd]] w fun r w' => r = .returned (.tuple #[.agg #[.int .i64 z1, .int .i64 z2], .int .i64 n]) ∧ Below w.heap.size w w') (w : World) :
    Calls Tryd.prog 11 #[.agg #[.int .i64 an, .int .i64 ad], .agg #[.int .i64 bn, .int .i64 bd], .agg #[.int .i64 cn, .int .i64 cd]] w fun e w' => e = .returned (.bool true) ∧ Below w.heap.size w w' := by
  have HK := hideR known_any
  have H1 := hideR H1
  have H2 := hideR H2
  have H3 := hideR H3
  have H4 := hideR H4
  have H9 := hideR H9
  have H12 := hideR H12
  have H15 := hideR H15
  go_enter Tryd.func11, Tryd.ntmps11
  go_wp2_with fail
  go_at_call 17
  refine Calls.mono (HK.out _) ?_
  rintro r1 w1 ⟨rfl, b1⟩
  have S1 := (Three.new w _ _ _ _ _ _ 26).keep b1
  have BB := bup (bel3 w _ _ _) b1
  clear b1
  obtain ⟨Ta, Tb, Tc⟩ := S1
  obtain ⟨_, ac0, ac1, _, _⟩ := id Ta
  obtain ⟨_, bc0, bc1, _, _⟩ := id Tb
  obtain ⟨_, cc0, cc1, _, _⟩ := id Tc
  go_wp2_with fail
  go_at_call 23
  refine Calls.mono (H1.out _) ?_
  rintro r2 w2 ⟨rfl, b2⟩
  clear ac0 ac1 bc0 bc1 cc0 cc1
  replace Ta := (Ta.keep b2).alloc (.cells #[.int .i64 s1, .int .i64 s2] 26)
  replace Tb := (Tb.keep b2).alloc (.cells #[.int .i64 s1, .int .i64 s2] 26)
  replace Tc := (Tc.keep b2).alloc (.cells #[.int .i64 s1, .int .i64 s2] 26)
  have Ts := Two.new w2 (.int .i64 s1) (.int .i64 s2) 26
  replace BB := bup (bup BB b2) (bel1 w2 (.cells #[.int .i64 s1, .int .i64 s2] 26))
  clear b2
  obtain ⟨_, ac0, ac1, _, _⟩ := id Ta
  obtain ⟨_, bc0, bc1, _, _⟩ := id Tb
  obtain ⟨_, cc0, cc1, _, _⟩ := id Tc
  obtain ⟨_, sc0, sc1, _, _⟩ := id Ts
  go_wp2_with fail
  go_at_call 23
  refine Calls.mono (H2.out _) ?_
  rintro r3 w3 ⟨rfl, b3⟩
  clear ac0 ac1 bc0 bc1 cc0 cc1 sc0 sc1
  replace Ta := (Ta.keep b3).alloc (.cells #[.int .i64 s1, .int .i64 s2] 26)
  replace Tb := (Tb.keep b3).alloc (.cells #[.int .i64 s1, .int .i64 s2] 26)
  replace Tc := (Tc.keep b3).alloc (.cells #[.int .i64 s1, .int .i64 s2] 26)
  replace Ts := (Ts.keep b3).alloc (.cells #[.int .i64 s1, .int .i64 s2] 26)
  have Tt := Two.new w3 (.int .i64 s1) (.int .i64 s2) 26
  replace BB := bup (bup BB b3) (bel1 w3 (.cells #[.int .i64 s1, .int .i64 s2] 26))
  clear b3
  obtain ⟨_, ac0, ac1, _, _⟩ := id Ta
  obtain ⟨_, bc0, bc1, _, _⟩ := id Tb
  obtain ⟨_, cc0, cc1, _, _⟩ := id Tc
  obtain ⟨_, sc0, sc1, _, _⟩ := id Ts
  obtain ⟨_, tc0, tc1, _, _⟩ := id Tt
  go_wp2_with fail
  go_at_call 30
  refine Calls.mono (H3.out _) ?_
  rintro r4 w4 ⟨rfl, b4⟩
  clear ac0 ac1 bc0 bc1 cc0 cc1 sc0 sc1 tc0 tc1
  replace Ta := (Ta.keep b4).alloc (.cells #[.int .i64 p1, .int .i64 p2] 26)
  replace Tb := (Tb.keep b4).alloc (.cells #[.int .i64 p1, .int .i64 p2] 26)
  replace Tc := (Tc.keep b4).alloc (.cells #[.int .i64 p1, .int .i64 p2] 26)
  replace Ts := (Ts.keep b4).alloc (.cells #[.int .i64 p1, .int .i64 p2] 26)
  replace Tt := (Tt.keep b4).alloc (.cells #[.int .i64 p1, .int .i64 p2] 26)
  have Tp := Two.new w4 (.int .i64 p1) (.int .i64 p2) 26
  replace BB := bup (bup BB b4) (bel1 w4 (.cells #[.int .i64 p1, .int .i64 p2] 26))
  clear b4
  obtain ⟨_, ac0, ac1, _, _⟩ := id Ta
  obtain ⟨_, bc0, bc1, _, _⟩ := id Tb
  obtain ⟨_, cc0, cc1, _, _⟩ := id Tc
  obtain ⟨_, sc0, sc1, _, _⟩ := id Ts
  obtain ⟨_, tc0, tc1, _, _⟩ := id Tt
  obtain ⟨_, pc0, pc1, _, _⟩ := id Tp
  go_wp2_with fail
  go_at_call 30
  refine Calls.mono (H4.out _) ?_
  rintro r5 w5 ⟨rfl, b5⟩
  clear ac0 ac1 bc0 bc1 cc0 cc1 sc0 sc1 tc0 tc1 pc0 pc1
  replace Ta := (Ta.keep b5).alloc (.cells #[.int .i64 p1, .int .i64 p2] 26)
  replace Tb := (Tb.keep b5).alloc (.cells #[.int .i64 p1, .int .i64 p2] 26)
  replace Tc := (Tc.keep b5).alloc (.cells #[.int .i64 p1, .int .i64 p2] 26)
  replace Ts := (Ts.keep b5).alloc (.cells #[.int .i64 p1, .int .i64 p2] 26)
  replace Tt := (Tt.keep b5).alloc (.cells #[.int .i64 p1, .int .i64 p2] 26)
  replace Tp := (Tp.keep b5).alloc (.cells #[.int .i64 p1, .int .i64 p2] 26)
  have Th := Two.new w5 (.int .i64 p1) (.int .i64 p2) 26
  replace BB := bup (bup BB b5) (bel1 w5 (.cells #[.int .i64 p1, .int .i64 p2] 26))
  clear b5
  obtain ⟨_, ac0, ac1, _, _⟩ := id Ta
  obtain ⟨_, bc0, bc1, _, _⟩ := id Tb
  obtain ⟨_, cc0, cc1, _, _⟩ := id Tc
  obtain ⟨_, sc0, sc1, _, _⟩ := id Ts
  obtain ⟨_, tc0, tc1, _, _⟩ := id Tt
  obtain ⟨_, pc0, pc1, _, _⟩ := id Tp
  obtain ⟨_, hc0, hc1, _, _⟩ := id Th
  go_wp2_with fail
  go_at_call 51
  refine Calls.mono (fine_not e he _) ?_
  rintro r6 w6 ⟨rfl, hw⟩
  obtain rfl := hw.symm
  go_wp2_with fail
  go_at_call 51
  refine Calls.mono (fine_not g hg _) ?_
  rintro r7 w7 ⟨rfl, hw⟩
  obtain rfl := hw.symm
  go_wp2_with fail
  go_at_call 23
  refine Calls.mono (H9.out _) ?_
  rintro r8 w8 ⟨rfl, b8⟩
  clear ac0 ac1 bc0 bc1 cc0 cc1 sc0 sc1 tc0 tc1 pc0 pc1 hc0 hc1
  replace Ta := (Ta.keep b8).alloc (.cells #[.int .i64 q1, .int .i64 q2] 26)
  replace Tb := (Tb.keep b8).alloc (.cells #[.int .i64 q1, .int .i64 q2] 26)
  replace Tc := (Tc.keep b8).alloc (.cells #[.int .i64 q1, .int .i64 q2] 26)
  replace Ts := (Ts.keep b8).alloc (.cells #[.int .i64 q1, .int .i64 q2] 26)
  replace Tt := (Tt.keep b8).alloc (.cells #[.int .i64 q1, .int .i64 q2] 26)
  replace Tp := (Tp.keep b8).alloc (.cells #[.int .i64 q1, .int .i64 q2] 26)
  replace Th := (Th.keep b8).alloc (.cells #[.int .i64 q1, .int .i64 q2] 26)
  have Tv := Two.new w8 (.int .i64 q1) (.int .i64 q2) 26
  replace BB := bup (bup BB b8) (bel1 w8 (.cells #[.int .i64 q1, .int .i64 q2] 26))
  clear b8
  obtain ⟨_, ac0, ac1, _, _⟩ := id Ta
  obtain ⟨_, bc0, bc1, _, _⟩ := id Tb
  obtain ⟨_, cc0, cc1, _, _⟩ := id Tc
  obtain ⟨_, sc0, sc1, _, _⟩ := id Ts
  obtain ⟨_, tc0, tc1, _, _⟩ := id Tt
  obtain ⟨_, pc0, pc1, _, _⟩ := id Tp
  obtain ⟨_, hc0, hc1, _, _⟩ := id Th
  obtain ⟨_, vc0, vc1, _, _⟩ := id Tv
  go_wp2_with fail
  by_cases hk : k = 0
  · subst hk
    go_at_call 51
    refine Calls.mono (fine_not e he _) ?_
    rintro r9 w9 ⟨rfl, hw⟩
    obtain rfl := hw.symm
    go_wp2_with fail
    go_at_call 30
    refine Calls.mono (H12.out _) ?_
    rintro r10 w10 ⟨rfl, b10⟩
    clear ac0 ac1 bc0 bc1 cc0 cc1 sc0 sc1 tc0 tc1 pc0 pc1 hc0 hc1 vc0 vc1
    replace Ta := (Ta.keep b10).alloc (.cells #[.int .i64 y1, .int .i64 y2] 26)
    replace Tb := (Tb.keep b10).alloc (.cells #[.int .i64 y1, .int .i64 y2] 26)
    replace Tc := (Tc.keep b10).alloc (.cells #[.int .i64 y1, .int .i64 y2] 26)
    replace Ts := (Ts.keep b10).alloc (.cells #[.int .i64 y1, .int .i64 y2] 26)
    replace Tt := (Tt.keep b10).alloc (.cells #[.int .i64 y1, .int .i64 y2] 26)
    replace Tp := (Tp.keep b10).alloc (.cells #[.int .i64 y1, .int .i64 y2] 26)
    replace Th := (Th.keep b10).alloc (.cells #[.int .i64 y1, .int .i64 y2] 26)
    replace Tv := (Tv.keep b10).alloc (.cells #[.int .i64 y1, .int .i64 y2] 26)
    have Ty := Two.new w10 (.int .i64 y1) (.int .i64 y2) 26
    replace BB := bup (bup BB b10) (bel1 w10 (.cells #[.int .i64 y1, .int .i64 y2] 26))
    clear b10
    obtain ⟨_, ac0, ac1, _, _⟩ := id Ta
    obtain ⟨_, bc0, bc1, _, _⟩ := id Tb
    obtain ⟨_, cc0, cc1, _, _⟩ := id Tc
    obtain ⟨_, sc0, sc1, _, _⟩ := id Ts
    obtain ⟨_, tc0, tc1, _, _⟩ := id Tt
    obtain ⟨_, pc0, pc1, _, _⟩ := id Tp
    obtain ⟨_, hc0, hc1, _, _⟩ := id Th
    obtain ⟨_, vc0, vc1, _, _⟩ := id Tv
    obtain ⟨_, yc0, yc1, _, _⟩ := id Ty
    go_wp2_with fail
    go_at_call 51
    refine Calls.mono (fine_not g hg _) ?_
    rintro r11 w11 ⟨rfl, hw⟩
    obtain rfl := hw.symm
    go_wp2_with fail
    go_at_call 30
    refine Calls.mono (H15.out _) ?_
    rintro r12 w12 ⟨rfl, b12⟩
    clear ac0 ac1 bc0 bc1 cc0 cc1 sc0 sc1 tc0 tc1 pc0 pc1 hc0 hc1 vc0 vc1 yc0 yc1
    replace Ta := (Ta.keep b12).alloc (.cells #[.int .i64 z1, .int .i64 z2] 26)
    replace Tb := (Tb.keep b12).alloc (.cells #[.int .i64 z1, .int .i64 z2] 26)
    replace Tc := (Tc.keep b12).alloc (.cells #[.int .i64 z1, .int .i64 z2] 26)
    replace Ts := (Ts.keep b12).alloc (.cells #[.int .i64 z1, .int .i64 z2] 26)
    replace Tt := (Tt.keep b12).alloc (.cells #[.int .i64 z1, .int .i64 z2] 26)
    replace Tp := (Tp.keep b12).alloc (.cells #[.int .i64 z1, .int .i64 z2] 26)
    replace Th := (Th.keep b12).alloc (.cells #[.int .i64 z1, .int .i64 z2] 26)
    replace Tv := (Tv.keep b12).alloc (.cells #[.int .i64 z1, .int .i64 z2] 26)
    replace Ty := (Ty.keep b12).alloc (.cells #[.int .i64 z1, .int .i64 z2] 26)
    have Tz := Two.new w12 (.int .i64 z1) (.int .i64 z2) 26
    replace BB := bup (bup BB b12) (bel1 w12 (.cells #[.int .i64 z1, .int .i64 z2] 26))
    clear b12
    obtain ⟨_, ac0, ac1, _, _⟩ := id Ta
    obtain ⟨_, bc0, bc1, _, _⟩ := id Tb
    obtain ⟨_, cc0, cc1, _, _⟩ := id Tc
    obtain ⟨_, sc0, sc1, _, _⟩ := id Ts
    obtain ⟨_, tc0, tc1, _, _⟩ := id Tt
    obtain ⟨_, pc0, pc1, _, _⟩ := id Tp
    obtain ⟨_, hc0, hc1, _, _⟩ := id Th
    obtain ⟨_, vc0, vc1, _, _⟩ := id Tv
    obtain ⟨_, yc0, yc1, _, _⟩ := id Ty
    obtain ⟨_, zc0, zc1, _, _⟩ := id Tz
    go_wp2_with fail
    go_at_call 51
    refine Calls.mono (fine_ok _) ?_
    rintro r13 w13 ⟨rfl, hw⟩
    obtain rfl := hw.symm
    go_wp2_with fail
    go_at_call 51
    refine Calls.mono (fine_not g hg _) ?_
    rintro r14 w14 ⟨rfl, hw⟩
    obtain rfl := hw.symm
    go_wp2_with fail
    go_ret
    exact ⟨by first | rfl | simp, BB⟩
  · go_at_call 51
    refine Calls.mono (fine_not e he _) ?_
    rintro r9 w9 ⟨rfl, hw⟩
    obtain rfl := hw.symm
    go_wp2_with fail
    go_at_call 30
    refine Calls.mono (H12.out _) ?_
    rintro r10 w10 ⟨rfl, b10⟩
    clear ac0 ac1 bc0 bc1 cc0 cc1 sc0 sc1 tc0 tc1 pc0 pc1 hc0 hc1 vc0 vc1
    replace Ta := (Ta.keep b10).alloc (.cells #[.int .i64 y1, .int .i64 y2] 26)
    replace Tb := (Tb.keep b10).alloc (.cells #[.int .i64 y1, .int .i64 y2] 26)
    replace Tc := (Tc.keep b10).alloc (.cells #[.int .i64 y1, .int .i64 y2] 26)
    replace Ts := (Ts.keep b10).alloc (.cells #[.int .i64 y1, .int .i64 y2] 26)
    replace Tt := (Tt.keep b10).alloc (.cells #[.int .i64 y1, .int .i64 y2] 26)
    replace Tp := (Tp.keep b10).alloc (.cells #[.int .i64 y1, .int .i64 y2] 26)
    replace Th := (Th.keep b10).alloc (.cells #[.int .i64 y1, .int .i64 y2] 26)
    replace Tv := (Tv.keep b10).alloc (.cells #[.int .i64 y1, .int .i64 y2] 26)
    have Ty := Two.new w10 (.int .i64 y1) (.int .i64 y2) 26
    replace BB := bup (bup BB b10) (bel1 w10 (.cells #[.int .i64 y1, .int .i64 y2] 26))
    clear b10
    obtain ⟨_, ac0, ac1, _, _⟩ := id Ta
    obtain ⟨_, bc0, bc1, _, _⟩ := id Tb
    obtain ⟨_, cc0, cc1, _, _⟩ := id Tc
    obtain ⟨_, sc0, sc1, _, _⟩ := id Ts
    obtain ⟨_, tc0, tc1, _, _⟩ := id Tt
    obtain ⟨_, pc0, pc1, _, _⟩ := id Tp
    obtain ⟨_, hc0, hc1, _, _⟩ := id Th
    obtain ⟨_, vc0, vc1, _, _⟩ := id Tv
    obtain ⟨_, yc0, yc1, _, _⟩ := id Ty
    go_wp2_with fail
    go_at_call 51
    refine Calls.mono (fine_not g hg _) ?_
    rintro r11 w11 ⟨rfl, hw⟩
    obtain rfl := hw.symm
    go_wp2_with fail
    go_at_call 30
    refine Calls.mono (H15.out _) ?_
    rintro r12 w12 ⟨rfl, b12⟩
    clear ac0 ac1 bc0 bc1 cc0 cc1 sc0 sc1 tc0 tc1 pc0 pc1 hc0 hc1 vc0 vc1 yc0 yc1
    replace Ta := (Ta.keep b12).alloc (.cells #[.int .i64 z1, .int .i64 z2] 26)
    replace Tb := (Tb.keep b12).alloc (.cells #[.int .i64 z1, .int .i64 z2] 26)
    replace Tc := (Tc.keep b12).alloc (.cells #[.int .i64 z1, .int .i64 z2] 26)
    replace Ts := (Ts.keep b12).alloc (.cells #[.int .i64 z1, .int .i64 z2] 26)
    replace Tt := (Tt.keep b12).alloc (.cells #[.int .i64 z1, .int .i64 z2] 26)
    replace Tp := (Tp.keep b12).alloc (.cells #[.int .i64 z1, .int .i64 z2] 26)
    replace Th := (Th.keep b12).alloc (.cells #[.int .i64 z1, .int .i64 z2] 26)
    replace Tv := (Tv.keep b12).alloc (.cells #[.int .i64 z1, .int .i64 z2] 26)
    replace Ty := (Ty.keep b12).alloc (.cells #[.int .i64 z1, .int .i64 z2] 26)
    have Tz := Two.new w12 (.int .i64 z1) (.int .i64 z2) 26
    replace BB := bup (bup BB b12) (bel1 w12 (.cells #[.int .i64 z1, .int .i64 z2] 26))
    clear b12
    obtain ⟨_, ac0, ac1, _, _⟩ := id Ta
    obtain ⟨_, bc0, bc1, _, _⟩ := id Tb
    obtain ⟨_, cc0, cc1, _, _⟩ := id Tc
    obtain ⟨_, sc0, sc1, _, _⟩ := id Ts
    obtain ⟨_, tc0, tc1, _, _⟩ := id Tt
    obtain ⟨_, pc0, pc1, _, _⟩ := id Tp
    obtain ⟨_, hc0, hc1, _, _⟩ := id Th
    obtain ⟨_, vc0, vc1, _, _⟩ := id Tv
    obtain ⟨_, yc0, yc1, _, _⟩ := id Ty
    obtain ⟨_, zc0, zc1, _, _⟩ := id Tz
    go_wp2_with fail
    go_at_call 51
    refine Calls.mono (fine_not k hk _) ?_
    rintro r13 w13 ⟨rfl, hw⟩
    obtain rfl := hw.symm
    go_wp2_with fail
    go_ret
    exact ⟨by first | rfl | simp, BB⟩
end Go.Proofs.YtmofjkfghidlnaaDoor
