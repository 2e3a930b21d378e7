/- The walk of surtitlelaw3.RatioRings. -/
import Derived.Test.YtmofjkfghidlnaaDoorRatFine
import Derived.Test.YtmofjkfghidlnaaDoorRatW11
namespace Go.Proofs.YtmofjkfghidlnaaDoor
open Go.RowKit
attribute [local go_sem] Oper.semAt_some

set_option maxRecDepth 100000 in
set_option maxHeartbeats 4000000 in
theorem ringsD (an ad bn bd cn cd s1 s2 p1 p2 q1 q2 y1 y2 z1 z2 o1 o2 r1 r2 k m n n1 o e : Int) (he : e ≠ 0) (hb : ¬ bn = 0)
    (H1 : ∀ w, Calls Tryd.prog 23 #[.agg #[.int .i64 an, .int .i64 ad], .agg #[.int .i64 bn, .int .i64 bd]] w fun r w' => r = .returned (.tuple #[.agg #[.int .i64 s1, .int .i64 s2], .int .i64 e]) ∧ Below w.heap.size w w')
    (H2 : ∀ w, Calls Tryd.prog 23 #[.agg #[.int .i64 bn, .int .i64 bd], .agg #[.int .i64 an, .int .i64 ad]] w fun r w' => r = .returned (.tuple #[.agg #[.int .i64 s1, .int .i64 s2], .int .i64 e]) ∧ Below w.heap.size w w')
    (H3 : ∀ w, Calls Tryd.prog 30 #[.agg #[.int .i64 an, .int .i64 ad], .agg #[.int .i64 bn, .int .i64 bd]] w fun r w' => r = .returned (.tuple #[.agg #[.int .i64 p1, .int .i64 p2], .int .i64 0]) ∧ Below w.heap.size w w')
    (H4 : ∀ w, Calls Tryd.prog 30 #[.agg #[.int .i64 bn, .int .i64 bd], .agg #[.int .i64 an, .int .i64 ad]] w fun r w' => r = .returned (.tuple #[.agg #[.int .i64 p1, .int .i64 p2], .int .i64 0]) ∧ Below w.heap.size w w')
    (H7 : ∀ w, Calls Tryd.prog 32 #[.agg #[.int .i64 p1, .int .i64 p2], .agg #[.int .i64 bn, .int .i64 bd]] w fun r w' => r = .returned (.tuple #[.agg #[.int .i64 an, .int .i64 ad], .int .i64 0]) ∧ Below w.heap.size w w')
    (H8 : ∀ w, Calls Tryd.prog 21 #[.agg #[.int .i64 p1, .int .i64 p2]] w fun r w' => r = .returned (.bool true) ∧ Below w.heap.size w w')
    (H9 : ∀ w, Calls Tryd.prog 23 #[.agg #[.int .i64 bn, .int .i64 bd], .agg #[.int .i64 cn, .int .i64 cd]] w fun r w' => r = .returned (.tuple #[.agg #[.int .i64 q1, .int .i64 q2], .int .i64 k]) ∧ Below w.heap.size w w')
    (H12 : ∀ w, Calls Tryd.prog 30 #[.agg #[.int .i64 bn, .int .i64 bd], .agg #[.int .i64 cn, .int .i64 cd]] w fun r w' => r = .returned (.tuple #[.agg #[.int .i64 y1, .int .i64 y2], .int .i64 m]) ∧ Below w.heap.size w w')
    (H13 : m = 0 → ∀ w, Calls Tryd.prog 30 #[.agg #[.int .i64 p1, .int .i64 p2], .agg #[.int .i64 cn, .int .i64 cd]] w fun r w' => r = .returned (.tuple #[.agg #[.int .i64 o1, .int .i64 o2], .int .i64 n1]) ∧ Below w.heap.size w w')
    (H14 : m = 0 → ∀ w, Calls Tryd.prog 30 #[.agg #[.int .i64 an, .int .i64 ad], .agg #[.int .i64 y1, .int .i64 y2]] w fun r w' => r = .returned (.tuple #[.agg #[.int .i64 o1, .int .i64 o2], .int .i64 n1]) ∧ Below w.heap.size w w')
    (H15 : ∀ w, Calls Tryd.prog 30 #[.agg #[.int .i64 an, .int .i64 ad], .agg #[.int .i64 cn, .int .i64 cd]] w fun r w' => r = .returned (.tuple #[.agg #[.int .i64 z1, .int .i64 z2], .int .i64 n]) ∧ Below w.heap.size w w')
    (H16 : k = 0 → n = 0 → ∀ w, Calls Tryd.prog 30 #[.agg #[.int .i64 an, .int .i64 ad], .agg #[.int .i64 q1, .int .i64 q2]] w fun r w' => r = .returned (.tuple #[.agg #[.int .i64 r1, .int .i64 r2], .int .i64 o]) ∧ Below w.heap.size w w')
    (H17 : k = 0 → n = 0 → ∀ w, Calls Tryd.prog 23 #[.agg #[.int .i64 p1, .int .i64 p2], .agg #[.int .i64 z1, .int .i64 z2]] w fun r w' => r = .returned (.tuple #[.agg #[.int .i64 r1, .int .i64 r2], .int .i64 o]) ∧ Below w.heap.size w w') (w : World) :
    Calls Tryd.prog 11 #[.agg #[.int .i64 an, .int .i64 ad], .agg #[.int .i64 bn, .int .i64 bd], .agg #[.int .i64 cn, .int .i64 cd]] w fun e w' => e = .returned (.bool true) ∧ Below w.heap.size w w' := by
  have HK := hideR known_any
  have H1 := hideR H1
  have H2 := hideR H2
  have H3 := hideR H3
  have H4 := hideR H4
  have H7 := hideR H7
  have H8 := hideR H8
  have H9 := hideR H9
  have H12 := hideR H12
  have H13 := hideR H13
  have H14 := hideR H14
  have H15 := hideR H15
  have H16 := hideR H16
  have H17 := hideR H17
  have hb2 : (bn != 0) = true := by simpa using hb
  go_enter Tryd.func11, Tryd.ntmps11
  go_wp2_with fail
  go_at_call 17
  refine Calls.mono (HK.out _) ?_
  rintro r1 w1 ⟨rfl, b1⟩
  have S1 := (Three.new w _ _ _ _ _ _ 26).keep b1
  have BB := bup (bel3 w _ _ _) b1
  clear b1
  obtain ⟨Ta, Tb, Tc⟩ := S1
  obtain ⟨_, ac0, ac1, _, _⟩ := id Ta
  obtain ⟨_, bc0, bc1, _, _⟩ := id Tb
  obtain ⟨_, cc0, cc1, _, _⟩ := id Tc
  go_wp2_with fail
  go_at_call 23
  refine Calls.mono (H1.out _) ?_
  rintro r2 w2 ⟨rfl, b2⟩
  clear ac0 ac1 bc0 bc1 cc0 cc1
  replace Ta := (Ta.keep b2).alloc (.cells #[.int .i64 s1, .int .i64 s2] 26)
  replace Tb := (Tb.keep b2).alloc (.cells #[.int .i64 s1, .int .i64 s2] 26)
  replace Tc := (Tc.keep b2).alloc (.cells #[.int .i64 s1, .int .i64 s2] 26)
  have Ts := Two.new w2 (.int .i64 s1) (.int .i64 s2) 26
  replace BB := bup (bup BB b2) (bel1 w2 (.cells #[.int .i64 s1, .int .i64 s2] 26))
  clear b2
  obtain ⟨_, ac0, ac1, _, _⟩ := id Ta
  obtain ⟨_, bc0, bc1, _, _⟩ := id Tb
  obtain ⟨_, cc0, cc1, _, _⟩ := id Tc
  obtain ⟨_, sc0, sc1, _, _⟩ := id Ts
  go_wp2_with fail
  go_at_call 23
  refine Calls.mono (H2.out _) ?_
  rintro r3 w3 ⟨rfl, b3⟩
  clear ac0 ac1 bc0 bc1 cc0 cc1 sc0 sc1
  replace Ta := (Ta.keep b3).alloc (.cells #[.int .i64 s1, .int .i64 s2] 26)
  replace Tb := (Tb.keep b3).alloc (.cells #[.int .i64 s1, .int .i64 s2] 26)
  replace Tc := (Tc.keep b3).alloc (.cells #[.int .i64 s1, .int .i64 s2] 26)
  replace Ts := (Ts.keep b3).alloc (.cells #[.int .i64 s1, .int .i64 s2] 26)
  have Tt := Two.new w3 (.int .i64 s1) (.int .i64 s2) 26
  replace BB := bup (bup BB b3) (bel1 w3 (.cells #[.int .i64 s1, .int .i64 s2] 26))
  clear b3
  obtain ⟨_, ac0, ac1, _, _⟩ := id Ta
  obtain ⟨_, bc0, bc1, _, _⟩ := id Tb
  obtain ⟨_, cc0, cc1, _, _⟩ := id Tc
  obtain ⟨_, sc0, sc1, _, _⟩ := id Ts
  obtain ⟨_, tc0, tc1, _, _⟩ := id Tt
  go_wp2_with fail
  go_at_call 30
  refine Calls.mono (H3.out _) ?_
  rintro r4 w4 ⟨rfl, b4⟩
  clear ac0 ac1 bc0 bc1 cc0 cc1 sc0 sc1 tc0 tc1
  replace Ta := (Ta.keep b4).alloc (.cells #[.int .i64 p1, .int .i64 p2] 26)
  replace Tb := (Tb.keep b4).alloc (.cells #[.int .i64 p1, .int .i64 p2] 26)
  replace Tc := (Tc.keep b4).alloc (.cells #[.int .i64 p1, .int .i64 p2] 26)
  replace Ts := (Ts.keep b4).alloc (.cells #[.int .i64 p1, .int .i64 p2] 26)
  replace Tt := (Tt.keep b4).alloc (.cells #[.int .i64 p1, .int .i64 p2] 26)
  have Tp := Two.new w4 (.int .i64 p1) (.int .i64 p2) 26
  replace BB := bup (bup BB b4) (bel1 w4 (.cells #[.int .i64 p1, .int .i64 p2] 26))
  clear b4
  obtain ⟨_, ac0, ac1, _, _⟩ := id Ta
  obtain ⟨_, bc0, bc1, _, _⟩ := id Tb
  obtain ⟨_, cc0, cc1, _, _⟩ := id Tc
  obtain ⟨_, sc0, sc1, _, _⟩ := id Ts
  obtain ⟨_, tc0, tc1, _, _⟩ := id Tt
  obtain ⟨_, pc0, pc1, _, _⟩ := id Tp
  go_wp2_with fail
  go_at_call 30
  refine Calls.mono (H4.out _) ?_
  rintro r5 w5 ⟨rfl, b5⟩
  clear ac0 ac1 bc0 bc1 cc0 cc1 sc0 sc1 tc0 tc1 pc0 pc1
  replace Ta := (Ta.keep b5).alloc (.cells #[.int .i64 p1, .int .i64 p2] 26)
  replace Tb := (Tb.keep b5).alloc (.cells #[.int .i64 p1, .int .i64 p2] 26)
  replace Tc := (Tc.keep b5).alloc (.cells #[.int .i64 p1, .int .i64 p2] 26)
  replace Ts := (Ts.keep b5).alloc (.cells #[.int .i64 p1, .int .i64 p2] 26)
  replace Tt := (Tt.keep b5).alloc (.cells #[.int .i64 p1, .int .i64 p2] 26)
  replace Tp := (Tp.keep b5).alloc (.cells #[.int .i64 p1, .int .i64 p2] 26)
  have Th := Two.new w5 (.int .i64 p1) (.int .i64 p2) 26
  replace BB := bup (bup BB b5) (bel1 w5 (.cells #[.int .i64 p1, .int .i64 p2] 26))
  clear b5
  obtain ⟨_, ac0, ac1, _, _⟩ := id Ta
  obtain ⟨_, bc0, bc1, _, _⟩ := id Tb
  obtain ⟨_, cc0, cc1, _, _⟩ := id Tc
  obtain ⟨_, sc0, sc1, _, _⟩ := id Ts
  obtain ⟨_, tc0, tc1, _, _⟩ := id Tt
  obtain ⟨_, pc0, pc1, _, _⟩ := id Tp
  obtain ⟨_, hc0, hc1, _, _⟩ := id Th
  go_wp2_with fail
  go_at_call 51
  refine Calls.mono (fine_not e he _) ?_
  rintro r6 w6 ⟨rfl, hw⟩
  obtain rfl := hw.symm
  go_wp2_with fail
  go_at_call 51
  refine Calls.mono (fine_ok _) ?_
  rintro r7 w7 ⟨rfl, hw⟩
  obtain rfl := hw.symm
  go_wp2_with fail
  go_at_call 32
  refine Calls.mono (H7.out _) ?_
  rintro r8 w8 ⟨rfl, b8⟩
  clear ac0 ac1 bc0 bc1 cc0 cc1 sc0 sc1 tc0 tc1 pc0 pc1 hc0 hc1
  replace Ta := (Ta.keep b8).alloc (.cells #[.int .i64 an, .int .i64 ad] 26)
  replace Tb := (Tb.keep b8).alloc (.cells #[.int .i64 an, .int .i64 ad] 26)
  replace Tc := (Tc.keep b8).alloc (.cells #[.int .i64 an, .int .i64 ad] 26)
  replace Ts := (Ts.keep b8).alloc (.cells #[.int .i64 an, .int .i64 ad] 26)
  replace Tt := (Tt.keep b8).alloc (.cells #[.int .i64 an, .int .i64 ad] 26)
  replace Tp := (Tp.keep b8).alloc (.cells #[.int .i64 an, .int .i64 ad] 26)
  replace Th := (Th.keep b8).alloc (.cells #[.int .i64 an, .int .i64 ad] 26)
  have Tj := Two.new w8 (.int .i64 an) (.int .i64 ad) 26
  replace BB := bup (bup BB b8) (bel1 w8 (.cells #[.int .i64 an, .int .i64 ad] 26))
  clear b8
  obtain ⟨_, ac0, ac1, _, _⟩ := id Ta
  obtain ⟨_, bc0, bc1, _, _⟩ := id Tb
  obtain ⟨_, cc0, cc1, _, _⟩ := id Tc
  obtain ⟨_, sc0, sc1, _, _⟩ := id Ts
  obtain ⟨_, tc0, tc1, _, _⟩ := id Tt
  obtain ⟨_, pc0, pc1, _, _⟩ := id Tp
  obtain ⟨_, hc0, hc1, _, _⟩ := id Th
  obtain ⟨_, jc0, jc1, _, _⟩ := id Tj
  go_wp2_with fail
  go_at_call 51
  refine Calls.mono (fine_ok _) ?_
  rintro r9 w9 ⟨rfl, hw⟩
  obtain rfl := hw.symm
  go_wp2_with fail
  go_at_call 21
  refine Calls.mono (H8.out _) ?_
  rintro r10 w10 ⟨rfl, b10⟩
  clear ac0 ac1 bc0 bc1 cc0 cc1 sc0 sc1 tc0 tc1 pc0 pc1 hc0 hc1 jc0 jc1
  replace Ta := Ta.keep b10
  replace Tb := Tb.keep b10
  replace Tc := Tc.keep b10
  replace Ts := Ts.keep b10
  replace Tt := Tt.keep b10
  replace Tp := Tp.keep b10
  replace Th := Th.keep b10
  replace Tj := Tj.keep b10
  replace BB := bup BB b10
  clear b10
  obtain ⟨_, ac0, ac1, _, _⟩ := id Ta
  obtain ⟨_, bc0, bc1, _, _⟩ := id Tb
  obtain ⟨_, cc0, cc1, _, _⟩ := id Tc
  obtain ⟨_, sc0, sc1, _, _⟩ := id Ts
  obtain ⟨_, tc0, tc1, _, _⟩ := id Tt
  obtain ⟨_, pc0, pc1, _, _⟩ := id Tp
  obtain ⟨_, hc0, hc1, _, _⟩ := id Th
  obtain ⟨_, jc0, jc1, _, _⟩ := id Tj
  go_wp2_with fail
  go_at_call 23
  refine Calls.mono (H9.out _) ?_
  rintro r11 w11 ⟨rfl, b11⟩
  clear ac0 ac1 bc0 bc1 cc0 cc1 sc0 sc1 tc0 tc1 pc0 pc1 hc0 hc1 jc0 jc1
  replace Ta := (Ta.keep b11).alloc (.cells #[.int .i64 q1, .int .i64 q2] 26)
  replace Tb := (Tb.keep b11).alloc (.cells #[.int .i64 q1, .int .i64 q2] 26)
  replace Tc := (Tc.keep b11).alloc (.cells #[.int .i64 q1, .int .i64 q2] 26)
  replace Ts := (Ts.keep b11).alloc (.cells #[.int .i64 q1, .int .i64 q2] 26)
  replace Tt := (Tt.keep b11).alloc (.cells #[.int .i64 q1, .int .i64 q2] 26)
  replace Tp := (Tp.keep b11).alloc (.cells #[.int .i64 q1, .int .i64 q2] 26)
  replace Th := (Th.keep b11).alloc (.cells #[.int .i64 q1, .int .i64 q2] 26)
  replace Tj := (Tj.keep b11).alloc (.cells #[.int .i64 q1, .int .i64 q2] 26)
  have Tv := Two.new w11 (.int .i64 q1) (.int .i64 q2) 26
  replace BB := bup (bup BB b11) (bel1 w11 (.cells #[.int .i64 q1, .int .i64 q2] 26))
  clear b11
  obtain ⟨_, ac0, ac1, _, _⟩ := id Ta
  obtain ⟨_, bc0, bc1, _, _⟩ := id Tb
  obtain ⟨_, cc0, cc1, _, _⟩ := id Tc
  obtain ⟨_, sc0, sc1, _, _⟩ := id Ts
  obtain ⟨_, tc0, tc1, _, _⟩ := id Tt
  obtain ⟨_, pc0, pc1, _, _⟩ := id Tp
  obtain ⟨_, hc0, hc1, _, _⟩ := id Th
  obtain ⟨_, jc0, jc1, _, _⟩ := id Tj
  obtain ⟨_, vc0, vc1, _, _⟩ := id Tv
  go_wp2_with fail
  by_cases hk : k = 0
  · subst hk
    go_at_call 51
    refine Calls.mono (fine_not e he _) ?_
    rintro r12 w12 ⟨rfl, hw⟩
    obtain rfl := hw.symm
    go_wp2_with fail
    go_at_call 30
    refine Calls.mono (H12.out _) ?_
    rintro r13 w13 ⟨rfl, b13⟩
    clear ac0 ac1 bc0 bc1 cc0 cc1 sc0 sc1 tc0 tc1 pc0 pc1 hc0 hc1 jc0 jc1 vc0 vc1
    replace Ta := (Ta.keep b13).alloc (.cells #[.int .i64 y1, .int .i64 y2] 26)
    replace Tb := (Tb.keep b13).alloc (.cells #[.int .i64 y1, .int .i64 y2] 26)
    replace Tc := (Tc.keep b13).alloc (.cells #[.int .i64 y1, .int .i64 y2] 26)
    replace Ts := (Ts.keep b13).alloc (.cells #[.int .i64 y1, .int .i64 y2] 26)
    replace Tt := (Tt.keep b13).alloc (.cells #[.int .i64 y1, .int .i64 y2] 26)
    replace Tp := (Tp.keep b13).alloc (.cells #[.int .i64 y1, .int .i64 y2] 26)
    replace Th := (Th.keep b13).alloc (.cells #[.int .i64 y1, .int .i64 y2] 26)
    replace Tj := (Tj.keep b13).alloc (.cells #[.int .i64 y1, .int .i64 y2] 26)
    replace Tv := (Tv.keep b13).alloc (.cells #[.int .i64 y1, .int .i64 y2] 26)
    have Ty := Two.new w13 (.int .i64 y1) (.int .i64 y2) 26
    replace BB := bup (bup BB b13) (bel1 w13 (.cells #[.int .i64 y1, .int .i64 y2] 26))
    clear b13
    obtain ⟨_, ac0, ac1, _, _⟩ := id Ta
    obtain ⟨_, bc0, bc1, _, _⟩ := id Tb
    obtain ⟨_, cc0, cc1, _, _⟩ := id Tc
    obtain ⟨_, sc0, sc1, _, _⟩ := id Ts
    obtain ⟨_, tc0, tc1, _, _⟩ := id Tt
    obtain ⟨_, pc0, pc1, _, _⟩ := id Tp
    obtain ⟨_, hc0, hc1, _, _⟩ := id Th
    obtain ⟨_, jc0, jc1, _, _⟩ := id Tj
    obtain ⟨_, vc0, vc1, _, _⟩ := id Tv
    obtain ⟨_, yc0, yc1, _, _⟩ := id Ty
    go_wp2_with fail
    go_at_call 51
    refine Calls.mono (fine_ok _) ?_
    rintro r14 w14 ⟨rfl, hw⟩
    obtain rfl := hw.symm
    go_wp2_with fail
    by_cases hm : m = 0
    · subst hm
      go_at_call 51
      refine Calls.mono (fine_ok _) ?_
      rintro r15 w15 ⟨rfl, hw⟩
      obtain rfl := hw.symm
      go_wp2_with fail
      go_at_call 30
      refine Calls.mono ((H13.out (by trivial)) _) ?_
      rintro r16 w16 ⟨rfl, b16⟩
      clear ac0 ac1 bc0 bc1 cc0 cc1 sc0 sc1 tc0 tc1 pc0 pc1 hc0 hc1 jc0 jc1 vc0 vc1 yc0 yc1
      replace Ta := (Ta.keep b16).alloc (.cells #[.int .i64 o1, .int .i64 o2] 26)
      replace Tb := (Tb.keep b16).alloc (.cells #[.int .i64 o1, .int .i64 o2] 26)
      replace Tc := (Tc.keep b16).alloc (.cells #[.int .i64 o1, .int .i64 o2] 26)
      replace Ts := (Ts.keep b16).alloc (.cells #[.int .i64 o1, .int .i64 o2] 26)
      replace Tt := (Tt.keep b16).alloc (.cells #[.int .i64 o1, .int .i64 o2] 26)
      replace Tp := (Tp.keep b16).alloc (.cells #[.int .i64 o1, .int .i64 o2] 26)
      replace Th := (Th.keep b16).alloc (.cells #[.int .i64 o1, .int .i64 o2] 26)
      replace Tj := (Tj.keep b16).alloc (.cells #[.int .i64 o1, .int .i64 o2] 26)
      replace Tv := (Tv.keep b16).alloc (.cells #[.int .i64 o1, .int .i64 o2] 26)
      replace Ty := (Ty.keep b16).alloc (.cells #[.int .i64 o1, .int .i64 o2] 26)
      have To := Two.new w16 (.int .i64 o1) (.int .i64 o2) 26
      replace BB := bup (bup BB b16) (bel1 w16 (.cells #[.int .i64 o1, .int .i64 o2] 26))
      clear b16
      obtain ⟨_, ac0, ac1, _, _⟩ := id Ta
      obtain ⟨_, bc0, bc1, _, _⟩ := id Tb
      obtain ⟨_, cc0, cc1, _, _⟩ := id Tc
      obtain ⟨_, sc0, sc1, _, _⟩ := id Ts
      obtain ⟨_, tc0, tc1, _, _⟩ := id Tt
      obtain ⟨_, pc0, pc1, _, _⟩ := id Tp
      obtain ⟨_, hc0, hc1, _, _⟩ := id Th
      obtain ⟨_, jc0, jc1, _, _⟩ := id Tj
      obtain ⟨_, vc0, vc1, _, _⟩ := id Tv
      obtain ⟨_, yc0, yc1, _, _⟩ := id Ty
      obtain ⟨_, oc0, oc1, _, _⟩ := id To
      go_wp2_with fail
      go_at_call 30
      refine Calls.mono ((H14.out (by trivial)) _) ?_
      rintro r17 w17 ⟨rfl, b17⟩
      clear ac0 ac1 bc0 bc1 cc0 cc1 sc0 sc1 tc0 tc1 pc0 pc1 hc0 hc1 jc0 jc1 vc0 vc1 yc0 yc1 oc0 oc1
      replace Ta := (Ta.keep b17).alloc (.cells #[.int .i64 o1, .int .i64 o2] 26)
      replace Tb := (Tb.keep b17).alloc (.cells #[.int .i64 o1, .int .i64 o2] 26)
      replace Tc := (Tc.keep b17).alloc (.cells #[.int .i64 o1, .int .i64 o2] 26)
      replace Ts := (Ts.keep b17).alloc (.cells #[.int .i64 o1, .int .i64 o2] 26)
      replace Tt := (Tt.keep b17).alloc (.cells #[.int .i64 o1, .int .i64 o2] 26)
      replace Tp := (Tp.keep b17).alloc (.cells #[.int .i64 o1, .int .i64 o2] 26)
      replace Th := (Th.keep b17).alloc (.cells #[.int .i64 o1, .int .i64 o2] 26)
      replace Tj := (Tj.keep b17).alloc (.cells #[.int .i64 o1, .int .i64 o2] 26)
      replace Tv := (Tv.keep b17).alloc (.cells #[.int .i64 o1, .int .i64 o2] 26)
      replace Ty := (Ty.keep b17).alloc (.cells #[.int .i64 o1, .int .i64 o2] 26)
      replace To := (To.keep b17).alloc (.cells #[.int .i64 o1, .int .i64 o2] 26)
      have Tq := Two.new w17 (.int .i64 o1) (.int .i64 o2) 26
      replace BB := bup (bup BB b17) (bel1 w17 (.cells #[.int .i64 o1, .int .i64 o2] 26))
      clear b17
      obtain ⟨_, ac0, ac1, _, _⟩ := id Ta
      obtain ⟨_, bc0, bc1, _, _⟩ := id Tb
      obtain ⟨_, cc0, cc1, _, _⟩ := id Tc
      obtain ⟨_, sc0, sc1, _, _⟩ := id Ts
      obtain ⟨_, tc0, tc1, _, _⟩ := id Tt
      obtain ⟨_, pc0, pc1, _, _⟩ := id Tp
      obtain ⟨_, hc0, hc1, _, _⟩ := id Th
      obtain ⟨_, jc0, jc1, _, _⟩ := id Tj
      obtain ⟨_, vc0, vc1, _, _⟩ := id Tv
      obtain ⟨_, yc0, yc1, _, _⟩ := id Ty
      obtain ⟨_, oc0, oc1, _, _⟩ := id To
      obtain ⟨_, qc0, qc1, _, _⟩ := id Tq
      go_wp2_with fail
      go_at_call 30
      refine Calls.mono (H15.out _) ?_
      rintro r18 w18 ⟨rfl, b18⟩
      clear ac0 ac1 bc0 bc1 cc0 cc1 sc0 sc1 tc0 tc1 pc0 pc1 hc0 hc1 jc0 jc1 vc0 vc1 yc0 yc1 oc0 oc1 qc0 qc1
      replace Ta := (Ta.keep b18).alloc (.cells #[.int .i64 z1, .int .i64 z2] 26)
      replace Tb := (Tb.keep b18).alloc (.cells #[.int .i64 z1, .int .i64 z2] 26)
      replace Tc := (Tc.keep b18).alloc (.cells #[.int .i64 z1, .int .i64 z2] 26)
      replace Ts := (Ts.keep b18).alloc (.cells #[.int .i64 z1, .int .i64 z2] 26)
      replace Tt := (Tt.keep b18).alloc (.cells #[.int .i64 z1, .int .i64 z2] 26)
      replace Tp := (Tp.keep b18).alloc (.cells #[.int .i64 z1, .int .i64 z2] 26)
      replace Th := (Th.keep b18).alloc (.cells #[.int .i64 z1, .int .i64 z2] 26)
      replace Tj := (Tj.keep b18).alloc (.cells #[.int .i64 z1, .int .i64 z2] 26)
      replace Tv := (Tv.keep b18).alloc (.cells #[.int .i64 z1, .int .i64 z2] 26)
      replace Ty := (Ty.keep b18).alloc (.cells #[.int .i64 z1, .int .i64 z2] 26)
      replace To := (To.keep b18).alloc (.cells #[.int .i64 z1, .int .i64 z2] 26)
      replace Tq := (Tq.keep b18).alloc (.cells #[.int .i64 z1, .int .i64 z2] 26)
      have Tz := Two.new w18 (.int .i64 z1) (.int .i64 z2) 26
      replace BB := bup (bup BB b18) (bel1 w18 (.cells #[.int .i64 z1, .int .i64 z2] 26))
      clear b18
      obtain ⟨_, ac0, ac1, _, _⟩ := id Ta
      obtain ⟨_, bc0, bc1, _, _⟩ := id Tb
      obtain ⟨_, cc0, cc1, _, _⟩ := id Tc
      obtain ⟨_, sc0, sc1, _, _⟩ := id Ts
      obtain ⟨_, tc0, tc1, _, _⟩ := id Tt
      obtain ⟨_, pc0, pc1, _, _⟩ := id Tp
      obtain ⟨_, hc0, hc1, _, _⟩ := id Th
      obtain ⟨_, jc0, jc1, _, _⟩ := id Tj
      obtain ⟨_, vc0, vc1, _, _⟩ := id Tv
      obtain ⟨_, yc0, yc1, _, _⟩ := id Ty
      obtain ⟨_, oc0, oc1, _, _⟩ := id To
      obtain ⟨_, qc0, qc1, _, _⟩ := id Tq
      obtain ⟨_, zc0, zc1, _, _⟩ := id Tz
      go_wp2_with fail
      go_at_call 51
      refine Calls.mono (fine_ok _) ?_
      rintro r19 w19 ⟨rfl, hw⟩
      obtain rfl := hw.symm
      go_wp2_with fail
      go_at_call 51
      refine Calls.mono (fine_ok _) ?_
      rintro r20 w20 ⟨rfl, hw⟩
      obtain rfl := hw.symm
      go_wp2_with fail
      by_cases hn : n = 0
      · subst hn
        go_at_call 51
        refine Calls.mono (fine_ok _) ?_
        rintro r21 w21 ⟨rfl, hw⟩
        obtain rfl := hw.symm
        go_wp2_with fail
        go_at_call 30
        refine Calls.mono ((H16.out (by trivial) (by trivial)) _) ?_
        rintro r22 w22 ⟨rfl, b22⟩
        clear ac0 ac1 bc0 bc1 cc0 cc1 sc0 sc1 tc0 tc1 pc0 pc1 hc0 hc1 jc0 jc1 vc0 vc1 yc0 yc1 oc0 oc1 qc0 qc1 zc0 zc1
        replace Ta := (Ta.keep b22).alloc (.cells #[.int .i64 r1, .int .i64 r2] 26)
        replace Tb := (Tb.keep b22).alloc (.cells #[.int .i64 r1, .int .i64 r2] 26)
        replace Tc := (Tc.keep b22).alloc (.cells #[.int .i64 r1, .int .i64 r2] 26)
        replace Ts := (Ts.keep b22).alloc (.cells #[.int .i64 r1, .int .i64 r2] 26)
        replace Tt := (Tt.keep b22).alloc (.cells #[.int .i64 r1, .int .i64 r2] 26)
        replace Tp := (Tp.keep b22).alloc (.cells #[.int .i64 r1, .int .i64 r2] 26)
        replace Th := (Th.keep b22).alloc (.cells #[.int .i64 r1, .int .i64 r2] 26)
        replace Tj := (Tj.keep b22).alloc (.cells #[.int .i64 r1, .int .i64 r2] 26)
        replace Tv := (Tv.keep b22).alloc (.cells #[.int .i64 r1, .int .i64 r2] 26)
        replace Ty := (Ty.keep b22).alloc (.cells #[.int .i64 r1, .int .i64 r2] 26)
        replace To := (To.keep b22).alloc (.cells #[.int .i64 r1, .int .i64 r2] 26)
        replace Tq := (Tq.keep b22).alloc (.cells #[.int .i64 r1, .int .i64 r2] 26)
        replace Tz := (Tz.keep b22).alloc (.cells #[.int .i64 r1, .int .i64 r2] 26)
        have Tl := Two.new w22 (.int .i64 r1) (.int .i64 r2) 26
        replace BB := bup (bup BB b22) (bel1 w22 (.cells #[.int .i64 r1, .int .i64 r2] 26))
        clear b22
        obtain ⟨_, ac0, ac1, _, _⟩ := id Ta
        obtain ⟨_, bc0, bc1, _, _⟩ := id Tb
        obtain ⟨_, cc0, cc1, _, _⟩ := id Tc
        obtain ⟨_, sc0, sc1, _, _⟩ := id Ts
        obtain ⟨_, tc0, tc1, _, _⟩ := id Tt
        obtain ⟨_, pc0, pc1, _, _⟩ := id Tp
        obtain ⟨_, hc0, hc1, _, _⟩ := id Th
        obtain ⟨_, jc0, jc1, _, _⟩ := id Tj
        obtain ⟨_, vc0, vc1, _, _⟩ := id Tv
        obtain ⟨_, yc0, yc1, _, _⟩ := id Ty
        obtain ⟨_, oc0, oc1, _, _⟩ := id To
        obtain ⟨_, qc0, qc1, _, _⟩ := id Tq
        obtain ⟨_, zc0, zc1, _, _⟩ := id Tz
        obtain ⟨_, lc0, lc1, _, _⟩ := id Tl
        go_wp2_with fail
        go_at_call 23
        refine Calls.mono ((H17.out (by trivial) (by trivial)) _) ?_
        rintro r23 w23 ⟨rfl, b23⟩
        clear ac0 ac1 bc0 bc1 cc0 cc1 sc0 sc1 tc0 tc1 pc0 pc1 hc0 hc1 jc0 jc1 vc0 vc1 yc0 yc1 oc0 oc1 qc0 qc1 zc0 zc1 lc0 lc1
        replace Ta := (Ta.keep b23).alloc (.cells #[.int .i64 r1, .int .i64 r2] 26)
        replace Tb := (Tb.keep b23).alloc (.cells #[.int .i64 r1, .int .i64 r2] 26)
        replace Tc := (Tc.keep b23).alloc (.cells #[.int .i64 r1, .int .i64 r2] 26)
        replace Ts := (Ts.keep b23).alloc (.cells #[.int .i64 r1, .int .i64 r2] 26)
        replace Tt := (Tt.keep b23).alloc (.cells #[.int .i64 r1, .int .i64 r2] 26)
        replace Tp := (Tp.keep b23).alloc (.cells #[.int .i64 r1, .int .i64 r2] 26)
        replace Th := (Th.keep b23).alloc (.cells #[.int .i64 r1, .int .i64 r2] 26)
        replace Tj := (Tj.keep b23).alloc (.cells #[.int .i64 r1, .int .i64 r2] 26)
        replace Tv := (Tv.keep b23).alloc (.cells #[.int .i64 r1, .int .i64 r2] 26)
        replace Ty := (Ty.keep b23).alloc (.cells #[.int .i64 r1, .int .i64 r2] 26)
        replace To := (To.keep b23).alloc (.cells #[.int .i64 r1, .int .i64 r2] 26)
        replace Tq := (Tq.keep b23).alloc (.cells #[.int .i64 r1, .int .i64 r2] 26)
        replace Tz := (Tz.keep b23).alloc (.cells #[.int .i64 r1, .int .i64 r2] 26)
        replace Tl := (Tl.keep b23).alloc (.cells #[.int .i64 r1, .int .i64 r2] 26)
        have Tm := Two.new w23 (.int .i64 r1) (.int .i64 r2) 26
        replace BB := bup (bup BB b23) (bel1 w23 (.cells #[.int .i64 r1, .int .i64 r2] 26))
        clear b23
        obtain ⟨_, ac0, ac1, _, _⟩ := id Ta
        obtain ⟨_, bc0, bc1, _, _⟩ := id Tb
        obtain ⟨_, cc0, cc1, _, _⟩ := id Tc
        obtain ⟨_, sc0, sc1, _, _⟩ := id Ts
        obtain ⟨_, tc0, tc1, _, _⟩ := id Tt
        obtain ⟨_, pc0, pc1, _, _⟩ := id Tp
        obtain ⟨_, hc0, hc1, _, _⟩ := id Th
        obtain ⟨_, jc0, jc1, _, _⟩ := id Tj
        obtain ⟨_, vc0, vc1, _, _⟩ := id Tv
        obtain ⟨_, yc0, yc1, _, _⟩ := id Ty
        obtain ⟨_, oc0, oc1, _, _⟩ := id To
        obtain ⟨_, qc0, qc1, _, _⟩ := id Tq
        obtain ⟨_, zc0, zc1, _, _⟩ := id Tz
        obtain ⟨_, lc0, lc1, _, _⟩ := id Tl
        obtain ⟨_, mc0, mc1, _, _⟩ := id Tm
        go_wp2_with fail
        go_ret
        exact ⟨by first | rfl | simp, BB⟩
      · go_at_call 51
        refine Calls.mono (fine_not n hn _) ?_
        rintro r21 w21 ⟨rfl, hw⟩
        obtain rfl := hw.symm
        go_wp2_with fail
        go_ret
        exact ⟨by first | rfl | simp, BB⟩
    · go_at_call 51
      refine Calls.mono (fine_not m hm _) ?_
      rintro r15 w15 ⟨rfl, hw⟩
      obtain rfl := hw.symm
      go_wp2_with fail
      go_at_call 30
      refine Calls.mono (H15.out _) ?_
      rintro r16 w16 ⟨rfl, b16⟩
      clear ac0 ac1 bc0 bc1 cc0 cc1 sc0 sc1 tc0 tc1 pc0 pc1 hc0 hc1 jc0 jc1 vc0 vc1 yc0 yc1
      replace Ta := (Ta.keep b16).alloc (.cells #[.int .i64 z1, .int .i64 z2] 26)
      replace Tb := (Tb.keep b16).alloc (.cells #[.int .i64 z1, .int .i64 z2] 26)
      replace Tc := (Tc.keep b16).alloc (.cells #[.int .i64 z1, .int .i64 z2] 26)
      replace Ts := (Ts.keep b16).alloc (.cells #[.int .i64 z1, .int .i64 z2] 26)
      replace Tt := (Tt.keep b16).alloc (.cells #[.int .i64 z1, .int .i64 z2] 26)
      replace Tp := (Tp.keep b16).alloc (.cells #[.int .i64 z1, .int .i64 z2] 26)
      replace Th := (Th.keep b16).alloc (.cells #[.int .i64 z1, .int .i64 z2] 26)
      replace Tj := (Tj.keep b16).alloc (.cells #[.int .i64 z1, .int .i64 z2] 26)
      replace Tv := (Tv.keep b16).alloc (.cells #[.int .i64 z1, .int .i64 z2] 26)
      replace Ty := (Ty.keep b16).alloc (.cells #[.int .i64 z1, .int .i64 z2] 26)
      have Tz := Two.new w16 (.int .i64 z1) (.int .i64 z2) 26
      replace BB := bup (bup BB b16) (bel1 w16 (.cells #[.int .i64 z1, .int .i64 z2] 26))
      clear b16
      obtain ⟨_, ac0, ac1, _, _⟩ := id Ta
      obtain ⟨_, bc0, bc1, _, _⟩ := id Tb
      obtain ⟨_, cc0, cc1, _, _⟩ := id Tc
      obtain ⟨_, sc0, sc1, _, _⟩ := id Ts
      obtain ⟨_, tc0, tc1, _, _⟩ := id Tt
      obtain ⟨_, pc0, pc1, _, _⟩ := id Tp
      obtain ⟨_, hc0, hc1, _, _⟩ := id Th
      obtain ⟨_, jc0, jc1, _, _⟩ := id Tj
      obtain ⟨_, vc0, vc1, _, _⟩ := id Tv
      obtain ⟨_, yc0, yc1, _, _⟩ := id Ty
      obtain ⟨_, zc0, zc1, _, _⟩ := id Tz
      go_wp2_with fail
      go_at_call 51
      refine Calls.mono (fine_ok _) ?_
      rintro r17 w17 ⟨rfl, hw⟩
      obtain rfl := hw.symm
      go_wp2_with fail
      go_at_call 51
      refine Calls.mono (fine_ok _) ?_
      rintro r18 w18 ⟨rfl, hw⟩
      obtain rfl := hw.symm
      go_wp2_with fail
      by_cases hn : n = 0
      · subst hn
        go_at_call 51
        refine Calls.mono (fine_ok _) ?_
        rintro r19 w19 ⟨rfl, hw⟩
        obtain rfl := hw.symm
        go_wp2_with fail
        go_at_call 30
        refine Calls.mono ((H16.out (by trivial) (by trivial)) _) ?_
        rintro r20 w20 ⟨rfl, b20⟩
        clear ac0 ac1 bc0 bc1 cc0 cc1 sc0 sc1 tc0 tc1 pc0 pc1 hc0 hc1 jc0 jc1 vc0 vc1 yc0 yc1 zc0 zc1
        replace Ta := (Ta.keep b20).alloc (.cells #[.int .i64 r1, .int .i64 r2] 26)
        replace Tb := (Tb.keep b20).alloc (.cells #[.int .i64 r1, .int .i64 r2] 26)
        replace Tc := (Tc.keep b20).alloc (.cells #[.int .i64 r1, .int .i64 r2] 26)
        replace Ts := (Ts.keep b20).alloc (.cells #[.int .i64 r1, .int .i64 r2] 26)
        replace Tt := (Tt.keep b20).alloc (.cells #[.int .i64 r1, .int .i64 r2] 26)
        replace Tp := (Tp.keep b20).alloc (.cells #[.int .i64 r1, .int .i64 r2] 26)
        replace Th := (Th.keep b20).alloc (.cells #[.int .i64 r1, .int .i64 r2] 26)
        replace Tj := (Tj.keep b20).alloc (.cells #[.int .i64 r1, .int .i64 r2] 26)
        replace Tv := (Tv.keep b20).alloc (.cells #[.int .i64 r1, .int .i64 r2] 26)
        replace Ty := (Ty.keep b20).alloc (.cells #[.int .i64 r1, .int .i64 r2] 26)
        replace Tz := (Tz.keep b20).alloc (.cells #[.int .i64 r1, .int .i64 r2] 26)
        have Tl := Two.new w20 (.int .i64 r1) (.int .i64 r2) 26
        replace BB := bup (bup BB b20) (bel1 w20 (.cells #[.int .i64 r1, .int .i64 r2] 26))
        clear b20
        obtain ⟨_, ac0, ac1, _, _⟩ := id Ta
        obtain ⟨_, bc0, bc1, _, _⟩ := id Tb
        obtain ⟨_, cc0, cc1, _, _⟩ := id Tc
        obtain ⟨_, sc0, sc1, _, _⟩ := id Ts
        obtain ⟨_, tc0, tc1, _, _⟩ := id Tt
        obtain ⟨_, pc0, pc1, _, _⟩ := id Tp
        obtain ⟨_, hc0, hc1, _, _⟩ := id Th
        obtain ⟨_, jc0, jc1, _, _⟩ := id Tj
        obtain ⟨_, vc0, vc1, _, _⟩ := id Tv
        obtain ⟨_, yc0, yc1, _, _⟩ := id Ty
        obtain ⟨_, zc0, zc1, _, _⟩ := id Tz
        obtain ⟨_, lc0, lc1, _, _⟩ := id Tl
        go_wp2_with fail
        go_at_call 23
        refine Calls.mono ((H17.out (by trivial) (by trivial)) _) ?_
        rintro r21 w21 ⟨rfl, b21⟩
        clear ac0 ac1 bc0 bc1 cc0 cc1 sc0 sc1 tc0 tc1 pc0 pc1 hc0 hc1 jc0 jc1 vc0 vc1 yc0 yc1 zc0 zc1 lc0 lc1
        replace Ta := (Ta.keep b21).alloc (.cells #[.int .i64 r1, .int .i64 r2] 26)
        replace Tb := (Tb.keep b21).alloc (.cells #[.int .i64 r1, .int .i64 r2] 26)
        replace Tc := (Tc.keep b21).alloc (.cells #[.int .i64 r1, .int .i64 r2] 26)
        replace Ts := (Ts.keep b21).alloc (.cells #[.int .i64 r1, .int .i64 r2] 26)
        replace Tt := (Tt.keep b21).alloc (.cells #[.int .i64 r1, .int .i64 r2] 26)
        replace Tp := (Tp.keep b21).alloc (.cells #[.int .i64 r1, .int .i64 r2] 26)
        replace Th := (Th.keep b21).alloc (.cells #[.int .i64 r1, .int .i64 r2] 26)
        replace Tj := (Tj.keep b21).alloc (.cells #[.int .i64 r1, .int .i64 r2] 26)
        replace Tv := (Tv.keep b21).alloc (.cells #[.int .i64 r1, .int .i64 r2] 26)
        replace Ty := (Ty.keep b21).alloc (.cells #[.int .i64 r1, .int .i64 r2] 26)
        replace Tz := (Tz.keep b21).alloc (.cells #[.int .i64 r1, .int .i64 r2] 26)
        replace Tl := (Tl.keep b21).alloc (.cells #[.int .i64 r1, .int .i64 r2] 26)
        have Tm := Two.new w21 (.int .i64 r1) (.int .i64 r2) 26
        replace BB := bup (bup BB b21) (bel1 w21 (.cells #[.int .i64 r1, .int .i64 r2] 26))
        clear b21
        obtain ⟨_, ac0, ac1, _, _⟩ := id Ta
        obtain ⟨_, bc0, bc1, _, _⟩ := id Tb
        obtain ⟨_, cc0, cc1, _, _⟩ := id Tc
        obtain ⟨_, sc0, sc1, _, _⟩ := id Ts
        obtain ⟨_, tc0, tc1, _, _⟩ := id Tt
        obtain ⟨_, pc0, pc1, _, _⟩ := id Tp
        obtain ⟨_, hc0, hc1, _, _⟩ := id Th
        obtain ⟨_, jc0, jc1, _, _⟩ := id Tj
        obtain ⟨_, vc0, vc1, _, _⟩ := id Tv
        obtain ⟨_, yc0, yc1, _, _⟩ := id Ty
        obtain ⟨_, zc0, zc1, _, _⟩ := id Tz
        obtain ⟨_, lc0, lc1, _, _⟩ := id Tl
        obtain ⟨_, mc0, mc1, _, _⟩ := id Tm
        go_wp2_with fail
        go_ret
        exact ⟨by first | rfl | simp, BB⟩
      · go_at_call 51
        refine Calls.mono (fine_not n hn _) ?_
        rintro r19 w19 ⟨rfl, hw⟩
        obtain rfl := hw.symm
        go_wp2_with fail
        go_ret
        exact ⟨by first | rfl | simp, BB⟩
  · go_at_call 51
    refine Calls.mono (fine_not e he _) ?_
    rintro r12 w12 ⟨rfl, hw⟩
    obtain rfl := hw.symm
    go_wp2_with fail
    go_at_call 30
    refine Calls.mono (H12.out _) ?_
    rintro r13 w13 ⟨rfl, b13⟩
    clear ac0 ac1 bc0 bc1 cc0 cc1 sc0 sc1 tc0 tc1 pc0 pc1 hc0 hc1 jc0 jc1 vc0 vc1
    replace Ta := (Ta.keep b13).alloc (.cells #[.int .i64 y1, .int .i64 y2] 26)
    replace Tb := (Tb.keep b13).alloc (.cells #[.int .i64 y1, .int .i64 y2] 26)
    replace Tc := (Tc.keep b13).alloc (.cells #[.int .i64 y1, .int .i64 y2] 26)
    replace Ts := (Ts.keep b13).alloc (.cells #[.int .i64 y1, .int .i64 y2] 26)
    replace Tt := (Tt.keep b13).alloc (.cells #[.int .i64 y1, .int .i64 y2] 26)
    replace Tp := (Tp.keep b13).alloc (.cells #[.int .i64 y1, .int .i64 y2] 26)
    replace Th := (Th.keep b13).alloc (.cells #[.int .i64 y1, .int .i64 y2] 26)
    replace Tj := (Tj.keep b13).alloc (.cells #[.int .i64 y1, .int .i64 y2] 26)
    replace Tv := (Tv.keep b13).alloc (.cells #[.int .i64 y1, .int .i64 y2] 26)
    have Ty := Two.new w13 (.int .i64 y1) (.int .i64 y2) 26
    replace BB := bup (bup BB b13) (bel1 w13 (.cells #[.int .i64 y1, .int .i64 y2] 26))
    clear b13
    obtain ⟨_, ac0, ac1, _, _⟩ := id Ta
    obtain ⟨_, bc0, bc1, _, _⟩ := id Tb
    obtain ⟨_, cc0, cc1, _, _⟩ := id Tc
    obtain ⟨_, sc0, sc1, _, _⟩ := id Ts
    obtain ⟨_, tc0, tc1, _, _⟩ := id Tt
    obtain ⟨_, pc0, pc1, _, _⟩ := id Tp
    obtain ⟨_, hc0, hc1, _, _⟩ := id Th
    obtain ⟨_, jc0, jc1, _, _⟩ := id Tj
    obtain ⟨_, vc0, vc1, _, _⟩ := id Tv
    obtain ⟨_, yc0, yc1, _, _⟩ := id Ty
    go_wp2_with fail
    go_at_call 51
    refine Calls.mono (fine_ok _) ?_
    rintro r14 w14 ⟨rfl, hw⟩
    obtain rfl := hw.symm
    go_wp2_with fail
    by_cases hm : m = 0
    · subst hm
      go_at_call 51
      refine Calls.mono (fine_ok _) ?_
      rintro r15 w15 ⟨rfl, hw⟩
      obtain rfl := hw.symm
      go_wp2_with fail
      go_at_call 30
      refine Calls.mono ((H13.out (by trivial)) _) ?_
      rintro r16 w16 ⟨rfl, b16⟩
      clear ac0 ac1 bc0 bc1 cc0 cc1 sc0 sc1 tc0 tc1 pc0 pc1 hc0 hc1 jc0 jc1 vc0 vc1 yc0 yc1
      replace Ta := (Ta.keep b16).alloc (.cells #[.int .i64 o1, .int .i64 o2] 26)
      replace Tb := (Tb.keep b16).alloc (.cells #[.int .i64 o1, .int .i64 o2] 26)
      replace Tc := (Tc.keep b16).alloc (.cells #[.int .i64 o1, .int .i64 o2] 26)
      replace Ts := (Ts.keep b16).alloc (.cells #[.int .i64 o1, .int .i64 o2] 26)
      replace Tt := (Tt.keep b16).alloc (.cells #[.int .i64 o1, .int .i64 o2] 26)
      replace Tp := (Tp.keep b16).alloc (.cells #[.int .i64 o1, .int .i64 o2] 26)
      replace Th := (Th.keep b16).alloc (.cells #[.int .i64 o1, .int .i64 o2] 26)
      replace Tj := (Tj.keep b16).alloc (.cells #[.int .i64 o1, .int .i64 o2] 26)
      replace Tv := (Tv.keep b16).alloc (.cells #[.int .i64 o1, .int .i64 o2] 26)
      replace Ty := (Ty.keep b16).alloc (.cells #[.int .i64 o1, .int .i64 o2] 26)
      have To := Two.new w16 (.int .i64 o1) (.int .i64 o2) 26
      replace BB := bup (bup BB b16) (bel1 w16 (.cells #[.int .i64 o1, .int .i64 o2] 26))
      clear b16
      obtain ⟨_, ac0, ac1, _, _⟩ := id Ta
      obtain ⟨_, bc0, bc1, _, _⟩ := id Tb
      obtain ⟨_, cc0, cc1, _, _⟩ := id Tc
      obtain ⟨_, sc0, sc1, _, _⟩ := id Ts
      obtain ⟨_, tc0, tc1, _, _⟩ := id Tt
      obtain ⟨_, pc0, pc1, _, _⟩ := id Tp
      obtain ⟨_, hc0, hc1, _, _⟩ := id Th
      obtain ⟨_, jc0, jc1, _, _⟩ := id Tj
      obtain ⟨_, vc0, vc1, _, _⟩ := id Tv
      obtain ⟨_, yc0, yc1, _, _⟩ := id Ty
      obtain ⟨_, oc0, oc1, _, _⟩ := id To
      go_wp2_with fail
      go_at_call 30
      refine Calls.mono ((H14.out (by trivial)) _) ?_
      rintro r17 w17 ⟨rfl, b17⟩
      clear ac0 ac1 bc0 bc1 cc0 cc1 sc0 sc1 tc0 tc1 pc0 pc1 hc0 hc1 jc0 jc1 vc0 vc1 yc0 yc1 oc0 oc1
      replace Ta := (Ta.keep b17).alloc (.cells #[.int .i64 o1, .int .i64 o2] 26)
      replace Tb := (Tb.keep b17).alloc (.cells #[.int .i64 o1, .int .i64 o2] 26)
      replace Tc := (Tc.keep b17).alloc (.cells #[.int .i64 o1, .int .i64 o2] 26)
      replace Ts := (Ts.keep b17).alloc (.cells #[.int .i64 o1, .int .i64 o2] 26)
      replace Tt := (Tt.keep b17).alloc (.cells #[.int .i64 o1, .int .i64 o2] 26)
      replace Tp := (Tp.keep b17).alloc (.cells #[.int .i64 o1, .int .i64 o2] 26)
      replace Th := (Th.keep b17).alloc (.cells #[.int .i64 o1, .int .i64 o2] 26)
      replace Tj := (Tj.keep b17).alloc (.cells #[.int .i64 o1, .int .i64 o2] 26)
      replace Tv := (Tv.keep b17).alloc (.cells #[.int .i64 o1, .int .i64 o2] 26)
      replace Ty := (Ty.keep b17).alloc (.cells #[.int .i64 o1, .int .i64 o2] 26)
      replace To := (To.keep b17).alloc (.cells #[.int .i64 o1, .int .i64 o2] 26)
      have Tq := Two.new w17 (.int .i64 o1) (.int .i64 o2) 26
      replace BB := bup (bup BB b17) (bel1 w17 (.cells #[.int .i64 o1, .int .i64 o2] 26))
      clear b17
      obtain ⟨_, ac0, ac1, _, _⟩ := id Ta
      obtain ⟨_, bc0, bc1, _, _⟩ := id Tb
      obtain ⟨_, cc0, cc1, _, _⟩ := id Tc
      obtain ⟨_, sc0, sc1, _, _⟩ := id Ts
      obtain ⟨_, tc0, tc1, _, _⟩ := id Tt
      obtain ⟨_, pc0, pc1, _, _⟩ := id Tp
      obtain ⟨_, hc0, hc1, _, _⟩ := id Th
      obtain ⟨_, jc0, jc1, _, _⟩ := id Tj
      obtain ⟨_, vc0, vc1, _, _⟩ := id Tv
      obtain ⟨_, yc0, yc1, _, _⟩ := id Ty
      obtain ⟨_, oc0, oc1, _, _⟩ := id To
      obtain ⟨_, qc0, qc1, _, _⟩ := id Tq
      go_wp2_with fail
      go_at_call 30
      refine Calls.mono (H15.out _) ?_
      rintro r18 w18 ⟨rfl, b18⟩
      clear ac0 ac1 bc0 bc1 cc0 cc1 sc0 sc1 tc0 tc1 pc0 pc1 hc0 hc1 jc0 jc1 vc0 vc1 yc0 yc1 oc0 oc1 qc0 qc1
      replace Ta := (Ta.keep b18).alloc (.cells #[.int .i64 z1, .int .i64 z2] 26)
      replace Tb := (Tb.keep b18).alloc (.cells #[.int .i64 z1, .int .i64 z2] 26)
      replace Tc := (Tc.keep b18).alloc (.cells #[.int .i64 z1, .int .i64 z2] 26)
      replace Ts := (Ts.keep b18).alloc (.cells #[.int .i64 z1, .int .i64 z2] 26)
      replace Tt := (Tt.keep b18).alloc (.cells #[.int .i64 z1, .int .i64 z2] 26)
      replace Tp := (Tp.keep b18).alloc (.cells #[.int .i64 z1, .int .i64 z2] 26)
      replace Th := (Th.keep b18).alloc (.cells #[.int .i64 z1, .int .i64 z2] 26)
      replace Tj := (Tj.keep b18).alloc (.cells #[.int .i64 z1, .int .i64 z2] 26)
      replace Tv := (Tv.keep b18).alloc (.cells #[.int .i64 z1, .int .i64 z2] 26)
      replace Ty := (Ty.keep b18).alloc (.cells #[.int .i64 z1, .int .i64 z2] 26)
      replace To := (To.keep b18).alloc (.cells #[.int .i64 z1, .int .i64 z2] 26)
      replace Tq := (Tq.keep b18).alloc (.cells #[.int .i64 z1, .int .i64 z2] 26)
      have Tz := Two.new w18 (.int .i64 z1) (.int .i64 z2) 26
      replace BB := bup (bup BB b18) (bel1 w18 (.cells #[.int .i64 z1, .int .i64 z2] 26))
      clear b18
      obtain ⟨_, ac0, ac1, _, _⟩ := id Ta
      obtain ⟨_, bc0, bc1, _, _⟩ := id Tb
      obtain ⟨_, cc0, cc1, _, _⟩ := id Tc
      obtain ⟨_, sc0, sc1, _, _⟩ := id Ts
      obtain ⟨_, tc0, tc1, _, _⟩ := id Tt
      obtain ⟨_, pc0, pc1, _, _⟩ := id Tp
      obtain ⟨_, hc0, hc1, _, _⟩ := id Th
      obtain ⟨_, jc0, jc1, _, _⟩ := id Tj
      obtain ⟨_, vc0, vc1, _, _⟩ := id Tv
      obtain ⟨_, yc0, yc1, _, _⟩ := id Ty
      obtain ⟨_, oc0, oc1, _, _⟩ := id To
      obtain ⟨_, qc0, qc1, _, _⟩ := id Tq
      obtain ⟨_, zc0, zc1, _, _⟩ := id Tz
      go_wp2_with fail
      go_at_call 51
      refine Calls.mono (fine_not k hk _) ?_
      rintro r19 w19 ⟨rfl, hw⟩
      obtain rfl := hw.symm
      go_wp2_with fail
      go_ret
      exact ⟨by first | rfl | simp, BB⟩
    · go_at_call 51
      refine Calls.mono (fine_not m hm _) ?_
      rintro r15 w15 ⟨rfl, hw⟩
      obtain rfl := hw.symm
      go_wp2_with fail
      go_at_call 30
      refine Calls.mono (H15.out _) ?_
      rintro r16 w16 ⟨rfl, b16⟩
      clear ac0 ac1 bc0 bc1 cc0 cc1 sc0 sc1 tc0 tc1 pc0 pc1 hc0 hc1 jc0 jc1 vc0 vc1 yc0 yc1
      replace Ta := (Ta.keep b16).alloc (.cells #[.int .i64 z1, .int .i64 z2] 26)
      replace Tb := (Tb.keep b16).alloc (.cells #[.int .i64 z1, .int .i64 z2] 26)
      replace Tc := (Tc.keep b16).alloc (.cells #[.int .i64 z1, .int .i64 z2] 26)
      replace Ts := (Ts.keep b16).alloc (.cells #[.int .i64 z1, .int .i64 z2] 26)
      replace Tt := (Tt.keep b16).alloc (.cells #[.int .i64 z1, .int .i64 z2] 26)
      replace Tp := (Tp.keep b16).alloc (.cells #[.int .i64 z1, .int .i64 z2] 26)
      replace Th := (Th.keep b16).alloc (.cells #[.int .i64 z1, .int .i64 z2] 26)
      replace Tj := (Tj.keep b16).alloc (.cells #[.int .i64 z1, .int .i64 z2] 26)
      replace Tv := (Tv.keep b16).alloc (.cells #[.int .i64 z1, .int .i64 z2] 26)
      replace Ty := (Ty.keep b16).alloc (.cells #[.int .i64 z1, .int .i64 z2] 26)
      have Tz := Two.new w16 (.int .i64 z1) (.int .i64 z2) 26
      replace BB := bup (bup BB b16) (bel1 w16 (.cells #[.int .i64 z1, .int .i64 z2] 26))
      clear b16
      obtain ⟨_, ac0, ac1, _, _⟩ := id Ta
      obtain ⟨_, bc0, bc1, _, _⟩ := id Tb
      obtain ⟨_, cc0, cc1, _, _⟩ := id Tc
      obtain ⟨_, sc0, sc1, _, _⟩ := id Ts
      obtain ⟨_, tc0, tc1, _, _⟩ := id Tt
      obtain ⟨_, pc0, pc1, _, _⟩ := id Tp
      obtain ⟨_, hc0, hc1, _, _⟩ := id Th
      obtain ⟨_, jc0, jc1, _, _⟩ := id Tj
      obtain ⟨_, vc0, vc1, _, _⟩ := id Tv
      obtain ⟨_, yc0, yc1, _, _⟩ := id Ty
      obtain ⟨_, zc0, zc1, _, _⟩ := id Tz
      go_wp2_with fail
      go_at_call 51
      refine Calls.mono (fine_not k hk _) ?_
      rintro r17 w17 ⟨rfl, hw⟩
      obtain rfl := hw.symm
      go_wp2_with fail
      go_ret
      exact ⟨by first | rfl | simp, BB⟩
end Go.Proofs.YtmofjkfghidlnaaDoor
