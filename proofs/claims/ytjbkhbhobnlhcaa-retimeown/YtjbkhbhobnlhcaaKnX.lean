/- RetimeOwn: the walk (chapter 6). -/
import Derived.Test.YtjbkhbhobnlhcaaGA
import Derived.Test.YtjbkhbhobnlhcaaKnV
namespace Go.Proofs.Ytjbkhbhobnlhcaa
open Go.RowKit Go.Shelf

theorem MapO.but {A B : World} {M : Nat → Prop} {base R : Nat} {v u : Value} {K : List Kn} {S : List Rt} (h : MapO A base R v u K S) (hb : But M A B) (hR : ¬ M R) (hlo : ∀ k, base ≤ k → k < A.heap.size → ¬ M k) : MapO B base R v u K S :=
  ⟨(hb.same R h.lt hR).trans h.at_, own_butK h.kn hb (fun k hk => hlo k (h.kn.lt k hk).1 (h.kn.lt k hk).2), own_butK h.rt hb (fun k hk => hlo k (h.rt.lt k hk).1 (h.rt.lt k hk).2)⟩
theorem MapO.butV {A B : World} {M : Nat → Prop} {base R : Nat} {v u : Value} {K : List Kn} {S : List Rt} (h : MapO A base R v u K S) (hb : But M A B) (hR : ¬ M R) (h1 : ∀ k, v.ownBlock = some k → ¬ M k) (h2 : ∀ k, u.ownBlock = some k → ¬ M k) : MapO B base R v u K S :=
  ⟨(hb.same R h.lt hR).trans h.at_, own_butK h.kn hb h1, own_butK h.rt hb h2⟩
theorem but_grow1 {M : Nat → Prop} {A B : World} {row : Option Nat} (h : A.grownBy B row) (hr : ∀ k, row = some k → M k) : But M A B := ⟨h.os, h.tape, h.output, h.size, fun k hk hm => h.block k hk (fun e => hm (hr k e.symm))⟩
theorem RtO.but {A B : World} {M : Nat → Prop} {oa : Option Addr} {Q : List Rt} (h : RtO A oa Q) (hb : But M A B) (hm : ∀ a, oa = some a → Q ≠ [] → ¬ M a.block) : RtO B oa Q := fun i p hp => by
  obtain ⟨a, ha, hl, h0, h1⟩ := h i p hp
  have hq : Q ≠ [] := by
    intro e
    rw [e] at hp
    cases hp
  have k := hb.same a.block hl (hm a ha hq)
  exact ⟨a, ha, Nat.lt_of_lt_of_le hl hb.size, (World.cell?_of_block (by rw [addrN_block]; exact k)).trans h0, (World.cell?_of_block (a := ⟨(a.add (i * 2)).block, (a.add (i * 2)).off + 1, none⟩) (by show B.heap[(a.add (i * 2)).block]? = _; rw [addrN_block]; exact k)).trans h1⟩
theorem own_slK {W : World} {b : Nat} {e : TypeId} {sz n : Nat} {v : Value} {xs : List Value} (h : W.ownsRow b e sz v n xs) : ∃ o c, v = .slice o n c := by
  rcases h.2 with ⟨rfl, rfl⟩ | ⟨g, cap, cur, rfl, _⟩
  · exact ⟨none, 0, rfl⟩
  · exact ⟨_, cap, rfl⟩
theorem wpList_append_nothingK {P : Program} {w : World} {ops : Array Oper} {rest : List Oper} {o : Oper} {a : Act} {Q : Exit → Act → World → Prop} (hgd : o.guard = none) (s x : Operand) (t : TypeId)
    (ho : o.op = .call { callee := .builtin .append, args := #[s, x], argTypes := #[t, t] })
    (base : Nat) (e : TypeId) (i : TypeInfo) (z : Value) (size bytes : Nat) (ht : P.underlying t = some (.slice e)) (hi : P.info? e = some i) (hz : i.zero = some z) (hsize : i.size = size) (hby : i.bytes = bytes) (hzs : z.cells.size = size) (hsz : 0 < size)
    (v : Value) (hs : a.eval s = v) (hown : w.ownsRow base e size v 0 []) (oa : Option Addr) (c : Nat) (hx : a.eval x = .slice oa 0 c) (hn : oa = none → c = 0) (hbase : base ≤ w.heap.size)
    (h : ∀ o' c' w', w'.ownsRow base e size (.slice o' 0 c') 0 [] → w.grownBy w' v.ownBlock → wpList P ops Q rest (a.put o.dst (.slice o' 0 c')) w') : wpList P ops Q (o :: rest) a w := by
  refine wpList_plain hgd fun K hK => ?_
  cases oa with
  | none =>
    obtain rfl := hn rfl
    have hrun := run_append_owned_none (P := P) (w := w) base t o.type e i size ht hi v 0 [] hown
    obtain ⟨o', c', rfl⟩ := own_slK hown
    unfold Oper.wp
    simp [execOp, ho, resolve, invoke, builtin, hs, hx, hrun, Result.andThen]
    exact hK _ _ (h _ _ _ hown (World.grownBy.refl _ _))
  | some ad =>
    obtain ⟨v', w', hr, o1, o2, _⟩ := run_append_own (P := P) w base t o.type e i z size bytes ht hi hz hsize hby hzs hsz v 0 [] hown ad 0 c [] (by simp) (fun j u hu => by simp at hu) (fun u hu => by simp at hu) (by unfold maxLen; omega) (by omega) hbase
    obtain ⟨o', c', rfl⟩ := own_slK o1
    unfold Oper.wp
    simp [execOp, ho, resolve, invoke, builtin, hs, hx, hr, Result.andThen]
    exact hK _ _ (h _ _ _ o1 o2)
set_option maxRecDepth 100000 in
set_option maxHeartbeats 4000000 in
theorem own6_walk (L : List Kn) (oa : Option Addr) (cl : Nat) (T : List Rt) (ot : Option Addr) (ct : Nat) (hL : ∀ x ∈ L, KnIn x) (hT : ∀ t ∈ T, RtIn t) (hcl : L.length ≤ cl ∧ cl ≤ maxLen) (hct : T.length ≤ ct ∧ ct ≤ maxLen) (hna : oa = none → cl = 0) (hLb : L.length * 32 ≤ 140737488355328) (w : World) (hO : KnO w oa L) (hR : RtO w ot T) :
    Calls Try.prog 5 #[.slice oa L.length cl, .slice ot T.length ct] w fun e w' => e = .returned (.bool true) ∧ Below w.heap.size w w' := by
  obtain ⟨i0, hI, hz0, hz1, hz2⟩ := info_partsK infoRtK
  obtain ⟨j0, hJ, hy0, hy1, hy2⟩ := info_partsK infoKnK
  have hmx : maxLen ≤ 9223372036854775807 := by decide
  obtain ⟨n, hn⟩ : ∃ n, L.length = n := ⟨_, rfl⟩
  obtain ⟨m, hm⟩ : ∃ m, T.length = m := ⟨_, rfl⟩
  have HN := hideK hn
  have HM := hideK hm
  have HO := hideK hO
  have HR := hideK hR
  have HL := hideK hL
  have HT := hideK hT
  rw [hn] at hcl hLb ⊢
  rw [hm] at hct ⊢
  clear hn hm hO hR hL hT
  obtain ⟨PO, hPO⟩ : ∃ PO : Ending → World → Prop, (fun e w' => e = .returned (.bool true) ∧ Below w.heap.size w w') = PO := ⟨_, rfl⟩
  have HP := hideK hPO
  rw [hPO]
  clear hPO
  go_enter Try.func5, Try.ntmps5
  go_wp2_with fail
  refine (known6_any w).mono ?_
  rintro e w1 ⟨rfl, b1⟩
  have H1 := hideK b1
  clear b1
  by_cases h300 : 300 < m
  · have d3 : (300 : Int) < (m : Int) := by omega
    go_wp2_with fail
    rw [← HP.out]
    exact ⟨rfl, H1.out⟩
  have d3 : ¬ (300 : Int) < (m : Int) := by omega
  by_cases hn0 : n = 0
  · subst hn0
    have hLn : L = [] := List.length_eq_zero_iff.1 HN.out
    have hz1' := H1.out.size
    go_wp2_with (at_builtin; refine wpList_append_nothingK rfl _ _ 25 rfl w1.heap.size 36 j0 _ 4 32 Try.underlying25 hJ hy0 hy1 hy2 rfl (by decide) (.slice (some ⟨w1.heap.size, 0, none⟩) 0 0) rfl ⟨by simp, .inr ⟨w1.heap.size, 0, #[], rfl, Nat.le_refl _, World.alloc_heap_new w1 _, Nat.le_refl _, Nat.zero_le _, by simp, by simp⟩⟩ oa cl rfl hna (by simp) ?_; intro o5 c5 w2 hown2 hgrow2)
    have hb2 : Below w.heap.size w w2 := Below.grown (bup H1.out (bel1 w1 _)) hgrow2 (by rw [World.size_alloc]; omega) (fun k hk => by cases hk; exact hz1')
    obtain ⟨o6, c6, e6, hc6, hk6, -⟩ := own_kn (Q := []) hown2
    cases e6
    have H2 := hideK hb2
    have hnw := hideK (new_any6 [] o5 c5 (fun _ h => by cases h) hc6 w2 hk6)
    clear hown2 hgrow2 hb2 hk6 hc6
    go_wp2_with fail
    refine hnw.out.mono ?_
    rintro e w3 ⟨b3, h3⟩
    rw [e_nil] at h3
    obtain ⟨-, rfl⟩ := h3.resolve_left (fun h => by cases h.1)
    have H3 := hideK (bup H2.out b3)
    clear b3 hnw
    go_wp2_with fail
    refine (fine6 1 w3).mono ?_
    rintro e w4 ⟨rfl, b4⟩
    have H4 := hideK (bup H3.out b4)
    clear b4
    go_wp2_with fail
    rw [← HP.out]
    exact ⟨rfl, H4.out⟩
  have hn1 : 0 < n := by omega
  obtain ⟨x0, hx0⟩ : ∃ x, L[0]? = some x := ⟨_, List.getElem?_eq_getElem (by rw [HN.out]; exact hn1)⟩
  obtain ⟨A, rfl, hA, -⟩ := HO.out 0 x0 hx0
  have hz1' := H1.out.size
  have hk1 := HO.out.keep H1.out
  have hk2 := hideK (hk1.keep (bel1 w1 (.cells #[] 36)))
  clear hk1 hx0
  go_wp2_with (at_builtin; refine wpList_append_lies _ rfl _ _ 25 rfl w1.heap.size 36 j0 _ 4 32 Try.underlying25 hJ hy0 hy1 hy2 rfl (by decide) (.slice (some ⟨w1.heap.size, 0, none⟩) 0 0) 0 [] rfl ⟨by simp, .inr ⟨w1.heap.size, 0, #[], rfl, Nat.le_refl _, World.alloc_heap_new w1 _, Nat.le_refl _, Nat.zero_le _, by simp, by simp⟩⟩ A n cl (flatKn L) rfl (by rw [flatKn_len, HN.out]) hk2.out.news (flatKn_one L) hn1 (by unfold maxLen; omega) (by omega) (by simp) _ rfl ?_; intro gm cm w2 hown2 hgrow2 hat2 hlt2)
  have hgm : w1.heap.size ≤ gm ∧ gm < w2.heap.size := hown2.lt gm rfl
  rw [Nat.zero_add] at hown2

  have hb2 : Below w.heap.size w w2 := Below.grown (bup H1.out (bel1 w1 _)) hgrow2 (by rw [World.size_alloc]; omega) (fun k hk => by cases hk; exact hz1')
  have H2 := hideK hb2
  obtain ⟨o6, c6, e6, hc6, hk6, -⟩ := own_kn (Q := L) hown2
  cases e6
  have hnw := new_fresh L (some ⟨gm, 0, none⟩) cm HL.out (by rw [HN.out]; simpa using hc6) w2 hk6
  rw [HN.out] at hnw
  have hnw := hideK hnw
  have HM2 := hideK hown2
  clear hown2 hgrow2 hb2 hk6 hk2
  go_wp2_with fail
  refine hnw.out.mono ?_
  rintro e w3 ⟨b3, h3⟩
  have H3 := hideK (bup H2.out b3)
  have HM3 := hideK (own_growK HM2.out b3)
  have hz3 := b3.size
  rcases h3 with ⟨hE, B, rfl, hBz, vm, um, bs, hbs, hmo⟩ | ⟨hE, rfl⟩
  case inr =>
    have HE := hideK hE
    clear hnw b3
    go_wp2_with fail
    refine (fine6 _ w3).mono ?_
    rintro e w4 ⟨rfl, b4⟩
    have H4 := hideK (bup H3.out b4)
    have hf : (newE L == 0) = false := by simpa using HE.out
    clear b4
    go_wp2_with fail
    rw [← HP.out]
    exact ⟨rfl, H4.out⟩
  case inl =>
  have HE := hideK hE
  have HMO := hideK hmo
  clear hnw b3 hE hmo
  go_wp2_with fail
  refine (fine6 0 w3).mono ?_
  rintro e w4 ⟨rfl, b4⟩
  have H4 := hideK (bup H3.out b4)
  have HM4 := hideK (own_growK HM3.out b4)
  have HMO4 := hideK (HMO.out.keep b4)
  have hz4 := b4.size
  clear b4
  go_wp2_with fail
  go_loopw [8] (fun iv wq => ∃ (i : Nat) (xs : List Value), iv = .int .i64 (i : Nat) ∧ i ≤ n ∧ wq.ownsRow w1.heap.size 36 4 (.slice (some ⟨gm, 0, none⟩) n cm) n xs ∧ But (fun k => k = gm) w4 wq) (fun iv _ => n - (intOf iv).toNat)
  case atStart => exact ⟨0, _, rfl, Nat.zero_le _, HM4.out, But.refl _ _⟩
  case round =>
    obtain ⟨i, xs, rfl, hi, hown, hbt⟩ := hrel
    obtain ⟨wq, rfl⟩ : ∃ wq, wq = wr := ⟨_, rfl⟩
    by_cases hlt : i < n
    · have di : (i : Int) < (n : Int) := by omega
      have wk : IntKind.i64.wrap ((i : Int) + 1) = ((i + 1 : Nat) : Int) := by rw [show ((i + 1 : Nat) : Int) = (i : Int) + 1 by omega]; exact IntWalk.i64_in _ ⟨by have := hc6.2; omega, by have := hc6.1; have := hc6.2; omega⟩
      have hxl := hown.1
      have e0 := hown.cellAt (i * 4) (by omega)
      have e1 := hown.cellAt (i * 4 + 1) (by omega)
      have e2 := hown.cellAt (i * 4 + 2) (by omega)
      have e3 := hown.cellAt (i * 4 + 3) (by omega)
      rw [List.getElem?_eq_getElem (by omega)] at e0 e1 e2 e3
      have f0 := hown.frozenAt (i * 4)
      have f1 := hown.frozenAt (i * 4 + 1)
      have f2 := hown.frozenAt (i * 4 + 2)
      have f3 := hown.frozenAt (i * 4 + 3)
      have HA := hideK (And.intro hown hbt)
      generalize xs[i * 4]'(by omega) = q0 at e0
      generalize xs[i * 4 + 1]'(by omega) = q1 at e1
      generalize xs[i * 4 + 2]'(by omega) = q2 at e2
      generalize xs[i * 4 + 3]'(by omega) = q3 at e3
      clear hown hbt hxl
      go_wp2_with fail
      go_roundw
      case rel => exact ⟨i + 1, _, by first | rfl | simp, by omega, ((((HA.out.1.stored (i * 4) _).1.stored (i * 4 + 1) _).1.stored (i * 4 + 2) _).1.stored (i * 4 + 3) _).1, (((HA.out.2.setCell (p := ⟨gm, i * 4, none⟩) rfl _).setCell (p := ⟨gm, i * 4 + 1, none⟩) rfl _).setCell (p := ⟨gm, i * 4 + 2, none⟩) rfl _).setCell (p := ⟨gm, i * 4 + 3, none⟩) rfl _⟩
      case measure => simp [intOf]; omega
    · obtain rfl : i = n := by omega
      have d1 : ¬ (i : Int) < (i : Int) := by omega
      have HMO5 := hideK (HMO4.out.but hbt (by omega) (fun k hk _ => by omega))
      have H5 := hideK (H4.out.trans (hbt.below (by have := H4.out.size; omega) (fun k e => by omega)))
      clear hown hbt HM4 HMO4 HMO HM3 HM2 H4 H3 H2 hi
      generalize wq = W5 at *
      obtain ⟨hq1, -, -, -⟩ := newE_zero HE.out
      obtain ⟨hl1, hl2, -, -⟩ := chk_ok hq1
      have hni := new_in L HL.out
      have hpi := pts_in (bndK L) (bnd_in L HL.out)
      have hbl := bnd_len L
      have hkl : (newK L).length ≤ 66 ∧ 1 ≤ (newK L).length := by
        rw [hni.2]
        exact ⟨by show (ptsA (bndK L)).length ≤ _; omega, hpi.2.2⟩
      have HKin := hideK hni.1
      have HRis := hideK (new_ris HE.out)
      clear hq1 hl1 hl2 hni hpi hbl d1 hlt xs
      generalize newK L = K at *
      have HSin := hideK (sls_in K HKin.out)
      have hsl := sls_len K hkl.2
      have HSl := hideK hsl
      have HVM : Hid ((∀ k, vm.ownBlock = some k → k < W5.heap.size) ∧ (∀ k, um.ownBlock = some k → k < W5.heap.size)) := hideK ⟨fun k hk => (HMO5.out.kn.lt k hk).2, fun k hk => (HMO5.out.rt.lt k hk).2⟩
      have hBW := HMO5.out.lt
      have hw5 := H5.out.size
      obtain ⟨kk, hkk⟩ : ∃ kk, K.length = kk := ⟨_, rfl⟩
      have HKK := hideK hkk
      rw [hkk] at hkl hsl
      clear hkk
      go_wp2_with fail
      refine (knots_any6 K (slsK K) B (by rw [HKK.out]; omega) (by rw [HKK.out]; omega) W5 HMO5.out.map).mono ?_
      rintro e w6 ⟨va, rfl, hoa, b6⟩
      rw [HKK.out] at hoa
      obtain ⟨ga, ca, rfl, hga, hga2⟩ := World.ownsRow.form hoa (by omega)
      have HA6 := hideK hoa
      have H6 := hideK (bup H5.out b6)
      have HMO6 := hideK (HMO5.out.keep b6)
      have hz6 := b6.size
      clear hoa b6 HMO5 H5
      go_wp2_with fail
      refine (knots_any6 K (slsK K) B (by rw [HKK.out]; omega) (by rw [HKK.out]; omega) w6 HMO6.out.map).mono ?_
      rintro e w7 ⟨vb, rfl, hob, b7⟩
      rw [HKK.out] at hob
      obtain ⟨gb, cb, rfl, hgb, hgb2⟩ := World.ownsRow.form hob (by omega)
      have HA7 := hideK (own_growK HA6.out b7)
      have HB7 := hideK hob
      have H7 := hideK (bup H6.out b7)
      have HMO7 := hideK (HMO6.out.keep b7)
      have hz7 := b7.size
      obtain ⟨o7, c7, e7, hc7, hk7, -⟩ := own_kn (Q := K) hob
      cases e7
      have hk7' := hideK (hk7.keep (bel1 w7 (.cells #[] 36)))
      clear hob b7 HMO6 H6 HA6 hk7
      go_wp2_with (at_builtin; refine wpList_append_lies _ rfl _ _ 25 rfl w7.heap.size 36 j0 _ 4 32 Try.underlying25 hJ hy0 hy1 hy2 rfl (by decide) (.slice (some ⟨w7.heap.size, 0, none⟩) 0 0) 0 [] rfl ⟨by simp, .inr ⟨w7.heap.size, 0, #[], rfl, Nat.le_refl _, World.alloc_heap_new w7 _, Nat.le_refl _, Nat.zero_le _, by simp, by simp⟩⟩ ⟨gb, 0, none⟩ kk cb (flatKn K) rfl (by rw [flatKn_len, HKK.out]) hk7'.out.news (flatKn_one K) (by omega) (by unfold maxLen; omega) (by omega) (by simp) _ rfl ?_; intro gw cw w8 hown8 hgrow8 hat8 hlt8)
      rw [Nat.zero_add] at hown8
      have B8 : Below w7.heap.size w7 w8 := Below.grown (bel1 w7 _) hgrow8 (by rw [World.size_alloc]; omega) (fun k hk => by cases hk; exact Nat.le_refl _)
      have hgw : w7.heap.size ≤ gw ∧ gw < w8.heap.size := hown8.lt gw rfl
      have HA8 := hideK (own_growK HA7.out B8)
      have HB8 := hideK (own_growK HB7.out B8)
      have HW8 := hideK (show w8.ownsRow w7.heap.size 36 4 (.slice (some ⟨gw, 0, none⟩) kk cw) kk (flatKn K) from hown8)
      have H8 := hideK (bup H7.out B8)
      have HMO8 := hideK (HMO7.out.keep B8)
      have hz8 := B8.size
      clear hown8 hgrow8 B8 HMO7 H7 HA7 HB7 hk7'
      obtain ⟨f, hf⟩ : ∃ f, appF K (slsK K) = f := ⟨_, rfl⟩
      have HAll : Hid (∀ W, Below w.heap.size w W → (∃ base v u, MapO W base B v u K (slsK K)) → Calls Try.prog 14 #[.pointer (some ⟨B, 0, none⟩), .slice ot m ct] W fun e w' => ∃ v, e = .returned (.tuple #[v, .int .i64 (allI f 0 T).1, .int .i64 (allI f 0 T).2]) ∧ w'.ownsRow W.heap.size 32 2 v (allQ f T).length (flatRt (allQ f T)) ∧ Below W.heap.size W w') := hideK (fun W q hmw => by
        obtain ⟨base, v, u, hmw⟩ := hmw
        have h := all_any6 f B T ot ct (by rw [HM.out]; exact hct) (by rw [HM.out]; omega) W (HR.out.keep q) (fun t ht W' q' => by
          rw [← hf]
          exact apply_fun K (slsK K) B t HKin.out HSin.out (HT.out t ht) HSl.out (by rw [HKK.out]; omega) (by rw [HKK.out]; omega) HRis.out W' ((hmw.keep q').map))
        rw [HM.out] at h
        exact h)
      have hQl : (allI f 0 T).2 = 0 → (allQ f T).length = m := fun h => by
        unfold allQ
        rw [if_pos h, List.length_map, HM.out]
      have hQm : (allQ f T).length ≤ m := by
        unfold allQ
        split
        · rw [List.length_map, HM.out]
          exact Nat.le_refl _
        · exact Nat.zero_le _
      clear hf
      generalize (allI f 0 T).1 = y1 at *
      generalize (allI f 0 T).2 = y2 at *
      generalize allQ f T = Q at *
      obtain ⟨q, hq⟩ : ∃ q, Q.length = q := ⟨_, rfl⟩
      have HQ := hideK hq
      rw [hq] at hQl hQm HAll
      have HQl := hideK hQl
      clear hq hQl
      go_wp2_with fail
      refine (HAll.out w8 H8.out ⟨_, _, _, HMO8.out⟩).mono ?_
      rintro e w9 ⟨vx, rfl, hox, b9⟩
      obtain ⟨ox, cx, rfl⟩ := own_slK hox
      have HGX : Hid (∀ k, (Value.slice ox q cx).ownBlock = some k → w8.heap.size ≤ k ∧ k < w9.heap.size) := hideK (fun k hk => hox.lt k hk)
      have HX9 := hideK hox
      have HA9 := hideK (own_growK HA8.out b9)
      have HB9 := hideK (own_growK HB8.out b9)
      have HW9 := hideK (own_growK HW8.out b9)
      have H9 := hideK (bup H8.out b9)
      have HMO9 := hideK (HMO8.out.keep b9)
      have hz9 := b9.size
      clear hox b9 HMO8 H8 HA8 HB8 HW8
      go_wp2_with fail
      refine (HAll.out w9 H9.out ⟨_, _, _, HMO9.out⟩).mono ?_
      rintro e w10 ⟨vy, rfl, hoy, b10⟩
      obtain ⟨oy, cy, rfl⟩ := own_slK hoy
      have HGY : Hid (∀ k, (Value.slice oy q cy).ownBlock = some k → w9.heap.size ≤ k ∧ k < w10.heap.size) := hideK (fun k hk => hoy.lt k hk)
      have HY10 := hideK hoy
      have HX10 := hideK (own_growK HX9.out b10)
      have HA10 := hideK (own_growK HA9.out b10)
      have HB10 := hideK (own_growK HB9.out b10)
      have HW10 := hideK (own_growK HW9.out b10)
      have H10 := hideK (bup H9.out b10)
      have HMO10 := hideK (HMO9.out.keep b10)
      have hz10 := b10.size
      clear hoy b10 HMO9 H9 HA9 HB9 HW9 HX9
      have hca := (World.ownsRow.form HA10.out (by omega))
      have hcaB : kk ≤ ca ∧ ca ≤ maxLen := by
        obtain ⟨o', c', e', hc', -, -⟩ := own_kn (Q := K) HA10.out
        cases e'
        exact hc'
      clear hca
      go_wp2_with fail
      go_loopw [18] (fun iv wq => ∃ (i : Nat) (xs : List Value), iv = .int .i64 (i : Nat) ∧ i ≤ kk ∧ wq.ownsRow W5.heap.size 36 4 (.slice (some ⟨ga, 0, none⟩) kk ca) kk xs ∧ But (fun k => k = ga) w10 wq) (fun iv _ => kk - (intOf iv).toNat)
      case atStart => exact ⟨0, _, rfl, Nat.zero_le _, HA10.out, But.refl _ _⟩
      case round =>
        obtain ⟨i, xs, rfl, hi, hown, hbt⟩ := hrel
        obtain ⟨wq, rfl⟩ : ∃ wq, wq = wr := ⟨_, rfl⟩
        by_cases hlt : i < kk
        · have di : (i : Int) < (kk : Int) := by omega
          have wk : IntKind.i64.wrap ((i : Int) + 1) = ((i + 1 : Nat) : Int) := by rw [show ((i + 1 : Nat) : Int) = (i : Int) + 1 by omega]; exact IntWalk.i64_in _ ⟨by omega, by omega⟩
          have hxl := hown.1
          have e0 := hown.cellAt (i * 4) (by omega)
          have e1 := hown.cellAt (i * 4 + 1) (by omega)
          have e2 := hown.cellAt (i * 4 + 2) (by omega)
          have e3 := hown.cellAt (i * 4 + 3) (by omega)
          rw [List.getElem?_eq_getElem (by omega)] at e0 e1 e2 e3
          have f0 := hown.frozenAt (i * 4)
          have f1 := hown.frozenAt (i * 4 + 1)
          have f2 := hown.frozenAt (i * 4 + 2)
          have f3 := hown.frozenAt (i * 4 + 3)
          have HA := hideK (And.intro hown hbt)
          generalize xs[i * 4]'(by omega) = q0 at e0
          generalize xs[i * 4 + 1]'(by omega) = q1 at e1
          generalize xs[i * 4 + 2]'(by omega) = q2 at e2
          generalize xs[i * 4 + 3]'(by omega) = q3 at e3
          clear hown hbt hxl
          go_wp2_with fail
          go_roundw
          case rel => exact ⟨i + 1, _, by first | rfl | simp, by omega, ((((HA.out.1.stored (i * 4) _).1.stored (i * 4 + 1) _).1.stored (i * 4 + 2) _).1.stored (i * 4 + 3) _).1, (((HA.out.2.setCell (p := ⟨ga, i * 4, none⟩) rfl _).setCell (p := ⟨ga, i * 4 + 1, none⟩) rfl _).setCell (p := ⟨ga, i * 4 + 2, none⟩) rfl _).setCell (p := ⟨ga, i * 4 + 3, none⟩) rfl _⟩
          case measure => simp [intOf]; omega
        · obtain rfl : i = kk := by omega
          have d1 : ¬ (i : Int) < (i : Int) := by omega
          have HMO11 := hideK (HMO10.out.butV hbt (by omega) (fun k hk e => by have := HVM.out.1 k hk; omega) (fun k hk e => by have := HVM.out.2 k hk; omega))
          have H11 := hideK (H10.out.trans (hbt.below (by have := H10.out.size; omega) (fun k e => by omega)))
          have HX11 := hideK (own_butK HX10.out hbt (fun k hk e => by have := (HX10.out.lt k hk).1; omega))
          have HY11 := hideK (own_butK HY10.out hbt (fun k hk e => by have := (HY10.out.lt k hk).1; omega))
          have HB11 := hideK (own_butK HB10.out hbt (fun k hk e => by have := (HB10.out.lt k hk).1; omega))
          have HW11 := hideK (own_butK HW10.out hbt (fun k hk e => by have := (HW10.out.lt k hk).1; omega))
          have HA11 := hideK hown
          have hz11 := hbt.size
          clear hown hbt HMO10 H10 HX10 HY10 HB10 HW10 HA10 d1 hlt hi
          generalize wq = W11 at *
          go_wp2_with fail
          refine (whole6L 9 W11).mono ?_
          rintro e W12 ⟨rfl, b12⟩
          have hz12 := b12.size
          have HA12 := hideK (own_growK HA11.out b12)
          have HB12 := hideK b12
          clear b12
          go_wp2_with (at_builtin; refine wpList_append_lies _ rfl _ _ 25 rfl W5.heap.size 36 j0 _ 4 32 Try.underlying25 hJ hy0 hy1 hy2 rfl (by decide) (.slice (some ⟨ga, 0, none⟩) i ca) i xs rfl (own_growK HA12.out (bel1 W12 _)) ⟨W12.heap.size, 0, none⟩ 1 1 [.int .i64 9, .int .i64 1, .int .i64 0, .int .i64 0] rfl rfl (cell_fourK W12 _ _ _ _ _) (by simp [Value.oneCell']) (by omega) (by unfold maxLen; omega) (by omega) (by simp; omega) _ rfl ?_; intro ga2 ca2 w13 hown13 hgrow13 hat13 hlt13)
          have hb13 : But (fun k => k = ga) W11 w13 := ((But.grown HB12.out).trans (But.grown (bel1 W12 _))).trans (but_grow1 hgrow13 (fun k e => by cases e; rfl))
          have HMO13 := hideK (HMO11.out.butV hb13 (by omega) (fun k hk e => by have := HVM.out.1 k hk; omega) (fun k hk e => by have := HVM.out.2 k hk; omega))
          have H13 := hideK (H11.out.trans (hb13.below (by have := H11.out.size; omega) (fun k e => by omega)))
          have HX13 := hideK (own_butK HX11.out hb13 (fun k hk e => by have := (HX11.out.lt k hk).1; omega))
          have HY13 := hideK (own_butK HY11.out hb13 (fun k hk e => by have := (HY11.out.lt k hk).1; omega))
          have HB13 := hideK (own_butK HB11.out hb13 (fun k hk e => by have := (HB11.out.lt k hk).1; omega))
          have HW13 := hideK (own_butK HW11.out hb13 (fun k hk e => by have := (HW11.out.lt k hk).1; omega))
          have hz13 := hb13.size
          clear hown13 hgrow13 hat13 hlt13 hb13 HMO11 H11 HX11 HY11 HB11 HW11 HA11 HA12 HB12
          go_wp2_with fail
          go_loopw [19] (fun iv wq => ∃ (j : Nat) (xs : List Value), iv = .int .i64 (j : Nat) ∧ j ≤ q ∧ wq.ownsRow w8.heap.size 32 2 (.slice ox q cx) q xs ∧ But (fun k => (Value.slice ox q cx).ownBlock = some k) w13 wq) (fun iv _ => q - (intOf iv).toNat)
          case atStart => exact ⟨0, _, rfl, Nat.zero_le _, HX13.out, But.refl _ _⟩
          case round =>
            obtain ⟨j, xs, rfl, hj, hown, hbt⟩ := hrel
            obtain ⟨wq, rfl⟩ : ∃ wq, wq = wr := ⟨_, rfl⟩
            by_cases hlt : j < q
            · obtain ⟨gx, cx', e, -, -⟩ := World.ownsRow.form hown (by omega)
              cases e
              have di : (j : Int) < (q : Int) := by omega
              have wk : IntKind.i64.wrap ((j : Int) + 1) = ((j + 1 : Nat) : Int) := by rw [show ((j + 1 : Nat) : Int) = (j : Int) + 1 by omega]; exact IntWalk.i64_in _ ⟨by omega, by omega⟩
              have HA := hideK (And.intro hown hbt)
              clear hown hbt
              go_wp2_with fail
              refine (whole6L (-5) wq).mono ?_
              rintro e w15 ⟨rfl, b15⟩
              have hown := own_growK HA.out.1 b15
              have hxl := hown.1
              have e0 := hown.cellAt (j * 2) (by omega)
              have e1 := hown.cellAt (j * 2 + 1) (by omega)
              rw [List.getElem?_eq_getElem (by omega)] at e0 e1
              have f0 := hown.frozenAt (j * 2)
              have f1 := hown.frozenAt (j * 2 + 1)
              have HA2 := hideK (And.intro hown (HA.out.2.trans (But.grown b15)))
              generalize xs[j * 2]'(by omega) = q0 at e0
              generalize xs[j * 2 + 1]'(by omega) = q1 at e1
              clear hown hxl b15
              go_wp2_with fail
              go_roundw
              case rel => exact ⟨j + 1, _, by first | rfl | simp, by omega, ((HA2.out.1.stored (j * 2) _).1.stored (j * 2 + 1) _).1, (HA2.out.2.setCell (p := ⟨gx, j * 2, none⟩) rfl _).setCell (p := ⟨gx, j * 2 + 1, none⟩) rfl _⟩
              case measure => simp [intOf]; omega
            · obtain rfl : j = q := by omega
              have d1 : ¬ (j : Int) < (j : Int) := by omega
              have HMO14 := hideK (HMO13.out.butV hbt (fun e => by have := HGX.out _ e; omega) (fun k hk e => by have := HVM.out.1 k hk; have := HGX.out _ e; omega) (fun k hk e => by have := HVM.out.2 k hk; have := HGX.out _ e; omega))
              have H14 := hideK (H13.out.trans (hbt.below (by have := H13.out.size; omega) (fun k e => by have := HGX.out _ e; omega)))
              have HY14 := hideK (own_butK HY13.out hbt (fun k hk e => by have := HGY.out k hk; have := HGX.out _ e; omega))
              have HB14 := hideK (own_butK HB13.out hbt (fun k hk e => by cases hk; have h9 : w8.heap.size ≤ gb ∧ gb < w9.heap.size := HGX.out _ e; omega))
              have HW14 := hideK (own_butK HW13.out hbt (fun k hk e => by cases hk; have h9 : w8.heap.size ≤ gw ∧ gw < w9.heap.size := HGX.out _ e; omega))
              have HX14 := hideK hown
              have hz14 := hbt.size
              clear hown hbt HMO13 H13 HY13 HB13 HW13 HX13 d1 hlt hj
              generalize wq = W14 at *
              go_wp2_with fail
              refine (whole6L 3 W14).mono ?_
              rintro e W15 ⟨rfl, b15⟩
              have hz15 := b15.size
              have HX15 := hideK (own_growK HX14.out b15)
              have HB15 := hideK b15
              clear b15
              go_wp2_with (at_builtin; refine wpList_append_lies _ rfl _ _ 26 rfl w8.heap.size 32 i0 _ 2 16 Try.underlying26 hI hz0 ‹_› ‹_› rfl (by decide) (.slice ox j cx) j xs rfl (own_growK HX15.out (bel1 W15 _)) ⟨W15.heap.size, 0, none⟩ 1 1 [.int .i64 3, .int .i64 1] rfl rfl (World.news_of_block (cs := #[.int .i64 3, .int .i64 1]) (t := 32) (fr := (0, 0)) (World.alloc_heap_new W15 _)) (by simp [Value.oneCell']) (by omega) (by unfold maxLen; omega) (by omega) (by simp; omega) _ rfl ?_; intro gx2 cx2 w16 hown16 hgrow16 hat16 hlt16)
              have hb16 : But (fun k => (Value.slice ox j cx).ownBlock = some k) W14 w16 := ((But.grown HB15.out).trans (But.grown (bel1 W15 _))).trans (but_grow1 hgrow16 (fun k e => e))
              have HMO16 := hideK (HMO14.out.butV hb16 (fun e => by have := HGX.out _ e; omega) (fun k hk e => by have := HVM.out.1 k hk; have := HGX.out _ e; omega) (fun k hk e => by have := HVM.out.2 k hk; have := HGX.out _ e; omega))
              have H16 := hideK (H14.out.trans (hb16.below (by have := H14.out.size; omega) (fun k e => by have := HGX.out _ e; omega)))
              have HY16 := hideK (own_butK HY14.out hb16 (fun k hk e => by have := HGY.out k hk; have := HGX.out _ e; omega))
              have HB16 := hideK (own_butK HB14.out hb16 (fun k hk e => by cases hk; have h9 : w8.heap.size ≤ gb ∧ gb < w9.heap.size := HGX.out _ e; omega))
              have HW16 := hideK (own_butK HW14.out hb16 (fun k hk e => by cases hk; have h9 : w8.heap.size ≤ gw ∧ gw < w9.heap.size := HGX.out _ e; omega))
              clear hown16 hgrow16 hat16 hlt16 hb16 HMO14 H14 HX14 HY14 HB14 HW14 HX15 HB15
              go_wp2_with fail
              refine (HAll.out w16 H16.out ⟨_, _, _, HMO16.out⟩).mono ?_
              rintro e w17 ⟨vz, rfl, hoz, b17⟩
              obtain ⟨oz, cz, rfl⟩ := own_slK hoz
              have HZ17 := hideK hoz
              have HY17 := hideK (own_growK HY16.out b17)
              have HB17 := hideK (own_growK HB16.out b17)
              have HW17 := hideK (own_growK HW16.out b17)
              have H17 := hideK (bup H16.out b17)
              have HMO17 := hideK (HMO16.out.keep b17)
              clear hoz b17 HMO16 H16 HY16 HB16 HW16
              obtain ⟨o8, c8, e8, hc8, hk8, -⟩ := own_kn (Q := K) HB17.out
              cases e8
              obtain ⟨o9, c9, e9, hc9, hk9, -⟩ := own_kn (Q := K) HW17.out
              cases e9
              have hkt := knots6_true K (some ⟨gb, 0, none⟩) (some ⟨gw, 0, none⟩) cb cw (by rw [HKK.out]; exact hc8) w17 hk8 hk9
              rw [HKK.out] at hkt
              have HKt := hideK hkt
              clear hkt hk8 hk9
              go_wp2_with fail
              refine HKt.out.mono ?_
              rintro e w18 ⟨rfl, b18⟩
              have HZ18 := hideK (own_growK HZ17.out b18)
              have HY18 := hideK (own_growK HY17.out b18)
              have HW18 := hideK (own_growK HW17.out b18)
              have H18 := hideK (bup H17.out b18)
              have HMO18 := hideK (HMO17.out.keep b18)
              clear b18 HKt HZ17 HY17 HB17 HW17 H17 HMO17
              go_wp2_with fail
              refine (knots_any6 K (slsK K) B (by rw [HKK.out]; omega) (by rw [HKK.out]; omega) w18 HMO18.out.map).mono ?_
              rintro e w19 ⟨vk, rfl, hok, b19⟩
              rw [HKK.out] at hok
              obtain ⟨gk, ck, rfl, -, -⟩ := World.ownsRow.form hok (by omega)
              have HZ19 := hideK (own_growK HZ18.out b19)
              have HY19 := hideK (own_growK HY18.out b19)
              have HW19 := own_growK HW18.out b19
              have H19 := hideK (bup H18.out b19)
              obtain ⟨o8, c8, e8, hc8', hk8, -⟩ := own_kn (Q := K) hok
              cases e8
              obtain ⟨o9, c9, e9, hc9', hk9, -⟩ := own_kn (Q := K) HW19
              cases e9
              have hkt := knots6_true K (some ⟨gk, 0, none⟩) (some ⟨gw, 0, none⟩) ck cw (by rw [HKK.out]; exact hc8') w19 hk8 hk9
              rw [HKK.out] at hkt
              have HKt := hideK hkt
              clear b19 HZ18 HY18 HW18 HW19 H18 HMO18 hkt hk8 hk9 hok
              go_wp2_with fail
              refine HKt.out.mono ?_
              rintro e w20 ⟨rfl, b20⟩
              have HZ20 := hideK (own_growK HZ19.out b20)
              have HY20 := hideK (own_growK HY19.out b20)
              have H20 := hideK (bup H19.out b20)
              clear b20 HKt HZ19 HY19 H19
              go_wp2_with fail
              refine (fine6 y2 w20).mono ?_
              rintro e w21 ⟨rfl, b21⟩
              have HZ21 := hideK (own_growK HZ20.out b21)
              have HY21 := hideK (own_growK HY20.out b21)
              have H21 := hideK (bup H20.out b21)
              clear b21 HZ20 HY20 H20
              by_cases hy : y2 = 0
              · have hjm := HQl.out hy
                subst hjm
                subst hy
                go_wp2_with fail
                go_loopw [23] (fun iv wq => ∃ t : Nat, iv = .int .i64 (t : Nat) ∧ t ≤ j ∧ Below w21.heap.size w21 wq) (fun iv _ => j - (intOf iv).toNat)
                case atStart => exact ⟨0, rfl, Nat.zero_le _, Below.refl _ _⟩
                case round =>
                  obtain ⟨t, rfl, ht, hb⟩ := hrel
                  obtain ⟨wq, rfl⟩ : ∃ wq, wq = wr := ⟨_, rfl⟩
                  by_cases hlt : t < j
                  · obtain ⟨r, hr⟩ : ∃ r, Q[t]? = some r := ⟨_, List.getElem?_eq_getElem (by rw [HQ.out]; omega)⟩
                    obtain ⟨oy1, cy1, ey, hcy, hky, -⟩ := own_rt (Q := Q) HY21.out
                    cases ey
                    obtain ⟨oz1, cz1, ez, hcz, hkz, -⟩ := own_rt (Q := Q) HZ21.out
                    cases ez
                    obtain ⟨Ay, rfl, -, p0, p1⟩ := (hky.keep hb).get hr
                    obtain ⟨Az, rfl, -, r0, r1⟩ := (hkz.keep hb).get hr
                    have HBe := hideK hb
                    have di : (t : Int) < (j : Int) := by omega
                    have wk : IntKind.i64.wrap ((t : Int) + 1) = ((t + 1 : Nat) : Int) := by rw [show ((t + 1 : Nat) : Int) = (t : Int) + 1 by omega]; exact IntWalk.i64_in _ ⟨by omega, by omega⟩
                    have hnq : ∀ W, (binOp .neq 32 (.agg #[.int .i64 r.N, .int .i64 r.D]) (.agg #[.int .i64 r.N, .int .i64 r.D])).run Try.prog W = .ok (.bool false) W := fun W => by rw [rt_neqK]; simp
                    clear hb hr hky hkz hcy hcz
                    go_upto_region 34 with fail
                    go_region
                    go_wp2_with fail
                    go_roundw
                    case rel => exact ⟨t + 1, by first | rfl | simp, by omega, HBe.out.drew⟩
                    case measure => simp [intOf]; omega
                  · have d2 : ¬ (t : Int) < (j : Int) := by omega
                    have HBe := hideK (H21.out.trans (hb.mono H21.out.size))
                    clear hb
                    go_wp2_with fail
                    rw [← HP.out]
                    exact ⟨rfl, HBe.out⟩
              · have hyf : (y2 == 0) = false := by simpa using hy
                go_wp2_with fail
                go_loopw [23] (fun iv wq => ∃ t : Nat, iv = .int .i64 (t : Nat) ∧ t ≤ j ∧ Below w21.heap.size w21 wq) (fun iv _ => j - (intOf iv).toNat)
                case atStart => exact ⟨0, rfl, Nat.zero_le _, Below.refl _ _⟩
                case round =>
                  obtain ⟨t, rfl, ht, hb⟩ := hrel
                  obtain ⟨wq, rfl⟩ : ∃ wq, wq = wr := ⟨_, rfl⟩
                  by_cases hlt : t < j
                  · obtain ⟨r, hr⟩ : ∃ r, Q[t]? = some r := ⟨_, List.getElem?_eq_getElem (by rw [HQ.out]; omega)⟩
                    obtain ⟨oy1, cy1, ey, hcy, hky, -⟩ := own_rt (Q := Q) HY21.out
                    cases ey
                    obtain ⟨oz1, cz1, ez, hcz, hkz, -⟩ := own_rt (Q := Q) HZ21.out
                    cases ez
                    obtain ⟨Ay, rfl, -, p0, p1⟩ := (hky.keep hb).get hr
                    obtain ⟨Az, rfl, -, r0, r1⟩ := (hkz.keep hb).get hr
                    have HBe := hideK hb
                    have di : (t : Int) < (j : Int) := by omega
                    have wk : IntKind.i64.wrap ((t : Int) + 1) = ((t + 1 : Nat) : Int) := by rw [show ((t + 1 : Nat) : Int) = (t : Int) + 1 by omega]; exact IntWalk.i64_in _ ⟨by omega, by omega⟩
                    have hnq : ∀ W, (binOp .neq 32 (.agg #[.int .i64 r.N, .int .i64 r.D]) (.agg #[.int .i64 r.N, .int .i64 r.D])).run Try.prog W = .ok (.bool false) W := fun W => by rw [rt_neqK]; simp
                    clear hb hr hky hkz hcy hcz
                    go_upto_region 34 with fail
                    go_region
                    go_wp2_with fail
                    go_roundw
                    case rel => exact ⟨t + 1, by first | rfl | simp, by omega, HBe.out.drew⟩
                    case measure => simp [intOf]; omega
                  · have d2 : ¬ (t : Int) < (j : Int) := by omega
                    have HBe := hideK (H21.out.trans (hb.mono H21.out.size))
                    clear hb
                    go_wp2_with fail
                    rw [← HP.out]
                    exact ⟨rfl, HBe.out⟩
end Go.Proofs.Ytjbkhbhobnlhcaa
