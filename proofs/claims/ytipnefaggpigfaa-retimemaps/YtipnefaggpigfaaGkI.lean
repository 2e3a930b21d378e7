/- RetimeMaps: the law's made, the walk (chapter 6). -/
import Derived.Test.YtipnefaggpigfaaGU
import Derived.Test.YtipnefaggpigfaaGkF
import Derived.Test.YtipnefaggpigfaaGA
namespace Go.Proofs.Ytipnefaggpigfaa
open Go.RowKit Go.Shelf

theorem wpList_append_nothingG {P : Program} {w : World} {ops : Array Oper} {rest : List Oper} {o : Oper} {a : Act} {Q : Exit → Act → World → Prop} (hgd : o.guard = none) (s x : Operand) (t : TypeId)
    (ho : o.op = .call { callee := .builtin .append, args := #[s, x], argTypes := #[t, t] })
    (base : Nat) (e : TypeId) (i : TypeInfo) (z : Value) (size bytes : Nat) (ht : P.underlying t = some (.slice e)) (hi : P.info? e = some i) (hz : i.zero = some z) (hsize : i.size = size) (hby : i.bytes = bytes) (hzs : z.cells.size = size) (hsz : 0 < size)
    (v : Value) (hs : a.eval s = v) (hown : w.ownsRow base e size v 0 []) (oa : Option Addr) (c : Nat) (hx : a.eval x = .slice oa 0 c) (hn : oa = none → c = 0) (hbase : base ≤ w.heap.size)
    (h : ∀ o' c' w', w'.ownsRow base e size (.slice o' 0 c') 0 [] → w.grownBy w' v.ownBlock → wpList P ops Q rest (a.put o.dst (.slice o' 0 c')) w') : wpList P ops Q (o :: rest) a w := by
  refine wpList_plain hgd fun K hK => ?_
  cases oa with
  | none =>
    obtain rfl := hn rfl
    have hrun := run_append_owned_none (P := P) (w := w) base t o.type e i size ht hi v 0 [] hown
    obtain ⟨o', c', rfl⟩ := own_slG hown
    unfold Oper.wp
    simp [execOp, ho, resolve, invoke, builtin, hs, hx, hrun, Result.andThen]
    exact hK _ _ (h _ _ _ hown (World.grownBy.refl _ _))
  | some ad =>
    obtain ⟨v', w', hr, o1, o2, _⟩ := run_append_own (P := P) w base t o.type e i z size bytes ht hi hz hsize hby hzs hsz v 0 [] hown ad 0 c [] (by simp) (fun j u hu => by simp at hu) (fun u hu => by simp at hu) (by unfold maxLen; omega) (by omega) hbase
    obtain ⟨o', c', rfl⟩ := own_slG o1
    unfold Oper.wp
    simp [execOp, ho, resolve, invoke, builtin, hs, hx, hr, Result.andThen]
    exact hK _ _ (h _ _ _ o1 o2)
theorem made6_nil (er : Int) (v : Value) (w : World) : Calls Try.prog 8 #[.pointer none, .int .i64 er, .pointer none, .int .i64 er, v] w fun e w' => e = .returned (.bool true) ∧ Below w.heap.size w w' := by
  go_enter Try.func8, Try.ntmps8
  go_wp2_with fail
  go_ret
  exact ⟨rfl, Below.refl _ _⟩
theorem made6_two (B B2 : Nat) (v : Value) (w : World) (hL : Calls Try.prog 14 #[.pointer (some ⟨B, 0, none⟩), .pointer (some ⟨B2, 0, none⟩), v] w fun e w' => e = .returned (.bool true) ∧ Below w.heap.size w w') :
    Calls Try.prog 8 #[.pointer (some ⟨B, 0, none⟩), .int .i64 0, .pointer (some ⟨B2, 0, none⟩), .int .i64 0, v] w fun e w' => e = .returned (.bool true) ∧ Below w.heap.size w w' := by
  have HL := hideK hL
  clear hL
  go_enter Try.func8, Try.ntmps8
  go_wp2_with fail
  refine HL.out.mono ?_
  rintro e w1 ⟨rfl, b1⟩
  have HB := hideK b1
  clear b1
  go_wp2_with fail
  go_ret
  exact ⟨rfl, HB.out⟩
set_option maxRecDepth 100000 in
set_option maxHeartbeats 4000000 in
theorem maps6_walk (L : List Kn) (oa : Option Addr) (cl : Nat) (T : List Rt) (ot : Option Addr) (ct : Nat) (hL : ∀ x ∈ L, KnIn x) (hT : ∀ t ∈ T, RtIn t) (hcl : L.length ≤ cl ∧ cl ≤ maxLen) (hct : T.length ≤ ct ∧ ct ≤ maxLen) (hna : oa = none → cl = 0) (hLb : L.length * 32 ≤ 140737488355328) (w : World) (hO : KnO w oa L) (hR : RtO w ot T) :
    Calls Try.prog 3 #[.slice oa L.length cl, .slice ot T.length ct] w fun e w' => e = .returned (.bool true) ∧ Below w.heap.size w w' := by
  obtain ⟨j0, hJ, hy0, hy1, hy2⟩ := info_partsK infoKnK
  have hmx : maxLen ≤ 9223372036854775807 := by decide
  obtain ⟨n, hn⟩ : ∃ n, L.length = n := ⟨_, rfl⟩
  obtain ⟨m, hm⟩ : ∃ m, T.length = m := ⟨_, rfl⟩
  have HN := hideK hn
  have HM := hideK hm
  have HO := hideK hO
  have HR := hideK hR
  have HL := hideK hL
  have HT := hideK hT
  rw [hn] at hcl hLb ⊢
  rw [hm] at hct ⊢
  clear hn hm hO hR hL hT
  obtain ⟨PO, hPO⟩ : ∃ PO : Ending → World → Prop, (fun e w' => e = .returned (.bool true) ∧ Below w.heap.size w w') = PO := ⟨_, rfl⟩
  have HP := hideK hPO
  rw [hPO]
  clear hPO
  go_enter Try.func3, Try.ntmps3
  go_wp2_with fail
  refine (known6_any w).mono ?_
  rintro e w1 ⟨rfl, b1⟩
  have H1 := hideK b1
  clear b1
  by_cases h2n : 2000 < n
  · have d3 : (2000 : Int) < (n : Int) := by omega
    go_wp2_with fail
    rw [← HP.out]
    exact ⟨rfl, H1.out⟩
  have d3 : ¬ (2000 : Int) < (n : Int) := by omega
  by_cases h2m : 2000 < m
  · have d4 : (2000 : Int) < (m : Int) := by omega
    go_wp2_with fail
    rw [← HP.out]
    exact ⟨rfl, H1.out⟩
  have d4 : ¬ (2000 : Int) < (m : Int) := by omega
  have hz1' := H1.out.size
  have hkw := hideK (HO.out.keep H1.out)
  go_upto_region 5 with fail
  go_cut [5] (fun v wx => ∃ o c, v = .slice o n c ∧ (n ≤ c ∧ c ≤ maxLen) ∧ KnO wx o L ∧ Below w.heap.size w wx)
  case first =>
    by_cases hn0 : n = 0
    · subst hn0
      have hLn : L = [] := List.length_eq_zero_iff.1 HN.out
      go_wp2_with (at_builtin; refine wpList_append_nothingG rfl _ _ 22 rfl w1.heap.size 45 j0 _ 4 32 Try.underlying22 hJ hy0 hy1 hy2 rfl (by decide) (.slice (some ⟨w1.heap.size, 0, none⟩) 0 0) rfl ⟨by simp, .inr ⟨w1.heap.size, 0, #[], rfl, Nat.le_refl _, World.alloc_heap_new w1 _, Nat.le_refl _, Nat.zero_le _, by simp, by simp⟩⟩ oa cl rfl hna (by simp) ?_; intro o5 c5 w2 hown2 hgrow2)
      have hb2 : Below w.heap.size w w2 := Below.grown (bup H1.out (bel1 w1 _)) hgrow2 (by rw [World.size_alloc]; omega) (fun k hk => by cases hk; exact hz1')
      obtain ⟨o6, c6, e6, hc6, hk6, -⟩ := own_kn (Q := []) hown2
      cases e6
      go_meet
      case rel => exact ⟨_, _, rfl, hc6, by rw [hLn]; exact hk6, hb2⟩
    · have hn1 : 0 < n := by omega
      obtain ⟨x0, hx0⟩ : ∃ x, L[0]? = some x := ⟨_, List.getElem?_eq_getElem (by rw [HN.out]; exact hn1)⟩
      obtain ⟨A, rfl, hA, -⟩ := HO.out 0 x0 hx0
      have hk2 := hideK (hkw.out.keep (bel1 w1 (.cells #[] 45)))
      clear hx0
      go_wp2_with (at_builtin; refine wpList_append_lies _ rfl _ _ 22 rfl w1.heap.size 45 j0 _ 4 32 Try.underlying22 hJ hy0 hy1 hy2 rfl (by decide) (.slice (some ⟨w1.heap.size, 0, none⟩) 0 0) 0 [] rfl ⟨by simp, .inr ⟨w1.heap.size, 0, #[], rfl, Nat.le_refl _, World.alloc_heap_new w1 _, Nat.le_refl _, Nat.zero_le _, by simp, by simp⟩⟩ A n cl (flatKn L) rfl (by rw [flatKn_len, HN.out]) hk2.out.news (flatKn_one L) hn1 (by unfold maxLen; omega) (by omega) (by simp) _ rfl ?_; intro gm cm w2 hown2 hgrow2 hat2 hlt2)
      rw [Nat.zero_add] at hown2
      have hb2 : Below w.heap.size w w2 := Below.grown (bup H1.out (bel1 w1 _)) hgrow2 (by rw [World.size_alloc]; omega) (fun k hk => by cases hk; exact hz1')
      obtain ⟨o6, c6, e6, hc6, hk6, -⟩ := own_kn (Q := L) hown2
      cases e6
      have HE := hideK (And.intro hc6 (And.intro hk6 hb2))
      clear hown2 hgrow2 hc6 hk6 hb2
      go_wp2_with fail
      go_meet
      case rel => exact ⟨_, cm, by first | rfl | simp, by simpa using HE.out.1, HE.out.2.1, HE.out.2.2⟩
  case rest =>
  obtain ⟨o5, c5, rfl, hc5, hk5, hb5⟩ := hcut
  generalize wc = w2 at *
  have hnw := new_any6 L o5 c5 HL.out (by rw [HN.out]; exact hc5) w2 hk5
  rw [HN.out] at hnw
  have hnw := hideK hnw
  have HN2 : Hid (∀ W, Below w.heap.size w W → Calls Try.prog 7 #[.slice oa n cl] W fun e w' => Below W.heap.size W w' ∧ ((newE L = 0 ∧ ∃ B, e = .returned (.tuple #[.pointer (some ⟨B, 0, none⟩), .int .i64 0]) ∧ W.heap.size ≤ B ∧ RMapAt w' B (newK L) (slL (newK L))) ∨ (¬ newE L = 0 ∧ e = .returned (.tuple #[.pointer none, .int .i64 (newE L)])))) := hideK (fun W q => by
    have h := rnew6_any L oa cl HL.out (by rw [HN.out]; exact hcl) W (HO.out.keep q)
    rw [HN.out] at h
    exact h)
  have HKs : Hid (∀ W, Below w2.heap.size w2 W → Calls Try.prog 9 #[.slice o5 n c5, .slice oa n cl] W fun e w' => e = .returned (.bool true) ∧ Below W.heap.size W w') := hideK (fun W q => by
    have h := knots6_true L o5 oa c5 cl (by rw [HN.out]; exact hc5) W (hk5.keep q) (HO.out.keep (bup hb5 q))
    rw [HN.out] at h
    exact h)
  have H2 := hideK hb5
  clear hk5 hb5 hkw hc5 H1 hz1'
  go_wp2_with fail
  refine hnw.out.mono ?_
  rintro e w3 ⟨b3, h3⟩
  have H3 := hideK (And.intro (bup H2.out b3) b3)
  rcases h3 with ⟨hE, B, rfl, hBz, hm⟩ | ⟨hE, rfl⟩
  case inr =>
    have HE := hideK hE
    clear hnw b3 hE
    go_wp2_with fail
    refine (HN2.out w3 H3.out.1).mono ?_
    rintro e w4 ⟨b4, h4⟩
    obtain ⟨-, rfl⟩ := h4.resolve_left (fun h => HE.out h.1)
    have H4 := hideK (And.intro (bup H3.out.1 b4) (bup H3.out.2 b4))
    clear b4 HN2
    go_wp2_with fail
    refine (made6_nil (newE L) _ w4).mono ?_
    rintro e w5 ⟨rfl, b5⟩
    have H5 := hideK (And.intro (bup H4.out.1 b5) (bup H4.out.2 b5))
    clear b5
    go_wp2_with fail
    refine (HKs.out w5 H5.out.2).mono ?_
    rintro e w6 ⟨rfl, b6⟩
    have H6 := hideK (bup H5.out.1 b6)
    clear b6
    go_wp2_with fail
    rw [← HP.out]
    exact ⟨rfl, H6.out⟩
  case inl =>
    have HE := hideK (And.intro hE hm)
    clear hnw b3 hm
    go_wp2_with fail
    refine (HN2.out w3 H3.out.1).mono ?_
    rintro e w4 ⟨b4, h4⟩
    rcases h4 with ⟨-, B2, rfl, hB2, hr⟩ | ⟨hx, -⟩
    case inr => exact absurd hE hx
    have hlk := like6_any (newK L) (new_gd HL.out hE) B B2 T ot ct HT.out (by rw [HM.out]; exact hct) (by rw [HM.out]; omega) w4 (HE.out.2.keep b4) hr (HR.out.keep (bup H3.out.1 b4))
    rw [HM.out] at hlk
    have hlk := hideK hlk
    have H4 := hideK (And.intro (bup H3.out.1 b4) (bup H3.out.2 b4))
    clear b4 HN2 hr hE HE
    go_wp2_with fail
    refine (made6_two B B2 _ w4 hlk.out).mono ?_
    rintro e w5 ⟨rfl, b5⟩
    have H5 := hideK (And.intro (bup H4.out.1 b5) (bup H4.out.2 b5))
    clear b5 hlk
    go_wp2_with fail
    refine (HKs.out w5 H5.out.2).mono ?_
    rintro e w6 ⟨rfl, b6⟩
    have H6 := hideK (bup H5.out.1 b6)
    clear b6
    go_wp2_with fail
    rw [← HP.out]
    exact ⟨rfl, H6.out⟩
end Go.Proofs.Ytipnefaggpigfaa
