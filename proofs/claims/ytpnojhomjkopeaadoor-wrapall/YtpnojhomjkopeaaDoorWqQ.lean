/- The walk of WrapAll (chapter 10, P1002, P1006). -/
import Derived.Test.YtpnojhomjkopeaaDoorWqP
namespace Go.Proofs.YtpnojhomjkopeaaDoor
open Go.RowKit Go.Shelf
attribute [local go_sem] Oper.semAt_some

/-- How many places a way may leave out. -/
def freeN (X : List St) : Nat := X.countP fun x => x.kind != 1
/-- The way that a number's bits tell. -/
def selB : Nat → List St → List St
  | _, [] => []
  | q, x :: X => if x.kind = 1 then x :: selB q X else if q % 2 = 1 then x :: selB (q / 2) X else selB (q / 2) X
theorem selB_sub : ∀ (X : List St) (q : Nat), (∀ x ∈ X, x.kind ≠ 0) → SubK (selB q X) X
  | [], _, _ => .nil
  | x :: X, q, h => by
    have hX := fun y hy => h y (List.mem_cons_of_mem x hy)
    unfold selB
    split
    · exact .take x _ _ (selB_sub X q hX)
    · rename_i hk
      split
      · exact .take x _ _ (selB_sub X _ hX)
      · exact .skip x _ _ (fun e => e.elim hk (h x (List.mem_cons_self ..))) (selB_sub X _ hX)
theorem selB_all {V X : List St} (h : SubK V X) : ∃ t, t < 2 ^ freeN X ∧ selB t X = V := by
  induction h with
  | nil => exact ⟨0, by simp [freeN], rfl⟩
  | take x V S _ ih =>
    obtain ⟨t, h1, h2⟩ := ih
    by_cases hk : x.kind = 1
    · refine ⟨t, ?_, ?_⟩
      · unfold freeN at h1 ⊢
        rw [List.countP_cons_of_neg (by simp [hk])]
        exact h1
      · unfold selB
        rw [if_pos hk, h2]
    · refine ⟨2 * t + 1, ?_, ?_⟩
      · unfold freeN at h1 ⊢
        rw [List.countP_cons_of_pos (by simp [hk]), Nat.pow_succ]
        omega
      · unfold selB
        rw [if_neg hk, if_pos (by omega), show (2 * t + 1) / 2 = t by omega, h2]
  | skip x V S hn _ ih =>
    obtain ⟨t, h1, h2⟩ := ih
    have hk : ¬ x.kind = 1 := fun e => hn (.inl e)
    refine ⟨2 * t, ?_, ?_⟩
    · unfold freeN at h1 ⊢
      rw [List.countP_cons_of_pos (by simp [hk]), Nat.pow_succ]
      omega
    · unfold selB
      rw [if_neg hk, if_neg (by omega), show 2 * t / 2 = t by omega, h2]

set_option maxRecDepth 100000 in
set_option maxHeartbeats 1000000 in
theorem wall_walk (s : ByteArray) (hb : s.size ≤ 1048576) (wi : Int) (_h1 : -9223372036854775808 ≤ wi) (_h2 : wi ≤ 9223372036854775807) (N : Nat) (w : World) (hT : Tabs N w) :
    Calls Tryd.prog 5 #[.string s, .int .i64 wi] w fun e w' => e = .returned (.bool true) ∧ Below w.heap.size w w' := by
  obtain ⟨i0, hi, hz0, hz1, hz2⟩ := info_partsC infoBr
  have HWi := hideW (within10_any wi 199 ⟨by decide, by decide⟩)
  have k0 := Int.emod_nonneg wi (show (199 : Int) ≠ 0 by decide)
  have k1 := Int.emod_lt_of_pos wi (show (0 : Int) < 199 by decide)
  generalize wi % 199 = k at *
  have wk : IntKind.i64.wrap (2 + k) = 2 + k := IntWalk.i64_in _ ⟨by omega, by omega⟩
  obtain ⟨wd, hwd⟩ : ∃ wd, 2 + k = wd := ⟨_, rfl⟩
  rw [hwd] at wk
  have hw : 2 ≤ wd ∧ wd ≤ 200 := by omega
  have HPl := hideW (fun U hU => places_any s (by omega) N U hU)
  have epl : stopsTo (partsL s) (partsL s).length = plS s := rfl
  rw [epl] at HPl
  have hplN : (plS s).length ≤ 1048580 := by
    unfold plS
    have := stopsTo_len (partsL s) (partsL s).length
    rw [partsL_len] at this ⊢
    have := clusters_length s
    omega
  clear epl
  go_enter Tryd.func5, Tryd.ntmps5
  go_wp2_with fail
  refine (HWi.out _).mono ?_
  rintro e w0 ⟨rfl, rfl⟩
  go_wp2_with fail
  refine (HPl.out _ hT).mono ?_
  rintro e w1 ⟨v1, rfl, o1, b1⟩
  obtain ⟨oX, cpX, rfl, r1, hcX⟩ := BRw.of_owns o1
  have H1 := hideW (And.intro r1 (And.intro b1 (hT.below b1)))
  clear o1 r1 b1 HPl HWi
  obtain ⟨X, hX⟩ : ∃ X, plS s = X := ⟨_, rfl⟩
  rw [hX] at H1 hplN hcX
  rw [hX]
  have hkX : ∀ x ∈ X, x.kind ≠ 0 := by rw [← hX]; exact plS_kind s
  have hfl : ∀ i, freeN (X.take i) ≤ i := fun i => by
    have h1 := List.countP_le_length (p := fun x : St => x.kind != 1) (l := X.take i)
    rw [List.length_take] at h1
    unfold freeN
    omega
  go_wp2_with fail
  go_loopw [6, 7] (fun fv iv wq => ∃ i : Nat, fv = .int .i64 (freeN (X.take i) : Nat) ∧ iv = .int .i64 (i : Nat) ∧ i ≤ X.length ∧ wq = w1) (fun _ iv _ => X.length - (intOf iv).toNat)
  case atStart => exact ⟨0, rfl, rfl, Nat.zero_le _, rfl⟩
  case round =>
    obtain ⟨i, rfl, rfl, hil, rfl⟩ := hrel
    by_cases hi2 : i < X.length
    · obtain ⟨x, hx⟩ : ∃ x, X[i]? = some x := ⟨_, List.getElem?_eq_getElem hi2⟩
      obtain ⟨g, rfl, hg, c0, c1⟩ := H1.out.1 i x hx
      have hdi : decide ((i : Int) < (X.length : Int)) = true := decide_eq_true (by omega)
      have etk : freeN (X.take (i + 1)) = freeN (X.take i) + (if x.kind = 1 then 0 else 1) := by
        unfold freeN
        rw [List.take_add_one, hx, List.countP_append]
        show _ + List.countP _ [x] = _
        rw [List.countP_singleton]
        by_cases h : x.kind = 1 <;> simp [h]
      have hfi := hfl i
      generalize freeN (X.take i) = F at *
      have wF : IntKind.i64.wrap ((F : Int) + 1) = (F : Int) + 1 := IntWalk.i64_in _ ⟨by omega, by omega⟩
      have HE := hideW etk
      clear etk hx
      by_cases hh : x.kind = 1
      · have h1 : (x.kind != 1) = false := by simp [hh]
        go_wp2_with fail
        go_roundw
        case rel => exact ⟨i + 1, by rw [HE.out, if_pos hh]; rfl, by simp, by omega, by first | rfl | trivial⟩
        case measure => simp [intOf]; omega
      · have h1 : (x.kind != 1) = true := by simp [hh]
        go_wp2_with fail
        go_roundw
        case rel => exact ⟨i + 1, by rw [HE.out, if_neg hh]; simp, by simp, by omega, by first | rfl | trivial⟩
        case measure => simp [intOf]; omega
    · obtain rfl : i = X.length := by omega
      have hdi : decide ((X.length : Int) < (X.length : Int)) = false := by simp
      rw [List.take_length]
      obtain ⟨F, hF⟩ : ∃ F, freeN X = F := ⟨_, rfl⟩
      rw [hF]
      by_cases hbig : 9 < F ∨ 200 < s.size
      · by_cases hF9 : 9 < F
        · have f1 : (9 : Int) < (F : Int) := by omega
          go_wp2_with fail
          refine (head10 N _ H1.out.2.2).mono ?_
          rintro e w6 ⟨rfl, b6⟩
          have H6 := hideW (bupW H1.out.2.1 b6)
          clear b6 H1
          go_wp2
          go_ret
          exact ⟨rfl, H6.out⟩
        · have f1 : ¬ 9 < F := hF9
          have f2 : 200 < s.size := by omega
          have f3 : (200 : Int) < (s.size : Int) := by omega
          go_wp2_with fail
          refine (head10 N _ H1.out.2.2).mono ?_
          rintro e w6 ⟨rfl, b6⟩
          have H6 := hideW (bupW H1.out.2.1 b6)
          clear b6 H1
          go_wp2
          go_ret
          exact ⟨rfl, H6.out⟩
      · have hs : s.size ≤ 4096 := by omega
        have f1 : ¬ 9 < F := by omega
        have f2 : ¬ 200 < s.size := by omega
        have f3 : ¬ (9 : Int) < (F : Int) := by omega
        have f4 : ¬ (200 : Int) < (s.size : Int) := by omega
        obtain ⟨h1, h2, h3, h4', way, x, h5, h6, h7⟩ := wrapW_all s hs wd hw
        have HWr := hideW (fun U hU => wrap_walk s hs wd hw h1 h2 h3 h4' way x h5 h6 h7 N U hU)
        obtain ⟨rfl, hsub, hfit, hbest⟩ := best_all s hs wd hw way x h5
        have hpl := plS_len s hs
        rw [hX] at hsub hbest hpl
        have ecost : (wayB wd (way ++ [fnS s])).1 = costW wd 0 (way ++ [fnS s]) := by rw [wayB_cost, if_pos hfit]
        rw [ecost] at HWr
        have HB2 := hideW (fun V (hV : SubK V (plS s)) oa cpB hcB U hU hBR => wbadness_any s hs wd hw (brsL V) oa cpB (by rw [brsL_len]; have := subK_len hV; rw [hX] at this; omega) hcB N U hU hBR)
        have HBe := hideW (And.intro hsub hbest)
        clear h1 h2 h3 h4' h5 h7 hsub hbest ecost
        obtain ⟨n, hn⟩ : ∃ n, costW wd 0 (way ++ [fnS s]) = n := ⟨_, rfl⟩
        rw [hn] at HWr HBe
        go_wp2_with fail
        refine (HWr.out _ H1.out.2.2).mono ?_
        rintro e w2 ⟨v2, rfl, o2, b2⟩
        obtain ⟨oL, cpL, rfl, r2, hcL⟩ := BRw.of_owns o2
        have H2 := hideW (And.intro r2 (And.intro (bupW H1.out.2.1 b2) (And.intro (H1.out.2.2.below b2) (H1.out.1.keep b2))))
        clear o2 r2 b2 HWr H1
        have hMb0 : 2 ^ F ≤ 512 := Nat.pow_le_pow_right (show 0 < 2 by decide) (show F ≤ 9 by omega)
        obtain ⟨M, hM⟩ : ∃ M, 2 ^ F = M := ⟨_, rfl⟩
        rw [hM] at hMb0
        have HSh : RowKit.wrap64 ((2 : Int) ^ F) = (M : Int) := by
          have e : (2 : Int) ^ F = (M : Int) := by rw [← hM]; simp
          rw [e]
          exact IntWalk.wrap64_in _ ⟨by omega, by omega⟩
        have HM := hideW hM
        have HSd := hideW HSh
        clear hM HSh
        go_wp2_with fail
        go_loopw [11, 12] (fun mv tv wq => ∃ (T : Nat) (mb : Bool), mv = .bool mb ∧ tv = .int .i64 (T : Nat) ∧ T ≤ M ∧ Hid (∀ t, t < T → selB t X = way → mb = true) ∧ Below w2.heap.size w2 wq) (fun _ tv _ => M - (intOf tv).toNat)
        case atStart => exact ⟨0, false, rfl, rfl, Nat.zero_le _, hideW (fun t h => by omega), Below.refl _ _⟩
        case round =>
          obtain ⟨T, mb, rfl, rfl, hTM, HMt, hBo⟩ := hrel
          have H3 := hideW (And.intro (H2.out.1.keep hBo) (And.intro (bupW H2.out.2.1 hBo) (And.intro (H2.out.2.2.1.below hBo) (And.intro (H2.out.2.2.2.keep hBo) hBo))))
          clear hBo
          generalize wr = Wo at *
          by_cases hTl : T < M
          · have hdT : decide ((T : Int) < (M : Int)) = true := decide_eq_true (by omega)
            have hFk : ∀ i, freeN (X.take i) ≤ F := fun i => by
              rw [← hF]
              unfold freeN
              have := List.countP_append (p := fun x : St => x.kind != 1) (l₁ := X.take i) (l₂ := X.drop i)
              rw [List.take_append_drop] at this
              omega
            have HSh := HSd.out
            go_wp2_with fail
            clear HSh
            go_loopw [13, 14, 15] (fun ov kv iv wq => ∃ (i : Nat) (V : List St), kv = .int .i64 (freeN (X.take i) : Nat) ∧ iv = .int .i64 (i : Nat) ∧ i ≤ X.length ∧ Hid (V ++ selB (T / 2 ^ freeN (X.take i)) (X.drop i) = selB T X) ∧ wq.ownsRow Wo.heap.size 39 2 ov V.length (flatB V) ∧ V.length ≤ i ∧ Below Wo.heap.size Wo wq) (fun _ _ iv _ => X.length - (intOf iv).toNat)
            case atStart => exact ⟨0, [], rfl, rfl, Nat.zero_le _, hideW (by simp [freeN]), World.ownsRow_nil _ _ _ _, Nat.le_refl _, Below.refl _ _⟩
            case round =>
              obtain ⟨i, V, rfl, rfl, hil, HSel, hown, hVi, hB⟩ := hrel
              have hz := hB.size
              by_cases hi2 : i < X.length
              · obtain ⟨x, hx⟩ : ∃ x, X[i]? = some x := ⟨_, List.getElem?_eq_getElem hi2⟩
                obtain ⟨g, rfl, hg, c0, c1⟩ := (H3.out.2.2.2.1.keep hB) i x hx
                have hdi : decide ((i : Int) < (X.length : Int)) = true := decide_eq_true (by omega)
                have etk : freeN (X.take (i + 1)) = freeN (X.take i) + (if x.kind = 1 then 0 else 1) := by
                  unfold freeN
                  rw [List.take_add_one, hx, List.countP_append]
                  show _ + List.countP _ [x] = _
                  rw [List.countP_singleton]
                  by_cases h : x.kind = 1 <;> simp [h]
                have hKF := hFk i
                have hdr := drop_get hx
                obtain ⟨K, hK⟩ : ∃ K, freeN (X.take i) = K := ⟨_, rfl⟩
                rw [hK] at etk hKF HSel
                rw [hK]
                have wK : IntKind.i64.wrap ((K : Int) + 1) = (K : Int) + 1 := IntWalk.i64_in _ ⟨by omega, by omega⟩
                obtain ⟨Q, hQ⟩ : ∃ Q, T / 2 ^ K = Q := ⟨_, rfl⟩
                have hQi : (T : Int) / 2 ^ K = (Q : Int) := by rw [← hQ]; simp
                rw [hQ, hdr] at HSel
                have hQ1 : T / 2 ^ (K + 1) = Q / 2 := by rw [← hQ, Nat.pow_succ, Nat.div_div_eq_div_mul]
                have HE := hideW (And.intro etk (And.intro hQ hQ1))
                have HQi := hideW hQi
                clear etk hx hK hQ hQ1 hdr hQi
                by_cases hh : x.kind = 1
                · have h1 : (x.kind == 1) = true := by simp [hh]
                  have HH := hideW hh
                  clear hh
                  go_wp2_with (at_builtin; refine wpList_append_own _ rfl _ _ 22 rfl Wo.heap.size 39 i0 (.agg #[.int .i64 0, .int .i64 0]) 2 16 Tryd.underlying22 hi hz0 hz1 hz2 rfl (by decide) _ _ _ rfl (hown.alloc _) ⟨wr.heap.size, 0, none⟩ 1 1 [.int .i64 x.nxt.sg, .int .i64 x.kind] rfl rfl (cell_two_newS _ _ _ _) (fun u hu => by simp at hu; rcases hu with rfl | rfl <;> rfl) (by unfold maxLen; omega) (by omega) (by simp; omega) ?_; intro v' w4 hown4 hgrow4 _; have B5 := Below.grown (hB.alloc hB.size (.cells #[.int .i64 x.nxt.sg, .int .i64 x.kind] 39)) hgrow4 (by simp; omega) (fun k e => by have := (hown.lt k e).1; omega))
                  go_roundw
                  case rel =>
                    obtain ⟨etk, hQ, hQ1⟩ := HE.out
                    have etk : freeN (X.take (i + 1)) = K := by rw [etk, if_pos HH.out]; rfl
                    have hs1 := HSel.out
                    rw [selB, if_pos HH.out] at hs1
                    refine ⟨i + 1, V ++ [x], by rw [etk], by simp, by omega, hideW (by rw [etk, hQ, ← hs1]; simp), ?_, by simp; omega, B5⟩
                    rw [flatB_snoc, List.length_append]
                    exact hown4
                  case measure => simp [intOf]; omega
                · have h1 : (x.kind == 1) = false := beq_eq_false_iff_ne.2 hh
                  by_cases hq2 : Q % 2 = 1
                  · have q2 : ((Q : Int) % 2 == 1) = true := by simp; omega
                    have HQ2 := hideW hq2
                    have hQi := HQi.out
                    clear hq2
                    go_wp2_with (at_builtin; refine wpList_append_own _ rfl _ _ 22 rfl Wo.heap.size 39 i0 (.agg #[.int .i64 0, .int .i64 0]) 2 16 Tryd.underlying22 hi hz0 hz1 hz2 rfl (by decide) _ _ _ rfl (hown.alloc _) ⟨wr.heap.size, 0, none⟩ 1 1 [.int .i64 x.nxt.sg, .int .i64 x.kind] rfl rfl (cell_two_newS _ _ _ _) (fun u hu => by simp at hu; rcases hu with rfl | rfl <;> rfl) (by unfold maxLen; omega) (by omega) (by simp; omega) ?_; intro v' w4 hown4 hgrow4 _; have B5 := Below.grown (hB.alloc hB.size (.cells #[.int .i64 x.nxt.sg, .int .i64 x.kind] 39)) hgrow4 (by simp; omega) (fun k e => by have := (hown.lt k e).1; omega))
                    go_roundw
                    case rel =>
                      obtain ⟨etk, hQ, hQ1⟩ := HE.out
                      have etk : freeN (X.take (i + 1)) = K + 1 := by rw [etk, if_neg hh]
                      have hs1 := HSel.out
                      rw [selB, if_neg hh, if_pos HQ2.out] at hs1
                      refine ⟨i + 1, V ++ [x], by rw [etk]; simp, by simp, by omega, hideW (by rw [etk, hQ1, ← hs1]; simp), ?_, by simp; omega, B5⟩
                      rw [flatB_snoc, List.length_append]
                      exact hown4
                    case measure => simp [intOf]; omega
                  · have q2 : ((Q : Int) % 2 == 1) = false := beq_eq_false_iff_ne.2 (by omega)
                    have HQ2 := hideW hq2
                    have hQi := HQi.out
                    clear hq2
                    go_wp2_with fail
                    go_roundw
                    case rel =>
                      obtain ⟨etk, hQ, hQ1⟩ := HE.out
                      have etk : freeN (X.take (i + 1)) = K + 1 := by rw [etk, if_neg hh]
                      have hs1 := HSel.out
                      rw [selB, if_neg hh, if_neg HQ2.out] at hs1
                      exact ⟨i + 1, V, by rw [etk]; simp, by simp, by omega, hideW (by rw [etk, hQ1, ← hs1]), hown, by omega, hB⟩
                    case measure => simp [intOf]; omega
              · obtain rfl : i = X.length := by omega
                have hdi : decide ((X.length : Int) < (X.length : Int)) = false := by simp
                have hsl := HSel.out
                rw [List.drop_length, selB, List.append_nil] at hsl
                have hV : SubK V X := by rw [hsl]; exact selB_sub X T hkX
                obtain ⟨oV, cpV, rfl, rV, hcV⟩ := BRw.of_owns hown
                have H4 := hideW (And.intro (H3.out.1.keep hB) (And.intro (bupW H3.out.2.1 hB) (And.intro (H3.out.2.2.1.below hB) (And.intro rV (bupW H3.out.2.2.2.2 hB)))))
                have HC2 := HB2.out V (by rw [hX]; exact hV) oV cpV (by rw [brsL_len]; exact hcV) wr H4.out.2.2.1 rV.br
                rw [badF_way s wd V (by rw [hX]; exact hV), brsL_len] at HC2
                have HC2 := hideW HC2
                have HVx := hideW (And.intro hV hsl)
                clear hown hB rV hVi hsl hV HSel hFk hfl
                generalize wr = Wi at *
                by_cases hfV : fitsW wd 0 (V ++ [fnS s]) = true
                · obtain ⟨q1, q2⟩ := HBe.out.2 V HVx.out.1 hfV
                  rw [if_pos hfV] at HC2
                  obtain ⟨m, hm⟩ : ∃ m, costW wd 0 (V ++ [fnS s]) = m := ⟨_, rfl⟩
                  rw [hm] at HC2 q1
                  rw [List.length_append, List.length_append, List.length_singleton] at q1
                  unfold LEk at q1
                  have hnlt : ¬ m < n := by omega
                  have hll : m = n → ¬ V.length < way.length := fun e => by omega
                  have HQ : Hid (V = way → m = n) := hideW (fun e => by rw [← hm, ← hn, e])
                  clear q1 q2 hm
                  go_wp2_with fail
                  refine HC2.out.mono ?_
                  rintro e w5 ⟨rfl, b5⟩
                  have H5 := hideW (bupW H4.out.2.2.2.2 b5)
                  clear b5 HC2
                  by_cases hmn : m = n
                  · subst hmn
                    have hl3 : ¬ V.length < way.length := hll rfl
                    have hl4 : ¬ (V.length : Int) < (way.length : Int) := by omega
                    clear hll
                    by_cases hlen : V.length = way.length
                    · have hl1 : ((V.length : Int) == (way.length : Int)) = true := by rw [hlen]; simp
                      cases mb with
                      | true =>
                        go_wp2_with fail
                        go_roundw
                        case rel => exact ⟨T + 1, true, rfl, by simp, by omega, hideW (fun _ _ _ => rfl), H5.out⟩
                        case measure => simp [intOf]; omega
                      | false =>
                        go_wp2_with fail
                        go_roundw
                        case rel => exact ⟨T + 1, true, rfl, by simp, by omega, hideW (fun _ _ _ => rfl), H5.out⟩
                        case measure => simp [intOf]; omega
                    · have hl1 : ((V.length : Int) == (way.length : Int)) = false := beq_eq_false_iff_ne.2 (by omega)
                      have hl2 : (V.length == way.length) = false := beq_eq_false_iff_ne.2 hlen
                      cases mb with
                      | true =>
                        go_wp2_with fail
                        go_roundw
                        case rel => exact ⟨T + 1, true, rfl, by simp, by omega, hideW (fun _ _ _ => rfl), H5.out⟩
                        case measure => simp [intOf]; omega
                      | false =>
                        go_wp2_with fail
                        go_roundw
                        case rel =>
                          refine ⟨T + 1, false, rfl, by simp, by omega, hideW (fun t ht e => ?_), H5.out⟩
                          by_cases htT : t = T
                          · subst htT
                            exact absurd (by rw [HVx.out.2, e]) hlen
                          · exact HMt.out t (by omega) e
                        case measure => simp [intOf]; omega
                  · have hm1 : (m == n) = false := beq_eq_false_iff_ne.2 hmn
                    clear hll
                    cases mb with
                    | true =>
                      go_wp2_with fail
                      go_roundw
                      case rel => exact ⟨T + 1, true, rfl, by simp, by omega, hideW (fun _ _ _ => rfl), H5.out⟩
                      case measure => simp [intOf]; omega
                    | false =>
                      go_wp2_with fail
                      go_roundw
                      case rel =>
                        refine ⟨T + 1, false, rfl, by simp, by omega, hideW (fun t ht e => ?_), H5.out⟩
                        by_cases htT : t = T
                        · subst htT
                          exact absurd (HQ.out (HVx.out.2.trans e)) hmn
                        · exact HMt.out t (by omega) e
                      case measure => simp [intOf]; omega
                · rw [if_neg hfV] at HC2
                  have HNo : Hid (¬ V = way) := hideW (fun e => hfV (by rw [e]; exact hfit))
                  clear hfV
                  go_wp2_with fail
                  refine HC2.out.mono ?_
                  rintro e w5 ⟨rfl, b5⟩
                  have H5 := hideW (bupW H4.out.2.2.2.2 b5)
                  clear b5 HC2
                  cases mb with
                  | true =>
                    go_wp2_with fail
                    go_roundw
                    case rel => exact ⟨T + 1, true, rfl, by simp, by omega, hideW (fun _ _ _ => rfl), H5.out⟩
                    case measure => simp [intOf]; omega
                  | false =>
                    go_wp2_with fail
                    go_roundw
                    case rel =>
                      refine ⟨T + 1, false, rfl, by simp, by omega, hideW (fun t ht e => ?_), H5.out⟩
                      by_cases htT : t = T
                      · subst htT
                        exact absurd (HVx.out.2.trans e) HNo.out
                      · exact HMt.out t (by omega) e
                    case measure => simp [intOf]; omega
          · have hdT : decide ((T : Int) < (M : Int)) = false := decide_eq_false (by omega)
            obtain ⟨t, t1, t2⟩ := selB_all HBe.out.1
            rw [hF, HM.out] at t1
            obtain rfl := HMt.out t (by omega) t2
            have HSh := HSd.out
            go_wp2_with fail
            refine (head10 N _ H3.out.2.2.1).mono ?_
            rintro e w6 ⟨rfl, b6⟩
            have H6 := hideW (bupW H3.out.2.1 b6)
            clear b6 H3
            go_wp2
            go_ret
            exact ⟨rfl, H6.out⟩
end Go.Proofs.YtpnojhomjkopeaaDoor
