/- The walk of WrapNoLess (chapter 10, P1006). -/
import Derived.Test.YtpnojhomjkopeaaDoorWqN
import Derived.Test.YtpnojhomjkopeaaDoorWrH
namespace Go.Proofs.YtpnojhomjkopeaaDoor
open Go.RowKit Go.Shelf
attribute [local go_sem] Oper.semAt_some

theorem brsL_len (V : List St) : (brsL V).length = V.length := by unfold brsL; rw [List.length_map]
theorem subK_len {A B : List St} (h : SubK A B) : A.length ≤ B.length := by
  induction h with
  | nil => exact Nat.le_refl _
  | take x V S _ ih => simp; omega
  | skip x V S _ _ ih => simp; omega
theorem plS_len (s : ByteArray) (hs : s.size ≤ 4096) : (plS s).length ≤ 5000 := by
  unfold plS
  have := stopsTo_len (partsL s) (partsL s).length
  rw [partsL_len] at this ⊢
  have := clusters_length s
  omega
set_option maxRecDepth 100000 in
set_option maxHeartbeats 1000000 in
theorem wnoless_walk (s : ByteArray) (_hb : s.size ≤ 140737488355328) (wi : Int) (P : List Int) (op : Option Addr) (cpP : Nat) (hP : P.length ≤ maxLen) (N : Nat) (w : World) (hT : Tabs N w) (hPk : PkAt w op P) :
    Calls Tryd.prog 4 #[.string s, .int .i64 wi, .slice op P.length cpP] w fun e w' => e = .returned (.bool true) ∧ Below w.heap.size w w' := by
  have HWi := hideW (within10_any wi 199 ⟨by decide, by decide⟩)
  have k0 := Int.emod_nonneg wi (show (199 : Int) ≠ 0 by decide)
  have k1 := Int.emod_lt_of_pos wi (show (0 : Int) < 199 by decide)
  generalize wi % 199 = k at *
  have wk : IntKind.i64.wrap (2 + k) = 2 + k := IntWalk.i64_in _ ⟨by omega, by omega⟩
  obtain ⟨wd, hwd⟩ : ∃ wd, 2 + k = wd := ⟨_, rfl⟩
  rw [hwd] at wk
  have hw : 2 ≤ wd ∧ wd ≤ 200 := by omega
  by_cases h4 : 4096 < s.size
  · have d1 : decide ((4096 : Int) < (s.size : Int)) = true := decide_eq_true (by omega)
    have d2 : (4096 : Int) < (s.size : Int) := by omega
    go_enter Tryd.func4, Tryd.ntmps4
    go_wp2_with fail
    refine (HWi.out _).mono ?_
    rintro e w1 ⟨rfl, rfl⟩
    go_wp2_with fail
    refine (head10 N _ hT).mono ?_
    rintro e w4 ⟨rfl, b4⟩
    have H4 := hideW b4
    clear b4
    go_wp2
    go_ret
    exact ⟨rfl, H4.out⟩
  · have d2 : ¬ (4096 : Int) < (s.size : Int) := by omega
    have hs : s.size ≤ 4096 := by omega
    obtain ⟨h1, h2, h3, h4', way, x, h5, h6, h7⟩ := wrapW_all s hs wd hw
    have HWr := hideW (fun U hU => wrap_walk s hs wd hw h1 h2 h3 h4' way x h5 h6 h7 N U hU)
    obtain ⟨rfl, hsub, hfit, hbest⟩ := best_all s hs wd hw way x h5
    have hpl := plS_len s hs
    have ecost : (wayB wd (way ++ [fnS s])).1 = costW wd 0 (way ++ [fnS s]) := by rw [wayB_cost, if_pos hfit]
    rw [ecost] at HWr
    have HB1 := hideW (fun oa cpB hcB U hU hBR => wbadness_any s hs wd hw (brsL way) oa cpB (by rw [brsL_len]; omega) hcB N U hU hBR)
    rw [badF_way s wd way hsub, if_pos hfit, brsL_len] at HB1
    have HB2 := hideW (fun V (hV : SubK V (plS s)) oa cpB hcB U hU hBR => wbadness_any s hs wd hw (brsL V) oa cpB (by rw [brsL_len]; have := subK_len hV; omega) hcB N U hU hBR)
    have HPl := hideW (fun U hU => places_any s (by omega) N U hU)
    have epl : stopsTo (partsL s) (partsL s).length = plS s := rfl
    rw [epl] at HPl
    have HCh := hideW (fun oa cpX hcX U hBR hPk => chosen_any (plS s) hpl (plS_kind s) oa cpX hcX P op cpP hP U hBR hPk)
    have HBe := hideW hbest
    clear h1 h2 h3 h4' h5 h7 hsub hfit hbest ecost epl
    obtain ⟨n, hn⟩ : ∃ n, costW wd 0 (way ++ [fnS s]) = n := ⟨_, rfl⟩
    rw [hn] at HWr HB1 HBe
    go_enter Tryd.func4, Tryd.ntmps4
    go_wp2_with fail
    refine (HWi.out _).mono ?_
    rintro e w0 ⟨rfl, rfl⟩
    go_wp2_with fail
    refine (HWr.out _ hT).mono ?_
    rintro e w1 ⟨v1, rfl, o1, b1⟩
    obtain ⟨oL, cpL, rfl, r1, hcL⟩ := BRw.of_owns o1
    have hT1 := hT.below b1
    have H1 := hideW (And.intro r1 (And.intro b1 hT1))
    clear o1 r1 b1 hT1 HWr
    go_wp2_with fail
    refine (HB1.out oL cpL hcL _ H1.out.2.2 H1.out.1.br).mono ?_
    rintro e w2 ⟨rfl, b2⟩
    have H2 := hideW (And.intro (H1.out.1.keep b2) (And.intro (bupW H1.out.2.1 b2) (H1.out.2.2.below b2)))
    clear b2 H1 HB1
    go_wp2_with fail
    refine (HPl.out _ H2.out.2.2).mono ?_
    rintro e w3 ⟨v3, rfl, o3, b3⟩
    obtain ⟨oX, cpX, rfl, r3, hcX⟩ := BRw.of_owns o3
    have H3 := hideW (And.intro (H2.out.1.keep b3) (And.intro (bupW H2.out.2.1 b3) (And.intro (H2.out.2.2.below b3) r3)))
    clear b3 H2 HPl o3 r3
    go_wp2_with fail
    refine (HCh.out oX cpX hcX _ H3.out.2.2.2 (hPk.keep H3.out.2.1)).mono ?_
    rintro e w4 ⟨v4, V, rfl, hV, o4, b4⟩
    obtain ⟨oV, cpV, rfl, r4, hcV⟩ := BRw.of_owns o4
    have H4 := hideW (And.intro (H3.out.1.keep b4) (And.intro (bupW H3.out.2.1 b4) (And.intro (H3.out.2.2.1.below b4) r4)))
    clear b4 H3 HCh o4 r4
    have HC2 := HB2.out V hV oV cpV (by rw [brsL_len]; exact hcV) w4 H4.out.2.2.1 H4.out.2.2.2.br
    rw [badF_way s wd V hV, brsL_len] at HC2
    have HC2 := hideW HC2
    clear HB2
    have hVl := subK_len hV
    by_cases hfV : fitsW wd 0 (V ++ [fnS s]) = true
    · obtain ⟨q1, q2⟩ := HBe.out V hV hfV
      rw [if_pos hfV] at HC2
      obtain ⟨m, hm⟩ : ∃ m, costW wd 0 (V ++ [fnS s]) = m := ⟨_, rfl⟩
      rw [hm] at HC2 q1 q2
      clear HBe hfV hV
      go_wp2_with fail
      refine HC2.out.mono ?_
      rintro e w5 ⟨rfl, b5⟩
      have H5 := hideW (And.intro (H4.out.1.keep b5) (And.intro (bupW H4.out.2.1 b5) (And.intro (H4.out.2.2.1.below b5) (H4.out.2.2.2.keep b5))))
      clear b5 H4 HC2
      rw [List.length_append, List.length_append, List.length_singleton] at q1
      unfold LEk at q1
      have HQ := hideW q2
      clear q2
      have hnlt : ¬ m < n := by omega
      by_cases hmn : m = n
      · subst hmn
        have hll : ¬ (V.length : Int) < (way.length : Int) := by omega
        have hll2 : ¬ V.length < way.length := by omega
        by_cases hlen : V.length = way.length
        · have hl1 : ((V.length : Int) == (way.length : Int)) = true := by rw [hlen]; simp
          have HX0 : Hid (LexOk (way ++ [fnS s]) (V ++ [fnS s])) := HQ.out ⟨rfl, by simp [hlen]⟩
          clear HQ
          go_wp2_with fail
          go_loopw [15] (fun iv wq => ∃ i : Nat, iv = .int .i64 (i : Nat) ∧ i ≤ way.length ∧ Below w5.heap.size w5 wq ∧ Hid (LexOk (way.drop i ++ [fnS s]) (V.drop i ++ [fnS s]))) (fun iv _ => way.length - (intOf iv).toNat)
          case atStart => exact ⟨0, rfl, Nat.zero_le _, Below.refl _ _, HX0⟩
          case round =>
            obtain ⟨i, rfl, hil, hwr, HL⟩ := hrel
            have H7 := hideW (And.intro (H5.out.1.keep hwr) (And.intro (bupW H5.out.2.1 hwr) (And.intro (H5.out.2.2.1.below hwr) (H5.out.2.2.2.keep hwr))))
            have HBl := hideW hwr
            clear hwr H5
            have H5 := H7
            clear H7
            by_cases hi2 : i < way.length
            · obtain ⟨x, hx⟩ : ∃ x, way[i]? = some x := ⟨_, List.getElem?_eq_getElem hi2⟩
              obtain ⟨y, hy⟩ : ∃ y, V[i]? = some y := ⟨_, List.getElem?_eq_getElem (by omega)⟩
              obtain ⟨g1, rfl, hg1, c0, c1⟩ := H5.out.1 i x hx
              obtain ⟨g2, rfl, hg2, e0, e1⟩ := H5.out.2.2.2 i y hy
              have hlx := HL.out
              rw [drop_get hx, drop_get hy] at hlx
              have hdi : decide ((i : Int) < (way.length : Int)) = true := decide_eq_true (by omega)
              have hiV : (i : Int) < (V.length : Int) := by omega
              have hgd := br_guard
              by_cases hbe : y.nxt.sg = x.nxt.sg ∧ y.kind = x.kind
              · have qE : ∀ W, (binOp .neq 39 (.agg #[.int .i64 y.nxt.sg, .int .i64 y.kind]) (.agg #[.int .i64 x.nxt.sg, .int .i64 x.kind])).run Tryd.prog W = .ok (.bool false) W := fun W => by rw [br_ne, hbe.1, hbe.2]; simp
                have HLx : Hid (LexOk (way.drop (i + 1) ++ [fnS s]) (V.drop (i + 1) ++ [fnS s])) := by
                  rcases hlx with ⟨_, h⟩ | h
                  · exact h
                  · have := hbe.1
                    omega
                clear hlx hbe hx hy HL
                go_wp2_with fail
                go_region_held3 (fun w' => w'.cell? ⟨g2, i * 2, none⟩ = some (.int .i64 y.nxt.sg) ∧ w'.cell? ⟨g2, i * 2 + 1, none⟩ = some (.int .i64 y.kind) ∧ w'.cell? ⟨g1, i * 2, none⟩ = some (.int .i64 x.nxt.sg) ∧ w'.cell? ⟨g1, i * 2 + 1, none⟩ = some (.int .i64 x.kind)) (first | go_keep | assumption) (fail)
                go_wp2_with fail
                go_roundw
                case rel => exact ⟨i + 1, by simp, by omega, HBl.out.drew, HLx⟩
                case measure => simp [intOf]; omega
              · have qE : ∀ W, (binOp .neq 39 (.agg #[.int .i64 y.nxt.sg, .int .i64 y.kind]) (.agg #[.int .i64 x.nxt.sg, .int .i64 x.kind])).run Tryd.prog W = .ok (.bool true) W := fun W => by
                  rw [br_ne]
                  congr 2
                  rw [Bool.not_eq_true', Bool.and_eq_false_iff]
                  by_cases h1 : y.nxt.sg = x.nxt.sg
                  · exact .inr (beq_eq_false_iff_ne.2 fun h2 => hbe ⟨h1, h2⟩)
                  · exact .inl (beq_eq_false_iff_ne.2 h1)
                have hlt : x.nxt.sg < y.nxt.sg := by
                  rcases hlx with ⟨h, _⟩ | h
                  · exact absurd ⟨by rw [h], by rw [h]⟩ hbe
                  · exact h
                clear hlx hbe hx hy HL
                go_wp2_with fail
                go_region_held3 (fun w' => w'.cell? ⟨g2, i * 2, none⟩ = some (.int .i64 y.nxt.sg) ∧ w'.cell? ⟨g2, i * 2 + 1, none⟩ = some (.int .i64 y.kind) ∧ w'.cell? ⟨g1, i * 2, none⟩ = some (.int .i64 x.nxt.sg) ∧ w'.cell? ⟨g1, i * 2 + 1, none⟩ = some (.int .i64 x.kind)) (first | go_keep | assumption) (fail)
                go_wp2_with fail
                obtain ⟨U1, hU1⟩ : ∃ U1, wr.drew = U1 := ⟨_, rfl⟩
                have f0 : U1.cell? ⟨g2, i * 2, none⟩ = some (.int .i64 y.nxt.sg) := by rw [← hU1]; exact e0
                have f1 : U1.cell? ⟨g1, i * 2, none⟩ = some (.int .i64 x.nxt.sg) := by rw [← hU1]; exact c0
                have bU1 : Below w0.heap.size w0 U1 := by rw [← hU1]; exact H5.out.2.1.drew
                have zU1 : U1.heap.size = wr.heap.size := by rw [← hU1]; rfl
                have hTU : Tabs N U1 := hT.below bU1
                rw [hU1]
                have HHd := hideW (fun U (b : Below U1.heap.size U1 U) => head10 N U (hTU.below b))
                have HK9 : Hid (∀ w', Below U1.heap.size U1 w' → w'.cell? ⟨g2, i * 2, none⟩ = some (.int .i64 y.nxt.sg) ∧ w'.cell? ⟨g1, i * 2, none⟩ = some (.int .i64 x.nxt.sg)) := hideW (fun w' b' => ⟨(b'.cell (p := ⟨g2, i * 2, none⟩) (by rw [zU1]; exact hg2)).trans f0, (b'.cell (p := ⟨g1, i * 2, none⟩) (by rw [zU1]; exact hg1)).trans f1⟩)
                have HU := hideW bU1
                clear hU1 bU1 hTU e0 e1 c0 c1 HBl zU1
                go_region_held3 (fun w' => w'.cell? ⟨g2, i * 2, none⟩ = some (.int .i64 y.nxt.sg) ∧ w'.cell? ⟨g1, i * 2, none⟩ = some (.int .i64 x.nxt.sg)) (first | go_keep | assumption) (first | (go_at_call 10; (with_reducible refine Calls.mono (HHd.out _ (by first | exact (Below.refl _ _).drew | exact Below.refl _ _)) ?_); rintro e w6 ⟨rfl, b6⟩; have b6 : Below U1.heap.size U1 w6 := (by first | exact (Below.refl U1.heap.size U1).drew.trans b6 | exact b6); have K9 := HK9.out w6 b6))
                go_wp2_with fail
                go_ret
                exact ⟨rfl, bupW HU.out b6⟩
            · have hdi : decide ((i : Int) < (way.length : Int)) = false := decide_eq_false (by omega)
              go_wp2_with fail
              refine (head10 N _ H5.out.2.2.1).mono ?_
              rintro e w6 ⟨rfl, b6⟩
              have H6 := hideW (bupW H5.out.2.1 b6)
              clear b6 H5
              go_wp2
              go_ret
              exact ⟨rfl, H6.out⟩
        · have hl1 : ((V.length : Int) == (way.length : Int)) = false := beq_eq_false_iff_ne.2 (by omega)
          have hl2 : (V.length == way.length) = false := beq_eq_false_iff_ne.2 hlen
          go_wp2_with fail
          go_loopw [15] (fun iv wq => iv = .int .i64 0 ∧ wq = w5) (fun _ _ => 0)
          case atStart => exact ⟨rfl, rfl⟩
          case round =>
            obtain ⟨rfl, rfl⟩ := hrel
            go_wp2_with fail
            refine (head10 N _ H5.out.2.2.1).mono ?_
            rintro e w6 ⟨rfl, b6⟩
            have H6 := hideW (bupW H5.out.2.1 b6)
            clear b6 H5
            go_wp2
            go_ret
            exact ⟨rfl, H6.out⟩
      · have hm1 : (m == n) = false := beq_eq_false_iff_ne.2 hmn
        go_wp2_with fail
        go_loopw [15] (fun iv wq => iv = .int .i64 0 ∧ wq = w5) (fun _ _ => 0)
        case atStart => exact ⟨rfl, rfl⟩
        case round =>
          obtain ⟨rfl, rfl⟩ := hrel
          go_wp2_with fail
          refine (head10 N _ H5.out.2.2.1).mono ?_
          rintro e w6 ⟨rfl, b6⟩
          have H6 := hideW (bupW H5.out.2.1 b6)
          clear b6 H5
          go_wp2
          go_ret
          exact ⟨rfl, H6.out⟩
    · rw [if_neg hfV] at HC2
      clear HBe hfV hV
      go_wp2_with fail
      refine HC2.out.mono ?_
      rintro e w5 ⟨rfl, b5⟩
      have H5 := hideW (And.intro (bupW H4.out.2.1 b5) (H4.out.2.2.1.below b5))
      clear b5 H4 HC2
      go_wp2_with fail
      refine (head10 N _ H5.out.2).mono ?_
      rintro e w6 ⟨rfl, b6⟩
      have H6 := hideW (bupW H5.out.1 b6)
      clear b6 H5
      go_wp2
      go_ret
      exact ⟨rfl, H6.out⟩

end Go.Proofs.YtpnojhomjkopeaaDoor
