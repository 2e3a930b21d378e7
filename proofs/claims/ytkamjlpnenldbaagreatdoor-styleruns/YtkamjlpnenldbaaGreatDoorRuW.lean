/- StyleRuns (P0703, P0704, P0711): the walk. -/
import Derived.Maps.AppendAt
import Derived.Test.YtkamjlpnenldbaaGreatDoorGP
import Derived.Test.YtkamjlpnenldbaaGreatDoorW1
namespace Go.Proofs.YtkamjlpnenldbaaGreatDoor
open Go.RowKit Go.Shelf
attribute [local go_sem] Oper.semAt_some

theorem RnC.set {W : World} {B : Nat} {r : Rn} (h : RnC W B r) (a b : Int) : RnC (W.setCell ⟨B, 1, none⟩ (.int .i64 b)) B ⟨r.fr, b, r.a⟩ ∧ RnC (W.setCell ⟨B, 0, none⟩ (.int .i64 a)) B ⟨a, r.tt, r.a⟩ := ⟨set_atS h 1 _, set_atS h 0 _⟩
theorem RnC.all {W : World} {B : Nat} {r : Rn} (h : RnC W B r) (q : Rn) : RnC (((((((W.setCell ⟨B, 0, none⟩ (.int .i64 q.fr)).setCell ⟨B, 1, none⟩ (.int .i64 q.tt)).setCell ⟨B, 2, none⟩ (.bool q.a.b)).setCell ⟨B, 3, none⟩ (.bool q.a.i)).setCell ⟨B, 4, none⟩ (.bool q.a.u)).setCell ⟨B, 5, none⟩ (.bool q.a.s)).setCell ⟨B, 6, none⟩ (.int .i64 q.a.c)) B q :=
  by
  have h9 := set_atS (set_atS (set_atS (set_atS (set_atS (set_atS (set_atS h 0 (.int .i64 q.fr)) 1 (.int .i64 q.tt)) 2 (.bool q.a.b)) 3 (.bool q.a.i)) 4 (.bool q.a.u)) 5 (.bool q.a.s)) 6 (.int .i64 q.a.c)
  simpa [RnC] using h9
theorem cutR_pre (p : Int) (L : List Rn) (i : Nat) : (cutR p (L.take i)).length ≤ (cutR p L).length := by
  have e : cutR p L = cutR p (L.take i) ++ cutR p (L.drop i) := by
    unfold cutR
    rw [← List.flatMap_append, List.take_append_drop]
  rw [e, List.length_append]
  omega
theorem drop_atR {L : List Rn} {i : Nat} {r : Rn} (h : L[i]? = some r) : L.drop i = r :: L.drop (i + 1) := by
  obtain ⟨hi, rfl⟩ := List.getElem?_eq_some_iff.1 h
  exact List.drop_eq_getElem_cons hi
theorem take_atR {L : List Rn} {i : Nat} {r : Rn} (h : L[i]? = some r) : L.take (i + 1) = L.take i ++ [r] := by
  rw [List.take_add_one, h]
  rfl
theorem RnC.free {W : World} {B : Nat} {r : Rn} (h : RnC W B r) : W.frozen? ⟨B, 0, none⟩ = false ∧ W.frozen? ⟨B, 1, none⟩ = false ∧ W.frozen? ⟨B, 2, none⟩ = false ∧ W.frozen? ⟨B, 3, none⟩ = false ∧ W.frozen? ⟨B, 4, none⟩ = false ∧ W.frozen? ⟨B, 5, none⟩ = false ∧ W.frozen? ⟨B, 6, none⟩ = false := by
  unfold RnC at h
  simp [World.frozen?, h]
theorem lookQ_any (s : ByteArray) (D : List Sp) (oa : Option Addr) (ca : Nat) (hs : s.size ≤ 140737488355328) (hca : D.length ≤ ca ∧ ca ≤ maxLen) (hna : oa = none → D = [] ∧ ca = 0) (w : World) (hRa : SpO w oa D) :
    Calls Tryz.prog 11 #[.agg #[.string s, .slice oa D.length ca]] w fun e w' => ∃ o c, e = .returned (.slice o (goA s D).length c) ∧ AtO w' o (goA s D) ∧ Below w.heap.size w w' := by
  refine (looks7_any s D oa ca hs hca hna w hRa).mono ?_
  rintro e w1 ⟨v, B, rfl, hB, own, b⟩
  obtain ⟨o, c, rfl, hc, hA⟩ := at_of_own own
  exact ⟨o, c, rfl, hA, b⟩
theorem own_farR {W : World} {base : Nat} {e : TypeId} {size : Nat} {v : Value} {n : Nat} {xs : List Value} {B : Nat} (h : W.ownsRow base e size v n xs) (hn : ∀ k, v.ownBlock = some k → k ≠ B) (i : Nat) (u : Value) : (W.setCell ⟨B, i, none⟩ u).ownsRow base e size v n xs := by
  refine ⟨h.1, ?_⟩
  rcases h.2 with q | ⟨g, cap, cur, rfl, hb, hgg, rest⟩
  · exact .inl q
  · exact .inr ⟨g, cap, cur, rfl, hb, (Below.heap_setCell W ⟨B, i, none⟩ u g (hn g rfl)).trans hgg, rest⟩
set_option maxRecDepth 100000 in
set_option maxHeartbeats 8000000 in
theorem sruns_walk (s : ByteArray) (D : List Sp) (oa : Option Addr) (ca : Nat) (p : Int) (hs : s.size ≤ 140737488355328) (hca : D.length ≤ ca ∧ ca ≤ maxLen) (hna : oa = none → D = [] ∧ ca = 0) (w : World) (hw : 2 ≤ w.heap.size) (hT : Lib.Utf8Tabs 0 1 w) (hRa : SpO w oa D) :
    Calls Tryz.prog 4 #[.agg #[.string s, .slice oa D.length ca], .int .i64 p] w fun e w' => e = .returned (.bool true) ∧ Below w.heap.size w w' := by
  obtain ⟨i0, hi, hz0, hz1, hz2⟩ := info_parts infoRn
  have HCk := hideS (fun (W : World) (h : Below w.heap.size w W) => check7_any s D oa ca hs hca hna W (hRa.keep h))
  have HRn := hideS (fun (W : World) (h : Below w.heap.size w W) => runs_any s D oa ca hs hca hna W (hRa.keep h))
  have HLt := hideS (fun (W : World) (h : Below w.heap.size w W) => lookQ_any s D oa ca hs hca hna W (hRa.keep h))
  have HLo := hideS (fun (W : World) (h : Below w.heap.size w W) (m : Nat) => look7_any s D oa ca m hs hca hna W (hRa.keep h))
  have HCo := hideS (fun (W : World) => count_any s W hs)
  have HH := hideS (fun (Y : World) (h : Below w.heap.size w Y) => head7 Y (Nat.le_trans hw h.size) (tabs_below hw hT h))
  obtain ⟨N, hN⟩ : ∃ N, D.length = N := ⟨_, rfl⟩
  obtain ⟨C, hC⟩ : ∃ c, chkT s D = c := ⟨_, rfl⟩
  rw [hN] at HCk HRn HLt HLo ⊢
  rw [hC] at HCk
  have HM := hideS hC
  clear hRa hT hN hna hca hC
  obtain ⟨V, hV⟩ : ∃ V, w.alloc (.cells #[.string s, .slice oa N ca] 24) = V := ⟨_, rfl⟩
  have T0 := hideS (show Tx V w.heap.size (.string s) (.slice oa N ca) by rw [← hV]; exact Tx.new w _ _)
  have BB := hideS (show Below w.heap.size w V by rw [← hV]; exact bel1S _ _)
  obtain ⟨k0, k1, _, _⟩ := T0.out.cells
  go_enter Tryz.func4, Tryz.ntmps4
  go_upto_region 1 with fail
  try rw [hV]
  clear hV
  go_wp2_with fail
  refine (HRn.out V BB.out).mono ?_
  rintro e w1 ⟨b1, ⟨hne, rfl⟩ | ⟨hz, v1, rfl, own1⟩⟩
  · rw [HM.out] at hne ⊢
    replace T0 := hideS (T0.out.keep b1)
    replace BB := hideS (bupS BB.out b1)
    have ecb : (C != 0) = true := by simpa using hne
    have ecc : (C == C) = true := by simp
    clear k0 k1 b1
    obtain ⟨k0, k1, _, _⟩ := T0.out.cells
    go_wp2_with fail
    refine (HCk.out w1 BB.out).mono ?_
    rintro e w2 ⟨rfl, b2⟩
    replace T0 := hideS (T0.out.keep b2)
    replace BB := hideS (bupS BB.out b2)
    clear b2 k0 k1
    go_wp2_with fail
    refine (HH.out w2 BB.out).mono ?_
    rintro e w3 ⟨rfl, b3⟩
    replace T0 := hideS (T0.out.keep b3)
    replace BB := hideS (bupS BB.out b3)
    clear b3 
    go_wp2_with fail
    go_ret
    exact ⟨rfl, BB.out⟩
  · obtain ⟨o1, c1, rfl, hc1, hR1⟩ := rn_of_own own1
    replace T0 := hideS (T0.out.keep b1)
    replace BB := hideS (bupS BB.out b1)
    obtain ⟨q1, q2, q3, q4, q5⟩ := runs_ch hz
    have HMk := hideS (fun (o : Option Addr) (c : Nat) (W : World) (hR : RnO W o (runsM (signs s).length (isort ltS D))) => make_any s (runsM (signs s).length (isort ltS D)) o c hs (runs_few hz) W hR)
    have HMc := hideS (fun (P : Int) (o : Option Addr) (c : Nat) (W : World) (hR : RnO W o (cutR P (runsM (signs s).length (isort ltS D)))) => make_any s (cutR P (runsM (signs s).length (isort ltS D))) o c hs (Nat.le_trans (mak_cut hz P).2 (by omega)) W hR)
    have HKc := hideS (fun (P : Int) => mak_cut hz P)
    have HLa := hideS (fun (m : Nat) (a : At) (ha : (alls D (signs s).length)[m]? = some a) => lok_at hz ha)
    have hn4 : (signs s).length ≤ 4096 := Nat.le_trans (signs_le s) (chkT_ok hz).1
    have hal := alls_len D (signs s).length
    rw [mak_runs hz] at HMk
    rw [go_all hz, alls_len] at HLt
    obtain ⟨R9, hR9⟩ : ∃ R, madM s (alls D (signs s).length) = R := ⟨_, rfl⟩
    rw [hR9] at HMk HKc
    obtain ⟨e9, s9, L9⟩ := R9
    obtain ⟨LA, hLA⟩ : ∃ L, alls D (signs s).length = L := ⟨_, rfl⟩
    rw [hLA] at q5 HLa HLt hal
    obtain ⟨RL, hRL⟩ : ∃ L, runsM (signs s).length (isort ltS D) = L := ⟨_, rfl⟩
    rw [hRL] at q1 q3 q4 q5 HMk HMc HKc hR1 ⊢
    obtain ⟨n, hn⟩ : ∃ n, (signs s).length = n := ⟨_, rfl⟩
    rw [hn] at q1 q5 HLt HCo hn4 hal
    have hRN : RL.length ≤ 4096 := by have := ch_len q1; omega
    obtain ⟨NR, hNR⟩ : ∃ k, RL.length = k := ⟨_, rfl⟩
    rw [hNR] at HMk hRN ⊢
    obtain ⟨M, hM⟩ : ∃ M, L9.length = M := ⟨_, rfl⟩
    unfold SplAns at HMk HMc
    simp only [hM] at HMk
    have HQ := hideS (And.intro q1 (And.intro q4 (And.intro q5 (And.intro hNR (And.intro hM hal)))))
    have R1 := hideS hR1
    clear k0 k1 b1 own1 hR1 q1 q2 q3 q4 q5 hz hLA hRL hn hNR hM hal hR9
    obtain ⟨k0, k1, _, _⟩ := T0.out.cells
    go_wp2_with fail
    refine (HLt.out w1 BB.out).mono ?_
    rintro e w2 ⟨o2, c2, rfl, hA2, b2⟩
    replace T0 := hideS (T0.out.keep b2)
    replace BB := hideS (bupS BB.out b2)
    replace R1 := hideS (R1.out.keep b2)
    have A2 := hideS hA2
    clear k0 k1 b2 hA2 HLt
    have hgd := at_guard
    have s2 := BB.out.size
    go_wp2_with fail
    go_loopw [8, 9] (fun nv iv wq => ∃ i K : Nat, nv = .int .i64 (K : Nat) ∧ iv = .int .i64 (i : Nat) ∧ i ≤ NR ∧ ChR (K : Nat) (RL.drop i) (n : Nat) ∧ Below w2.heap.size w2 wq) (fun _ iv _ => NR - (intOf iv).toNat)
    case atStart => exact ⟨0, 0, rfl, rfl, Nat.zero_le _, by simpa using HQ.out.1, Below.refl _ _⟩
    case round =>
      obtain ⟨i, K, rfl, rfl, hiN, hch, hb⟩ := hrel
      obtain ⟨wq, rfl⟩ : ∃ wq, wq = wr := ⟨_, rfl⟩
      by_cases hlt : i < NR
      · obtain ⟨r, hr⟩ : ∃ r, RL[i]? = some r := ⟨_, List.getElem?_eq_getElem (by rw [HQ.out.2.2.2.1]; exact hlt)⟩
        rw [drop_atR hr, ChR] at hch
        obtain ⟨hf, hft, hch⟩ := hch
        have htn := (ch_le hch).1
        obtain ⟨T, hTT⟩ : ∃ T : Nat, r.tt = (T : Nat) := ⟨r.tt.toNat, by omega⟩
        rw [hTT] at hch hft htn
        have HLk := hideS (fun (m : Nat) (h1 : K ≤ m) (h2 : m < T) => HQ.out.2.2.1.look i r hr m (by omega) (by omega))
        have HPv := hideS (fun (j : Nat) (q : Rn) (hj : i = j + 1) (hq : RL[j]? = some q) => HQ.out.2.1 j q r hq (by rw [← hj]; exact hr))
        obtain ⟨rf, rt, ra⟩ := r
        simp only at hf hTT HLk HPv
        subst hf hTT
        obtain ⟨a0, a1, a2, a3, a4⟩ := ra
        have HR0 := hideS (fun (W : World) (h : Below w2.heap.size w2 W) => R1.out.keep h i _ hr)
        have d1 : (i : Int) < (NR : Int) := by omega
        have wi : IntKind.i64.wrap ((i : Int) + 1) = ((i + 1 : Nat) : Int) := by rw [show ((i + 1 : Nat) : Int) = (i : Int) + 1 by omega]; exact IntWalk.i64_in _ ⟨by omega, by omega⟩
        have HCh := hideS (And.intro hch hb)
        have hKT : (K : Int) < (T : Int) := hft
        have hKT2 : ¬ (T : Int) ≤ (K : Int) := by omega
        have hTn2 : ¬ (n : Int) < (T : Int) := by omega
        clear hch hb hft hr
        go_upto_region 9 with fail
        go_cut [89] (fun o wx => o = .bool false ∧ Below wq.heap.size wq wx)
        case first =>
          obtain ⟨A, rfl, hA0, k0, k1, k2, k3, k4, k5, k6⟩ := HR0.out wq HCh.out.2
          simp only at k0 k1 k2 k3 k4 k5 k6
          by_cases hi0 : 0 < i
          · obtain ⟨j, hj⟩ : ∃ j, i = j + 1 := ⟨i - 1, by omega⟩
            obtain ⟨q, hq⟩ : ∃ q, RL[j]? = some q := ⟨_, List.getElem?_eq_getElem (by rw [HQ.out.2.2.2.1]; omega)⟩
            have hne := HPv.out j q hj hq
            obtain ⟨A', hA', _, u0, u1, u2, u3, u4, u5, u6⟩ := R1.out.keep HCh.out.2 j q hq
            obtain rfl : A = A' := by simpa using hA'
            obtain ⟨qf, qt, qa⟩ := q
            obtain ⟨b0, b1, b2, b3, b4⟩ := qa
            simp only at u0 u1 u2 u3 u4 u5 u6 hne
            have heq := fun W => at_eq ⟨a0, a1, a2, a3, a4⟩ ⟨b0, b1, b2, b3, b4⟩ W
            unfold At.val at heq
            rw [decide_eq_false hne] at heq
            simp only at heq
            have e1 : (i : Int) - 1 = (j : Int) := by omega
            have e2 : IntKind.i64.wrap (j : Int) = (j : Int) := IntWalk.i64_in _ ⟨by omega, by omega⟩
            have e3 : (0 : Int) < (i : Int) := by omega
            have e4 : decide (0 < i) = true := by simpa using hi0
            have e5 : (j : Int) < (NR : Int) := by omega
            have HCw := hideS (And.intro hj hi0)
            clear hj hq hA' hne hi0
            go_quiet (fail)
            first | go_wp2_with fail | skip
            go_meet
            exact ⟨rfl, below_dnS (Below.refl _ _) nq⟩
          · have e3 : ¬ (0 : Int) < (i : Int) := by omega
            have e4 : decide (0 < i) = false := by simpa using hi0
            go_quiet (fail)
            first | go_wp2_with fail | skip
            go_meet
            exact ⟨rfl, below_dnS (Below.refl _ _) nq⟩
        case rest =>
          obtain ⟨rfl, bc⟩ := hcut
          have B0 := hideS (bupS HCh.out.2 bc)
          clear bc
          go_wp2_with fail
          go_loopw [8] (fun nv wx => ∃ m : Nat, nv = .int .i64 (m : Nat) ∧ K ≤ m ∧ m ≤ T ∧ Below w2.heap.size w2 wx) (fun nv _ => T - (intOf nv).toNat)
          case atStart => exact ⟨K, rfl, Nat.le_refl _, by omega, B0.out⟩
          case round =>
            obtain ⟨m, rfl, hKm, hmT, hbm⟩ := hrel
            obtain ⟨wx, rfl⟩ : ∃ wx, wx = wr := ⟨_, rfl⟩
            obtain ⟨A, rfl, hA0, k0, k1, k2, k3, k4, k5, k6⟩ := HR0.out wx hbm
            try simp only at k0 k1 k2 k3 k4 k5 k6
            by_cases hlm : m < T
            · have hlk := HLk.out m hKm hlm
              have hlo := HLo.out wx (bupS BB.out hbm) m
              rw [HLa.out m _ hlk] at hlo
              unfold At.val at hlo
              simp only at hlo
              have HLo1 := hideS hlo
              have HA1 := hideS (fun (W : World) (h : Below w2.heap.size w2 W) => A2.out.keep h m _ hlk)
              have d2 : (m : Int) < (T : Int) := by omega
              have d3 : (m : Int) < (n : Int) := by omega
              have wm : IntKind.i64.wrap ((m : Int) + 1) = ((m + 1 : Nat) : Int) := by rw [show ((m + 1 : Nat) : Int) = (m : Int) + 1 by omega]; exact IntWalk.i64_in _ ⟨by omega, by omega⟩
              obtain ⟨t0, t1, _, _⟩ := (T0.out.keep hbm).cells
              have HBm := hideS hbm
              clear hlk hlo hbm
              go_wp2_with fail
              refine HLo1.out.mono ?_
              rintro e w5 ⟨rfl, b5⟩
              obtain ⟨W6, hW6⟩ : ∃ W6, w5.alloc (.cells #[.bool a0, .bool a1, .bool a2, .bool a3, .int .i64 a4] 43) = W6 := ⟨_, rfl⟩
              have d6 : Below w5.heap.size w5 W6 := by rw [← hW6]; exact bel1S _ _
              have A6 : AtC W6 w5.heap.size ⟨a0, a1, a2, a3, a4⟩ := by rw [← hW6]; exact atc_newL w5 ⟨a0, a1, a2, a3, a4⟩
              have HB6 := hideS (bupS (bupS HBm.out b5) d6)
              clear t0 t1 k0 k1 k2 k3 k4 k5 k6 b5 d6 HLo1
              go_upto_region 14 with fail
              try rw [hW6]
              clear hW6
              obtain ⟨z0, z1, z2, z3, z4⟩ := A6.five
              obtain ⟨A9, hA9, _, k0, k1, k2, k3, k4, k5, k6⟩ := HR0.out W6 HB6.out
              obtain rfl : A = A9 := by simpa using hA9
              obtain ⟨E, rfl, _, e0, e1, e2, e3, e4⟩ := HA1.out W6 HB6.out
              try simp only at z0 z1 z2 z3 z4
              try simp only at k0 k1 k2 k3 k4 k5 k6
              try simp only at e0 e1 e2 e3 e4
              have hne := fun W => at_neq ⟨a0, a1, a2, a3, a4⟩ ⟨a0, a1, a2, a3, a4⟩ W
              unfold At.val at hne
              rw [decide_eq_true rfl] at hne
              simp only [Bool.not_true] at hne
              clear A6 hA9
              go_quiet (fail)
              go_wp2_with fail
              go_roundw
              case rel => exact ⟨m + 1, by first | rfl | simp, by omega, by omega, HB6.out.trans ((below_dnS (Below.refl _ _) nq).mono HB6.out.size)⟩
              case measure => simp [intOf]; omega
            · have d2 : ¬ (m : Int) < (T : Int) := by omega
              have hmT2 : m = T := by omega
              have HBm := hideS (And.intro hbm hmT2)
              clear hbm hmT2
              go_wp2_with fail
              go_roundw
              case rel => exact ⟨i + 1, m, rfl, by first | rfl | simp, by omega, by rw [HBm.out.2]; exact HCh.out.1, HBm.out.1⟩
              case measure => simp [intOf]; omega
      · have d1 : ¬ (i : Int) < (NR : Int) := by omega
        have hKn : K = n := by
          rw [List.drop_eq_nil_of_le (by rw [HQ.out.2.2.2.1]; omega), ChR] at hch
          omega
        subst hKn
        replace T0 := hideS (T0.out.keep hb)
        replace BB := hideS (bupS BB.out hb)
        replace R1 := hideS (R1.out.keep hb)
        replace A2 := hideS (A2.out.keep hb)
        clear hb hch
        obtain ⟨k0, k1, _, _⟩ := T0.out.cells
        go_wp2_with fail
        refine (HCo.out wq).mono ?_
        rintro e w5 ⟨rfl, b5⟩
        replace T0 := hideS (T0.out.keep b5)
        replace BB := hideS (bupS BB.out b5)
        replace R1 := hideS (R1.out.keep b5)
        replace A2 := hideS (A2.out.keep b5)
        clear b5 k0 k1
        have ni := Int.emod_nonneg p (show (K : Int) + 1 ≠ 0 by omega)
        have nu := Int.emod_lt_of_pos p (show 0 < (K : Int) + 1 by omega)
        have wr1 : IntKind.i64.wrap ((K : Int) + 1) = (K : Int) + 1 := IntWalk.i64_in _ ⟨by omega, by omega⟩
        have HW1 := hideS (fun (W : World) => within7_any p ((K : Int) + 1) ⟨by omega, by omega⟩ W)
        obtain ⟨P, hP⟩ : ∃ P, p % ((K : Int) + 1) = P := ⟨_, rfl⟩
        rw [hP] at HW1
        clear hP ni nu
        go_wp2_with fail
        refine (HW1.out w5).mono ?_
        rintro e w6 ⟨rfl, hq⟩
        obtain rfl : w6 = w5 := hq
        go_wp2_with fail
        go_loopw [12, 13] (fun cv iv wz => ∃ j : Nat, iv = .int .i64 (j : Nat) ∧ j ≤ NR ∧ wz.ownsRow w6.heap.size 45 7 cv (cutR P (RL.take j)).length (flat7 (cutR P (RL.take j))) ∧ Below w6.heap.size w6 wz) (fun _ iv _ => NR - (intOf iv).toNat)
        case atStart => exact ⟨0, rfl, Nat.zero_le _, World.ownsRow_nil _ _ _ _, Below.refl _ _⟩
        case round =>
          obtain ⟨j, rfl, hjN, hO, hb⟩ := hrel
          obtain ⟨wz, rfl⟩ : ∃ wz, wz = wr := ⟨_, rfl⟩
          by_cases hlt : j < NR
          · obtain ⟨r, hr⟩ : ∃ r, RL[j]? = some r := ⟨_, List.getElem?_eq_getElem (by rw [HQ.out.2.2.2.1]; exact hlt)⟩
            have hsn := cutR_snoc P (RL.take j) r
            rw [← take_atR hr] at hsn
            have hcl : (cutR P (RL.take j)).length ≤ 4096 := Nat.le_trans (cutR_pre P RL j) (HKc.out P).2
            obtain ⟨Q, hQ⟩ : ∃ Q, cutR P (RL.take j) = Q := ⟨_, rfl⟩
            rw [hQ] at hO hsn hcl
            obtain ⟨QN, hQN⟩ : ∃ k, Q.length = k := ⟨_, rfl⟩
            rw [hQN] at hO hcl
            have HR0 := hideS (fun (W : World) (h : Below w6.heap.size w6 W) => R1.out.keep h j _ hr)
            obtain ⟨rf, rt, ra⟩ := r
            obtain ⟨a0, a1, a2, a3, a4⟩ := ra
            obtain ⟨A, rfl, hA0, k0, k1, k2, k3, k4, k5, k6⟩ := HR0.out wz hb
            simp only at k0 k1 k2 k3 k4 k5 k6
            have d1 : (j : Int) < (NR : Int) := by omega
            have wi : IntKind.i64.wrap ((j : Int) + 1) = ((j + 1 : Nat) : Int) := by rw [show ((j + 1 : Nat) : Int) = (j : Int) + 1 by omega]; exact IntWalk.i64_in _ ⟨by omega, by omega⟩
            obtain ⟨W3, hW3⟩ : ∃ W3, wz.alloc (.cells #[.int .i64 rf, .int .i64 rt, .bool a0, .bool a1, .bool a2, .bool a3, .int .i64 a4] 45) = W3 := ⟨_, rfl⟩
            have b3 : Below wz.heap.size wz W3 := by rw [← hW3]; exact bel1S _ _
            have X3 : RnC W3 wz.heap.size ⟨rf, rt, ⟨a0, a1, a2, a3, a4⟩⟩ := by rw [← hW3]; exact RnC.new wz ⟨rf, rt, ⟨a0, a1, a2, a3, a4⟩⟩
            have HX := hideS (And.intro X3 (And.intro hsn (And.intro hQN (And.intro hb (And.intro hO b3)))))
            have HO3 := hideS (own_keep hO b3)
            have HBx := hideS (bupS hb b3)
            have sx := (bupS hb b3).size
            have sz := hb.size
            have s3 : wz.heap.size < W3.heap.size := X3.lt
            go_upto_region 24 with fail
            try rw [hW3]
            obtain ⟨z0, z1, z2, z3, z4, z5, z6⟩ := X3.cells
            obtain ⟨f0, f1, f2, f3, f4, f5, f6⟩ := X3.free
            simp only at z0 z1 z2 z3 z4 z5 z6
            clear hW3 b3 X3 hsn hQ hQN hO hb hr k0 k1 k2 k3 k4 k5 k6
            by_cases hc1 : rf < P
            · by_cases hc2 : P < rt
              · skip
                go_upto_region 26 with fail
                obtain ⟨W4, hW4⟩ : ∃ W4, W3.setCell ⟨wz.heap.size, 1, none⟩ (.int .i64 P) = W4 := ⟨_, rfl⟩
                have X4 : RnC W4 wz.heap.size ⟨rf, P, ⟨a0, a1, a2, a3, a4⟩⟩ := by rw [← hW4]; exact (HX.out.1.set 0 P).1
                have b4 : Below wz.heap.size wz W4 := by rw [← hW4]; exact HX.out.2.2.2.2.2.setCell (p := ⟨wz.heap.size, 1, none⟩) (Nat.le_refl _) _
                try rw [hW4]
                have HO4 := hideS (own_keep HX.out.2.2.2.2.1 b4)
                have HB4 := hideS (bupS HX.out.2.2.2.1 b4)
                have s4 := (bupS HX.out.2.2.2.1 b4).size
                have s5 : wz.heap.size < W4.heap.size := X4.lt
                have HX4 := hideS X4
                obtain ⟨z0, z1, z2, z3, z4, z5, z6⟩ := X4.cells
                simp only at z0 z1 z2 z3 z4 z5 z6
                clear X4 b4 hW4 f0 f1 f2 f3 f4 f5 f6
                go_upto_region 27 with (at_builtin; refine wpList_append_own_at _ rfl _ _ 36 rfl w6.heap.size 45 i0 (.agg #[.int .i64 0, .int .i64 0, .bool false, .bool false, .bool false, .bool false, .int .i64 0]) 7 32 Tryz.underlying36 hi hz0 hz1 hz2 rfl (by decide) _ _ _ rfl (HO4.out.alloc _) ⟨W4.heap.size, 0, none⟩ 1 1 [.int .i64 rf, .int .i64 P, .bool a0, .bool a1, .bool a2, .bool a3, .int .i64 a4] rfl rfl (cell_sevenS _ _ _ _ _ _ _ _ _) (fun u hu => by simp at hu; rcases hu with rfl | rfl | rfl | rfl | rfl | rfl | rfl <;> rfl) (by unfold maxLen; omega) (by omega) (by simp; omega) ?_; intro v5 w5 hown' hgrow _ hat; have H5 := hideS (And.intro hown' (And.intro hgrow hat)); clear hown' hgrow hat)
                obtain ⟨hown', hgrow, hat⟩ := H5.out
                have HB5 := hideS (Below.grown (HB4.out.alloc (by omega) (.cells #[.int .i64 rf, .int .i64 P, .bool a0, .bool a1, .bool a2, .bool a3, .int .i64 a4] 45)) hgrow (by simp; omega) (fun j hj => (HO4.out.lt j hj).1))
                have X5 : RnC w5 wz.heap.size ⟨rf, P, ⟨a0, a1, a2, a3, a4⟩⟩ := (hgrow.block wz.heap.size (by simp; omega) (fun e => absurd ((HX.out.2.2.2.2.1.lt _ e.symm).2) (by omega))).trans (((bel1S W4 _).block wz.heap.size (by omega)).trans HX4.out)
                have HA5 : Hid (∀ k, v5.ownBlock = some k → k ≠ wz.heap.size) := hideS (fun k hk => by
                  rcases hat with h9 | h9
                  · rw [h9] at hk
                    have := (HX.out.2.2.2.2.1.lt _ hk).2
                    omega
                  · rw [h9] at hk
                    have := Option.some.inj hk
                    rw [World.size_alloc] at this
                    omega)
                have HO5 := hideS hown'
                have HX5 := hideS X5
                clear hown' hgrow hat X5 H5
                obtain ⟨A9, hA9, _, k0, k1, k2, k3, k4, k5, k6⟩ := HR0.out w5 HB5.out
                obtain rfl : A = A9 := by simpa using hA9
                simp only at k0 k1 k2 k3 k4 k5 k6
                obtain ⟨f0, f1, f2, f3, f4, f5, f6⟩ := HX5.out.free
                clear hA9 z0 z1 z2 z3 z4 z5 z6
                obtain ⟨z0, z1, z2, z3, z4, z5, z6⟩ := HX5.out.cells
                try simp only at z0 z1 z2 z3 z4 z5 z6
                go_upto_region 29 with fail
                obtain ⟨W9, hW9⟩ : ∃ W9, (((((((w5.setCell ⟨wz.heap.size, 0, none⟩ (.int .i64 rf)).setCell ⟨wz.heap.size, 1, none⟩ (.int .i64 rt)).setCell ⟨wz.heap.size, 2, none⟩ (.bool a0)).setCell ⟨wz.heap.size, 3, none⟩ (.bool a1)).setCell ⟨wz.heap.size, 4, none⟩ (.bool a2)).setCell ⟨wz.heap.size, 5, none⟩ (.bool a3)).setCell ⟨wz.heap.size, 6, none⟩ (.int .i64 a4)).setCell ⟨wz.heap.size, 0, none⟩ (.int .i64 P) = W9 := ⟨_, rfl⟩
                have X9 : RnC W9 wz.heap.size ⟨P, rt, ⟨a0, a1, a2, a3, a4⟩⟩ := by rw [← hW9]; exact ((HX5.out.all ⟨rf, rt, ⟨a0, a1, a2, a3, a4⟩⟩).set P 0).2
                have HO9 := hideS (show W9.ownsRow w6.heap.size 45 7 v5 (QN + 1) (flat7 Q ++ [.int .i64 rf, .int .i64 P, .bool a0, .bool a1, .bool a2, .bool a3, .int .i64 a4]) by rw [← hW9]; exact own_farR (own_farR (own_farR (own_farR (own_farR (own_farR (own_farR (own_farR HO5.out HA5.out 0 _) HA5.out 1 _) HA5.out 2 _) HA5.out 3 _) HA5.out 4 _) HA5.out 5 _) HA5.out 6 _) HA5.out 0 _)
                have HB9 := hideS (show Below w6.heap.size w6 W9 by rw [← hW9]; exact (((((((HB5.out.setCell (p := ⟨wz.heap.size, 0, none⟩) sz _).setCell (p := ⟨wz.heap.size, 1, none⟩) sz _).setCell (p := ⟨wz.heap.size, 2, none⟩) sz _).setCell (p := ⟨wz.heap.size, 3, none⟩) sz _).setCell (p := ⟨wz.heap.size, 4, none⟩) sz _).setCell (p := ⟨wz.heap.size, 5, none⟩) sz _).setCell (p := ⟨wz.heap.size, 6, none⟩) sz _).setCell (p := ⟨wz.heap.size, 0, none⟩) sz _)
                have s9 := HB9.out.size
                try rw [hW9]
                clear z0 z1 z2 z3 z4 z5 z6
                obtain ⟨z0, z1, z2, z3, z4, z5, z6⟩ := X9.cells
                try simp only at z0 z1 z2 z3 z4 z5 z6
                clear hW9 X9 k0 k1 k2 k3 k4 k5 k6 f0 f1 f2 f3 f4 f5 f6 HO5 HA5 HX5 HB5
                go_wp2_with (at_builtin; refine wpList_append_own_at _ rfl _ _ 36 rfl w6.heap.size 45 i0 (.agg #[.int .i64 0, .int .i64 0, .bool false, .bool false, .bool false, .bool false, .int .i64 0]) 7 32 Tryz.underlying36 hi hz0 hz1 hz2 rfl (by decide) _ _ _ rfl (HO9.out.alloc _) ⟨W9.heap.size, 0, none⟩ 1 1 [.int .i64 P, .int .i64 rt, .bool a0, .bool a1, .bool a2, .bool a3, .int .i64 a4] rfl rfl (cell_sevenS _ _ _ _ _ _ _ _ _) (fun u hu => by simp at hu; rcases hu with rfl | rfl | rfl | rfl | rfl | rfl | rfl <;> rfl) (by unfold maxLen; omega) (by omega) (by simp; omega) ?_; intro v' w9 hown' hgrow _ hat; have H9 := hideS (And.intro hown' (Below.grown (HB9.out.alloc (by omega) (.cells #[.int .i64 P, .int .i64 rt, .bool a0, .bool a1, .bool a2, .bool a3, .int .i64 a4] 45)) hgrow (by simp; omega) (fun j hj => (HO9.out.lt j hj).1))); clear hown' hgrow hat)
                go_roundw
                case rel => exact ⟨j + 1, by first | rfl | simp, by omega, by rw [HX.out.2.1, cutR1, if_pos ⟨hc1, hc2⟩, List.length_append, HX.out.2.2.1, show ∀ x y : Rn, Q ++ [x, y] = (Q ++ [x]) ++ [y] from fun x y => by simp, flat7_snoc, flat7_snoc]; exact H9.out.1, H9.out.2⟩
                case measure => simp [intOf]; omega
              · skip
                go_wp2_with (at_builtin; refine wpList_append_own_at _ rfl _ _ 36 rfl w6.heap.size 45 i0 (.agg #[.int .i64 0, .int .i64 0, .bool false, .bool false, .bool false, .bool false, .int .i64 0]) 7 32 Tryz.underlying36 hi hz0 hz1 hz2 rfl (by decide) _ _ _ rfl (HO3.out.alloc _) ⟨W3.heap.size, 0, none⟩ 1 1 [.int .i64 rf, .int .i64 rt, .bool a0, .bool a1, .bool a2, .bool a3, .int .i64 a4] rfl rfl (cell_sevenS _ _ _ _ _ _ _ _ _) (fun u hu => by simp at hu; rcases hu with rfl | rfl | rfl | rfl | rfl | rfl | rfl <;> rfl) (by unfold maxLen; omega) (by omega) (by simp; omega) ?_; intro v' w9 hown' hgrow _ hat; have H3 := hideS (And.intro hown' (Below.grown (HBx.out.alloc (by omega) (.cells #[.int .i64 rf, .int .i64 rt, .bool a0, .bool a1, .bool a2, .bool a3, .int .i64 a4] 45)) hgrow (by simp; omega) (fun j hj => (HO3.out.lt j hj).1))); clear hown' hgrow hat)
                go_roundw
                case rel => exact ⟨j + 1, by first | rfl | simp, by omega, by rw [HX.out.2.1, cutR1, if_neg (by simp only; omega), List.length_append, HX.out.2.2.1, flat7_snoc]; exact H3.out.1, H3.out.2⟩
                case measure => simp [intOf]; omega
            · skip
              go_wp2_with (at_builtin; refine wpList_append_own_at _ rfl _ _ 36 rfl w6.heap.size 45 i0 (.agg #[.int .i64 0, .int .i64 0, .bool false, .bool false, .bool false, .bool false, .int .i64 0]) 7 32 Tryz.underlying36 hi hz0 hz1 hz2 rfl (by decide) _ _ _ rfl (HO3.out.alloc _) ⟨W3.heap.size, 0, none⟩ 1 1 [.int .i64 rf, .int .i64 rt, .bool a0, .bool a1, .bool a2, .bool a3, .int .i64 a4] rfl rfl (cell_sevenS _ _ _ _ _ _ _ _ _) (fun u hu => by simp at hu; rcases hu with rfl | rfl | rfl | rfl | rfl | rfl | rfl <;> rfl) (by unfold maxLen; omega) (by omega) (by simp; omega) ?_; intro v' w9 hown' hgrow _ hat; have H3 := hideS (And.intro hown' (Below.grown (HBx.out.alloc (by omega) (.cells #[.int .i64 rf, .int .i64 rt, .bool a0, .bool a1, .bool a2, .bool a3, .int .i64 a4] 45)) hgrow (by simp; omega) (fun j hj => (HO3.out.lt j hj).1))); clear hown' hgrow hat)
              go_roundw
              case rel => exact ⟨j + 1, by first | rfl | simp, by omega, by rw [HX.out.2.1, cutR1, if_neg (by simp only; omega), List.length_append, HX.out.2.2.1, flat7_snoc]; exact H3.out.1, H3.out.2⟩
              case measure => simp [intOf]; omega
          · have d1 : ¬ (j : Int) < (NR : Int) := by omega
            have htk : RL.take j = RL := List.take_of_length_le (by rw [HQ.out.2.2.2.1]; omega)
            rw [htk] at hO
            obtain ⟨o7, c7, rfl, hc7, hR7⟩ := rn_of_own hO
            have hO7 := hideS (HKc.out P).1
            replace T0 := hideS (T0.out.keep hb)
            replace BB := hideS (bupS BB.out hb)
            replace R1 := hideS (R1.out.keep hb)
            replace A2 := hideS (A2.out.keep hb)
            have R7 := hideS hR7
            have HMd := hideS (fun (o : Option Addr) (c : Nat) (W : World) (hR : RnO W o (cutR P RL)) => HMc.out P o c W hR)
            rw [hO7.out] at HMd
            simp only [HQ.out.2.2.2.2.1] at HMd
            obtain ⟨CN, hCN⟩ : ∃ k, (cutR P RL).length = k := ⟨_, rfl⟩
            rw [hCN] at HMd hc7 ⊢
            clear hb hO htk hR7 hCN HMc hO7
            obtain ⟨k0, k1, _, _⟩ := T0.out.cells
            go_wp2_with fail
            refine (HMk.out o1 c1 wz R1.out).mono ?_
            rintro e w8 ⟨v8, rfl, own8, b8⟩
            obtain ⟨o8, c8, rfl, hc8, hS8, -⟩ := own_readB own8 HQ.out.2.2.2.2.1
            have hn8 := hideS (fun h => own_noneL own8 h)
            replace T0 := hideS (T0.out.keep b8)
            replace BB := hideS (bupS BB.out b8)
            replace R1 := hideS (R1.out.keep b8)
            replace A2 := hideS (A2.out.keep b8)
            replace R7 := hideS (R7.out.keep b8)
            obtain ⟨W8, hW8⟩ : ∃ W8, w8.alloc (.cells #[.string s9, .slice o8 M c8] 24) = W8 := ⟨_, rfl⟩
            have d8 : Below w8.heap.size w8 W8 := by rw [← hW8]; exact bel1S _ _
            replace T0 := hideS (T0.out.keep d8)
            replace BB := hideS (bupS BB.out d8)
            replace R1 := hideS (R1.out.keep d8)
            replace A2 := hideS (A2.out.keep d8)
            replace R7 := hideS (R7.out.keep d8)
            have T8 := hideS (show Tx W8 w8.heap.size (.string s9) (.slice o8 M c8) by rw [← hW8]; exact Tx.new w8 _ _)
            have S8 := hideS (hS8.keep d8)
            clear own8 b8 d8 hS8 k0 k1 HMk
            go_upto_region 31 with fail
            try rw [hW8]
            clear hW8
            obtain ⟨k0, k1, _, _⟩ := T0.out.cells
            go_wp2_with fail
            refine (HMd.out o7 c7 W8 R7.out).mono ?_
            rintro e w9 ⟨v9, rfl, own9, b9⟩
            obtain ⟨o9, c9, rfl, hc9, hS9, -⟩ := own_readB own9 HQ.out.2.2.2.2.1
            have hn9 := hideS (fun h => own_noneL own9 h)
            replace T0 := hideS (T0.out.keep b9)
            replace BB := hideS (bupS BB.out b9)
            replace R1 := hideS (R1.out.keep b9)
            replace A2 := hideS (A2.out.keep b9)
            replace R7 := hideS (R7.out.keep b9)
            replace T8 := hideS (T8.out.keep b9)
            replace S8 := hideS (S8.out.keep b9)
            obtain ⟨W9, hW9⟩ : ∃ W9, w9.alloc (.cells #[.string s9, .slice o9 M c9] 24) = W9 := ⟨_, rfl⟩
            have d9 : Below w9.heap.size w9 W9 := by rw [← hW9]; exact bel1S _ _
            replace T0 := hideS (T0.out.keep d9)
            replace BB := hideS (bupS BB.out d9)
            replace R1 := hideS (R1.out.keep d9)
            replace A2 := hideS (A2.out.keep d9)
            replace R7 := hideS (R7.out.keep d9)
            replace T8 := hideS (T8.out.keep d9)
            replace S8 := hideS (S8.out.keep d9)
            have T9 := hideS (show Tx W9 w9.heap.size (.string s9) (.slice o9 M c9) by rw [← hW9]; exact Tx.new w9 _ _)
            have S9 := hideS (hS9.keep d9)
            clear own9 b9 d9 hS9 k0 k1 HMd
            go_upto_region 32 with fail
            try rw [hW9]
            clear hW9
            obtain ⟨k0, k1, _, _⟩ := T8.out.cells
            obtain ⟨k2, k3, _, _⟩ := T9.out.cells
            have hee : (e9 == e9) = true := by simp
            have HS9 := hideS (sametx_sp s9 L9 o8 o9 c8 c9 (by rw [HQ.out.2.2.2.2.1]; exact hc8) W9 S8.out S9.out)
            rw [HQ.out.2.2.2.2.1] at HS9
            go_wp2_with fail
            refine HS9.out.mono ?_
            rintro e w10 ⟨rfl, b10⟩
            replace T0 := hideS (T0.out.keep b10)
            replace BB := hideS (bupS BB.out b10)
            replace R1 := hideS (R1.out.keep b10)
            replace A2 := hideS (A2.out.keep b10)
            replace R7 := hideS (R7.out.keep b10)
            replace T8 := hideS (T8.out.keep b10)
            replace S8 := hideS (S8.out.keep b10)
            replace T9 := hideS (T9.out.keep b10)
            replace S9 := hideS (S9.out.keep b10)
            clear k0 k1 k2 k3 b10 HS9
            go_wp2_with fail
            refine (HH.out w10 BB.out).mono ?_
            rintro e w11 ⟨rfl, b11⟩
            replace T0 := hideS (T0.out.keep b11)
            replace BB := hideS (bupS BB.out b11)
            replace R1 := hideS (R1.out.keep b11)
            replace A2 := hideS (A2.out.keep b11)
            replace R7 := hideS (R7.out.keep b11)
            replace T8 := hideS (T8.out.keep b11)
            replace S8 := hideS (S8.out.keep b11)
            replace T9 := hideS (T9.out.keep b11)
            replace S9 := hideS (S9.out.keep b11)
            clear b11 
            go_wp2_with fail
            go_ret
            exact ⟨rfl, BB.out⟩
end Go.Proofs.YtkamjlpnenldbaaGreatDoor
