/- Several texts, one behind the other. -/
import Derived.Deep.CutBlock
import Derived.Deep.RegionHeld3
import Derived.Deep.RegionLaw
import Derived.Test.YtipnefaggpigfaaGB
import Derived.Test.YtipnefaggpigfaaGE
import Derived.Test.YtipnefaggpigfaaGF
import Derived.Test.YtipnefaggpigfaaGH
import Derived.Test.YtipnefaggpigfaaKnG
import Derived.Test.YtipnefaggpigfaaKnR
import Derived.Test.YtipnefaggpigfaaQuG
/- The reference's New (chapter 6). -/
namespace Go.Proofs.Ytipnefaggpigfaa
open Go.RowKit Go.Shelf

theorem own_slG {W : World} {b : Nat} {e : TypeId} {sz n : Nat} {v : Value} {xs : List Value} (h : W.ownsRow b e sz v n xs) : ∃ o c, v = .slice o n c := by
  rcases h.2 with ⟨rfl, rfl⟩ | ⟨g, cap, cur, rfl, _⟩
  · exact ⟨none, 0, rfl⟩
  · exact ⟨_, cap, rfl⟩
theorem BnI.knin {L : List Kn} {I : List Nat} {P : List (Kn × Rt)} (h : BnI L I P) (hL : ∀ x ∈ L, KnIn x) : ∀ y ∈ P.map (·.1), KnIn y := by
  intro y hy
  obtain ⟨⟨x, s⟩, hm, rfl⟩ := List.mem_map.1 hy
  obtain ⟨k, hk⟩ := List.getElem?_of_mem hm
  have hkl : k < P.length := (List.getElem?_eq_some_iff.1 hk).1
  rw [h.len] at hkl
  obtain ⟨_, _, x2, s2, hx, -, hp⟩ := h.at_ k _ (List.getElem?_eq_getElem hkl)
  rw [hk] at hp
  cases hp
  exact hL _ (List.mem_of_getElem? hx)
theorem Four.but {V W : World} {R qt : Nat} {x y z u : Value} (h : Four V R x y z u) (q : But (fun k => k = qt) V W) (n : R ≠ qt) : Four W R x y z u := by
  obtain ⟨h0, c0, c1, c2, c3, f0, f1, f2, f3⟩ := h
  have e := q.same R h0 n
  have fr : ∀ i : Nat, W.frozen? ⟨R, i, none⟩ = V.frozen? ⟨R, i, none⟩ := fun i => by unfold World.frozen?; rw [e]
  have ce : ∀ i : Nat, W.cell? ⟨R, i, none⟩ = V.cell? ⟨R, i, none⟩ := fun i => World.cell?_of_block e
  exact ⟨Nat.lt_of_lt_of_le h0 q.size, (ce 0).trans c0, (ce 1).trans c1, (ce 2).trans c2, (ce 3).trans c3, (fr 0).trans f0, (fr 1).trans f1, (fr 2).trans f2, (fr 3).trans f3⟩
theorem Four.low {V W : World} {R D : Nat} {x y z u : Value} (h : Four V R x y z u) (q : Below D V W) (n : R < D) : Four W R x y z u := by
  obtain ⟨h0, c0, c1, c2, c3, f0, f1, f2, f3⟩ := h
  have e := q.block R n
  have fr : ∀ i : Nat, W.frozen? ⟨R, i, none⟩ = V.frozen? ⟨R, i, none⟩ := fun i => by unfold World.frozen?; rw [e]
  have ce : ∀ i : Nat, W.cell? ⟨R, i, none⟩ = V.cell? ⟨R, i, none⟩ := fun i => World.cell?_of_block e
  exact ⟨Nat.lt_of_lt_of_le h0 q.size, (ce 0).trans c0, (ce 1).trans c1, (ce 2).trans c2, (ce 3).trans c3, (fr 0).trans f0, (fr 1).trans f1, (fr 2).trans f2, (fr 3).trans f3⟩
set_option maxRecDepth 100000 in
set_option maxHeartbeats 8000000 in
theorem rnew6_any (Q : List Kn) (oa : Option Addr) (c : Nat) (hQ : ∀ x ∈ Q, KnIn x) (hc : Q.length ≤ c ∧ c ≤ maxLen) (w : World) (hO : KnO w oa Q) :
    Calls Try.prog 7 #[.slice oa Q.length c] w fun e w' => Below w.heap.size w w' ∧ ((newE Q = 0 ∧ ∃ B, e = .returned (.tuple #[.pointer (some ⟨B, 0, none⟩), .int .i64 0]) ∧ w.heap.size ≤ B ∧ RMapAt w' B (newK Q) (slL (newK Q))) ∨ (¬ newE Q = 0 ∧ e = .returned (.tuple #[.pointer none, .int .i64 (newE Q)]))) := by
  obtain ⟨i0, hI, hz0, hz1, hz2⟩ := info_partsK infoRtK
  obtain ⟨j0, hJ, hy0, hy1, hy2⟩ := info_partsK infoIntK
  have hmx : maxLen ≤ 9223372036854775807 := by decide
  obtain ⟨PO, hPO⟩ : ∃ PO : Ending → World → Prop, (fun e w' => Below w.heap.size w w' ∧ ((newE Q = 0 ∧ ∃ B, e = .returned (.tuple #[.pointer (some ⟨B, 0, none⟩), .int .i64 0]) ∧ w.heap.size ≤ B ∧ RMapAt w' B (newK Q) (slL (newK Q))) ∨ (¬ newE Q = 0 ∧ e = .returned (.tuple #[.pointer none, .int .i64 (newE Q)])))) = PO := ⟨_, rfl⟩
  have HP := hideK hPO
  have HO := hideK hO
  have HQ := hideK hQ
  have hck := hideK (rcheck6_any Q oa c hQ hc w hO)
  obtain ⟨n, hn⟩ : ∃ n, Q.length = n := ⟨_, rfl⟩
  have HN := hideK hn
  rw [hPO]
  rw [hn] at hck hc ⊢
  clear hPO hO hQ hn
  go_enter Try.func7, Try.ntmps7
  go_wp2_with fail
  refine hck.out.mono ?_
  rintro e w1 ⟨rfl, b1⟩
  have HB1 := hideK b1
  clear b1 hck
  obtain ⟨ck, hk⟩ : ∃ ck, chkK Q = ck := ⟨_, rfl⟩
  have HCK := hideK hk
  rw [hk]
  clear hk
  by_cases h0 : ck = 0
  case neg => as_aux_lemma =>
    go_wp2_with fail
    rw [← HP.out]
    have hE : newE Q = ck := by unfold newE; rw [HCK.out, if_pos h0]
    exact ⟨HB1.out, .inr ⟨by rw [hE]; exact h0, by rw [hE]; rfl⟩⟩
  case pos =>
  subst h0
  obtain ⟨hl1, hl2, hri, hro⟩ := chk_ok HCK.out
  rw [HN.out] at hl1 hl2
  clear hri hro
  go_wp2_with fail
  go_loopw [5, 6] (fun lv iv wq => ∃ i : Nat, iv = .int .i64 ((i + 1 : Nat) : Int) ∧ i + 1 ≤ n ∧ wq.ownsRow w.heap.size 42 2 lv i (flatRt ((slL Q).take i)) ∧ slE (Q.drop i) = slE Q ∧ Below w.heap.size w wq) (fun _ iv _ => n - (intOf iv).toNat)
  case atStart => exact ⟨0, rfl, hl1, World.ownsRow_nil _ _ _ _, rfl, HB1.out⟩
  case round =>
    obtain ⟨i, rfl, hi, hown, hs, hb⟩ := hrel
    obtain ⟨wq, rfl⟩ : ∃ wq, wq = wr := ⟨_, rfl⟩
    by_cases hlt : i + 1 < n
    case pos => as_aux_lemma =>
      obtain ⟨a, ha⟩ : ∃ x, Q[i]? = some x := ⟨_, List.getElem?_eq_getElem (by rw [HN.out]; omega)⟩
      obtain ⟨b, hb'⟩ : ∃ x, Q[i + 1]? = some x := ⟨_, List.getElem?_eq_getElem (by rw [HN.out]; omega)⟩
      obtain ⟨A, rfl, hA, a0, a1, a2, a3⟩ := (HO.out.keep hb).get ha
      obtain ⟨A', hA', hAb, b0, b1, b2, b3⟩ := (HO.out.keep hb).get hb'
      cases hA'
      have kA : (A.add (i * 4)).block < wq.heap.size := by rw [addrN_block]; exact hA
      have kB : (A.add ((i + 1) * 4)).block < wq.heap.size := by rw [addrN_block]; exact hA
      have HS := hideK (slE_step ha hb')
      have HT := hideK (slL_take ha hb')
      have HC := hideK (show ∀ W : World, Calls Try.prog 26 #[.agg #[.int .i64 a.i.N, .int .i64 a.i.D, .int .i64 a.o.N, .int .i64 a.o.D], .agg #[.int .i64 b.i.N, .int .i64 b.i.D, .int .i64 b.o.N, .int .i64 b.o.D]] W fun e w' => e = .returned (.tuple #[.agg #[.int .i64 (slopeA a b).1.N, .int .i64 (slopeA a b).1.D], .int .i64 (slopeA a b).2]) ∧ Below W.heap.size W w' from fun W => rslope_any a b (HQ.out a (List.mem_of_getElem? ha)) (HQ.out b (List.mem_of_getElem? hb')) W)
      obtain ⟨r, hr⟩ : ∃ r, slopeA a b = r := ⟨_, rfl⟩
      rw [hr] at HC HS HT
      rw [hs] at HS
      have HA := hideK (And.intro hown hb)
      clear hr hown hs hb ha hb' hA hAb
      obtain ⟨j, hj⟩ : ∃ j, i + 1 = j := ⟨_, rfl⟩
      have hj1 : 1 ≤ j ∧ j < n := by omega
      rw [hj] at b0 b1 b2 b3 kB HS HT ⊢
      have d1 : (j : Int) < (n : Int) := by omega
      have wj : IntKind.i64.wrap ((j : Int) - 1) = (i : Int) := by rw [show (j : Int) - 1 = (i : Int) by omega]; exact IntWalk.i64_in _ ⟨by omega, by omega⟩
      have wk : IntKind.i64.wrap ((j : Int) + 1) = ((j + 1 : Nat) : Int) := by rw [show ((j + 1 : Nat) : Int) = (j : Int) + 1 by omega]; exact IntWalk.i64_in _ ⟨by omega, by omega⟩
      have di : (i : Int) < (n : Int) := by omega
      generalize hPA : A.add (i * 4) = PA at *
      generalize hPB : A.add (j * 4) = PB at *
      have HK : Hid (∀ w' : World, Below wq.heap.size wq w' → (w'.cell? PA = some (.int .i64 a.i.N) ∧ w'.cell? ⟨PA.block, PA.off + 1, none⟩ = some (.int .i64 a.i.D) ∧ w'.cell? ⟨PA.block, PA.off + 2, none⟩ = some (.int .i64 a.o.N) ∧ w'.cell? ⟨PA.block, PA.off + 3, none⟩ = some (.int .i64 a.o.D) ∧ w'.cell? PB = some (.int .i64 b.i.N) ∧ w'.cell? ⟨PB.block, PB.off + 1, none⟩ = some (.int .i64 b.i.D) ∧ w'.cell? ⟨PB.block, PB.off + 2, none⟩ = some (.int .i64 b.o.N) ∧ w'.cell? ⟨PB.block, PB.off + 3, none⟩ = some (.int .i64 b.o.D))) := hideK (fun w' q => ⟨(q.cell kA).trans a0, (q.cell (p := ⟨PA.block, PA.off + 1, none⟩) kA).trans a1, (q.cell (p := ⟨PA.block, PA.off + 2, none⟩) kA).trans a2, (q.cell (p := ⟨PA.block, PA.off + 3, none⟩) kA).trans a3, (q.cell kB).trans b0, (q.cell (p := ⟨PB.block, PB.off + 1, none⟩) kB).trans b1, (q.cell (p := ⟨PB.block, PB.off + 2, none⟩) kB).trans b2, (q.cell (p := ⟨PB.block, PB.off + 3, none⟩) kB).trans b3⟩)
      go_upto_region 8 with fail
      go_cut [7, 8] (fun p e wx => ∃ q, p = .pointer (some ⟨q, 0, none⟩) ∧ e = .int .i64 r.2 ∧ wq.heap.size ≤ q ∧ Two wx q (.int .i64 r.1.N) (.int .i64 r.1.D) ∧ Below wq.heap.size wq wx)
      case first =>
        go_region_held3 (fun w' => w'.cell? PA = some (.int .i64 a.i.N) ∧ w'.cell? ⟨PA.block, PA.off + 1, none⟩ = some (.int .i64 a.i.D) ∧ w'.cell? ⟨PA.block, PA.off + 2, none⟩ = some (.int .i64 a.o.N) ∧ w'.cell? ⟨PA.block, PA.off + 3, none⟩ = some (.int .i64 a.o.D) ∧ w'.cell? PB = some (.int .i64 b.i.N) ∧ w'.cell? ⟨PB.block, PB.off + 1, none⟩ = some (.int .i64 b.i.D) ∧ w'.cell? ⟨PB.block, PB.off + 2, none⟩ = some (.int .i64 b.o.N) ∧ w'.cell? ⟨PB.block, PB.off + 3, none⟩ = some (.int .i64 b.o.D)) (first | go_keep | assumption | exact HK.out _ (((bup c4 (bel1 _ _)).setCell (by simp; omega) _).setCell (by simp; omega) _) | exact HK.out _ ((c4.setCell (by simp) _).setCell (by simp) _)) (first
          | (go_at_call 26; (with_reducible refine Calls.mono (HC.out _) ?_); rintro e w4 ⟨rfl, b4⟩; (first | (have c4 : Below wq.heap.size wq w4 := (Below.refl wq.heap.size wq).drew.trans b4) | (have T4 : Hid (Two w4 wq.heap.size (.int .i64 0) (.int .i64 0)) := hideK ((Two.new wq.drew (.int .i64 0) (.int .i64 0) 42).keep b4); obtain ⟨_, g0, g1, g2, g3⟩ := T4.out; have c4 : Below wq.heap.size wq w4 := bup (bup (Below.refl _ wq).drew (bel1 wq.drew _)) b4)); have z4 := c4.size; obtain ⟨e0, e1, e2, e3, f0, f1, f2, f3⟩ := HK.out _ c4))
        all_goals first | go_wp2_with fail | skip
        all_goals go_meet
        all_goals first
          | exact ⟨_, rfl, rfl, z4, Two.new w4 _ _ _, bup c4 (bel1 _ _)⟩
          | exact ⟨_, rfl, rfl, Nat.le_refl _, T4.out.set, (c4.setCell (by simp) _).setCell (by simp) _⟩
      case rest =>
        obtain ⟨q, rfl, rfl, hq, hT, hbx⟩ := hcut
        generalize wc = X at *
        have HX := hideK (And.intro hq (And.intro hT hbx))
        clear hq hT hbx HK a0 a1 a2 a3 b0 b1 b2 b3 kA kB HC HO
        obtain ⟨_, k0, k1, _, _⟩ := HX.out.2.1
        have hzX := HX.out.2.2.size
        have hzw := HA.out.2.size
        by_cases hr : r.2 = 0
        · have hownX := own_growK HA.out.1 HX.out.2.2
          go_wp2_with (at_builtin; refine wpList_append_lies _ rfl _ _ 23 rfl w.heap.size 42 i0 _ 2 16 Try.underlying23 hI hz0 hz1 hz2 rfl (by decide) _ i (flatRt ((slL Q).take i)) rfl (hownX.alloc _) ⟨X.heap.size, 0, none⟩ 1 1 [.int .i64 r.1.N, .int .i64 r.1.D] rfl rfl (World.news_of_block (cs := #[.int .i64 r.1.N, .int .i64 r.1.D]) (t := 42) (fr := (0, 0)) (World.alloc_heap_new X _)) (by simp [Value.oneCell']) (by omega) (by unfold maxLen; omega) (by omega) (by simp; omega) (X.heap.size + 1) (by simp) ?_; intro gg cap2 w6 hown6 hgrow6 hat6 hlt6)
          go_roundw
          case rel =>
            refine ⟨j, by first | rfl | simp, by omega, ?_, by rw [HS.out, if_pos hr], ?_⟩
            · rw [HT.out, flatRt_app]
              rw [← hj]
              exact hown6
            · exact Below.grown ((HA.out.2.trans (HX.out.2.2.mono hzw)).alloc (by omega) _) hgrow6 (by rw [World.size_alloc]; omega) (fun k hk => (hownX.lt k hk).1)
          case measure => simp [intOf]; omega
        · have HR : Hid (slE Q = r.2) := hideK (by rw [HS.out, if_neg hr])
          go_wp2_with fail
          rw [← HP.out]
          have hE : newE Q = r.2 := by unfold newE; rw [if_neg (by rw [HCK.out]; simp), HR.out, if_pos hr]
          exact ⟨bup HA.out.2 HX.out.2.2, .inr ⟨by rw [hE]; exact hr, by rw [hE]; rfl⟩⟩
    case neg =>
    have hin : i + 1 = n := by omega
    have hE0 : slE Q = 0 := by rw [← hs]; exact slE_end (by rw [HN.out]; omega)
    have hSL : (slL Q).take i = slL Q := List.take_of_length_le (by rw [slL_len, HN.out]; omega)
    rw [hSL] at hown
    have HA := hideK (And.intro hown (And.intro hE0 hb))
    clear hown hs hb hSL hE0
    have d1 : ¬ ((i + 1 : Nat) : Int) < (n : Int) := by omega
    have d2 : ¬ (i : Int) + 1 < (n : Int) := by omega
    have HIn := hideK hin
    clear hin
    go_upto_region 12 with fail
    go_upto_if 55 with fail
    go_cut [5] (fun lv wx => wx.ownsRow w.heap.size 42 2 lv (rSl Q).length (flatRt (rSl Q)) ∧ Below w.heap.size w wx)
    case first => as_aux_lemma =>
      by_cases h1 : n = 1
      · obtain rfl : i = 0 := by have := HIn.out; omega
        have hr1 : rSl Q = [⟨1, 1⟩] := by unfold rSl; rw [if_pos (by rw [HN.out]; exact h1)]
        have hs1 : slL Q = [] := List.length_eq_zero_iff.1 (by rw [slL_len, HN.out]; omega)
        have HR := hideK (And.intro hr1 hs1)
        subst h1
        clear hr1 hs1
        go_wp2_with fail
        refine (rone6 wq).mono ?_
        rintro e w2 ⟨rfl, b2⟩
        have hownX := own_growK HA.out.1 b2
        have HB2 := hideK (bup HA.out.2.2 b2)
        have hzw := HB2.out.size
        clear b2
        go_wp2_with (at_builtin; refine wpList_append_lies _ rfl _ _ 23 rfl w.heap.size 42 i0 _ 2 16 Try.underlying23 hI hz0 hz1 hz2 rfl (by decide) _ 0 (flatRt (slL Q)) rfl (hownX.alloc _) ⟨w2.heap.size, 0, none⟩ 1 1 [.int .i64 1, .int .i64 1] rfl rfl (World.news_of_block (cs := #[.int .i64 1, .int .i64 1]) (t := 42) (fr := (0, 0)) (World.alloc_heap_new w2 _)) (by simp [Value.oneCell']) (by omega) (by unfold maxLen; omega) (by omega) (by simp; omega) (w2.heap.size + 1) (by simp) ?_; intro gg cap2 w6 hown6 hgrow6 hat6 hlt6)
        go_meet
        case rel =>
          refine ⟨?_, Below.grown (HB2.out.alloc (by omega) _) hgrow6 (by rw [World.size_alloc]; omega) (fun k hk => (hownX.lt k hk).1)⟩
          rw [HR.out.1]
          rw [HR.out.2] at hown6
          exact hown6
      · have hr1 : rSl Q = slL Q := by unfold rSl; rw [if_neg (by rw [HN.out]; exact h1)]
        have HR := hideK (And.intro hr1 (show (slL Q).length = i by rw [slL_len, HN.out]; have := HIn.out; omega))
        have d3 : ¬ (n : Int) = 1 := by omega
        clear hr1
        go_wp2_with fail
        go_meet
        case rel =>
          rw [HR.out.1, HR.out.2]
          exact ⟨HA.out.1, HA.out.2.2⟩
    case rest =>
    obtain ⟨hown, hbx⟩ := hcut
    obtain ⟨w3, rfl⟩ : ∃ X, X = wc := ⟨_, rfl⟩
    have HE0 := hideK HA.out.2.1
    obtain ⟨gs, cs, rfl, hgs1, hgs2⟩ := World.ownsRow.form hown (by rw [rsl_len, HN.out]; split <;> omega)
    have hsl : (rSl Q).length = if n = 1 then 1 else n - 1 := by rw [rsl_len, HN.out]
    have HSl := hideK hsl
    obtain ⟨ns, hns⟩ : ∃ k, (rSl Q).length = k := ⟨_, rfl⟩
    rw [hns] at hown hsl ⊢
    have HNs := hideK hns
    have HOS := hideK (And.intro hown hbx)
    have HS2 := hideK hsl
    clear hown hbx hns HA hsl
    go_wp2_with fail
    go_loopw [9, 10] (fun lv iv wq => ∃ (i : Nat) (I : List Nat) (P : List (Kn × Rt)), iv = .int .i64 (i : Nat) ∧ 1 ≤ i ∧ i ≤ n ∧ I.length ≤ i ∧ BnI Q I P ∧ P ++ bntK (Q.drop i) ((slsK Q).drop i) = bntK Q (slsK Q) ∧ (I = [] → (rSl Q)[i - 1]? = some ((slsK Q).headD (Rt.mk 1 1))) ∧ (∀ j : Nat, I[0]? = some j → (rSl Q)[j - 1]? = some ((slsK Q).headD (Rt.mk 1 1))) ∧ wq.ownsRow w3.heap.size 3 1 lv I.length (flatI I) ∧ Below w3.heap.size w3 wq) (fun _ iv _ => n - (intOf iv).toNat)
    case atStart => exact ⟨1, [], [], rfl, by omega, by omega, by simp, BnI.nil Q, bend_start (by rw [HN.out]; omega), fun _ => rsl_zero (by rw [HN.out]; omega), fun j h => (by cases h), World.ownsRow_nil _ _ _ _, Below.refl _ _⟩
    case round =>
      obtain ⟨i, I, P, rfl, hi1, hi, hIl, hBn, hP, hh0, hh1, hownI, hb⟩ := hrel
      obtain ⟨wq, rfl⟩ : ∃ wq, wq = wr := ⟨_, rfl⟩
      by_cases hlt2 : i + 1 < n
      case pos => as_aux_lemma =>
        obtain ⟨x, hx⟩ : ∃ x, Q[i]? = some x := ⟨_, List.getElem?_eq_getElem (by rw [HN.out]; omega)⟩
        have hsn : ns = n - 1 := by rw [HS2.out, if_neg (by omega)]
        obtain ⟨a, ha⟩ : ∃ x, (rSl Q)[i - 1]? = some x := ⟨_, List.getElem?_eq_getElem (by rw [HNs.out]; omega)⟩
        obtain ⟨b, hb'⟩ : ∃ x, (rSl Q)[i]? = some x := ⟨_, List.getElem?_eq_getElem (by rw [HNs.out]; omega)⟩
        have HST := hideK (bend_step hi1 (by rw [HN.out]; exact hlt2) hx ha hb')
        have HMr := hideK (hBn.more hi1 (by rw [HN.out]; exact hlt2) hx hb')
        have hownq := own_growK HOS.out.1 hb
        have k0 := (hownq.cellAt ((i - 1) * 2) (by omega)).trans (flatRt_get ha).1
        have k1 := (hownq.cellAt ((i - 1) * 2 + 1) (by omega)).trans (flatRt_get ha).2
        have k2 := (hownq.cellAt (i * 2) (by omega)).trans (flatRt_get hb').1
        have k3 := (hownq.cellAt (i * 2 + 1) (by omega)).trans (flatRt_get hb').2
        have hnq : ∀ W, (binOp .neq 42 (.agg #[.int .i64 a.N, .int .i64 a.D]) (.agg #[.int .i64 b.N, .int .i64 b.D])).run Try.prog W = .ok (.bool (!(a.N == b.N && a.D == b.D))) W := fun W => rt_neqK _ _ _ _ W
        have hbe : (!(a.N == b.N && a.D == b.D)) = bentB a b := rfl
        obtain ⟨z, hz⟩ : ∃ z, bentB a b = z := ⟨_, rfl⟩
        rw [hbe, hz] at hnq
        have HA := hideK (And.intro hBn (And.intro hP (And.intro hh0 (And.intro hh1 (And.intro hownI hb)))))
        have HX := hideK (And.intro hz (And.intro ha hb'))
        clear hBn hP hh0 hh1 hownI hb hz hx ha hb' hownq hbe
        have di : (i : Int) < (n : Int) := by omega
        have di1 : (i : Int) + 1 < (n : Int) := by omega
        have di2 : (i : Int) < (ns : Int) := by omega
        have di3 : ((i - 1 : Nat) : Int) < (ns : Int) := by omega
        clear hsn
        have wj : IntKind.i64.wrap ((i : Int) - 1) = ((i - 1 : Nat) : Int) := by rw [show ((i - 1 : Nat) : Int) = (i : Int) - 1 by omega]; exact IntWalk.i64_in _ ⟨by omega, by omega⟩
        have wk : IntKind.i64.wrap ((i : Int) + 1) = ((i + 1 : Nat) : Int) := by rw [show ((i + 1 : Nat) : Int) = (i : Int) + 1 by omega]; exact IntWalk.i64_in _ ⟨by omega, by omega⟩
        go_upto_region 18 with fail
        go_quiet (fail)
        clear k0 k1 k2 k3 hnq
        have HBq : Hid (Below wq.heap.size wq (wq.drewN nq)) := hideK (below_drewN (Below.refl _ _) _)
        generalize wq.drewN nq = W9 at *
        have hownX := own_growK HA.out.2.2.2.2.1 HBq.out
        have hzw := HA.out.2.2.2.2.2.size
        have hz9 := HBq.out.size
        cases z with
        | true =>
          go_wp2_with (at_builtin; refine wpList_append_lies _ rfl _ _ 61 rfl w3.heap.size 3 j0 _ 1 8 Try.underlying61 hJ hy0 hy1 hy2 rfl (by decide) _ I.length (flatI I) rfl (hownX.alloc _) ⟨W9.heap.size, 0, none⟩ 1 1 [.int .i64 (i : Int)] rfl rfl (World.news_of_block (cs := #[.int .i64 (i : Int)]) (t := 3) (fr := (0, 0)) (World.alloc_heap_new W9 _)) (by simp [Value.oneCell']) (by omega) (by unfold maxLen; omega) (by omega) (by simp; omega) (W9.heap.size + 1) (by simp) ?_; intro gg cap2 w6 hown6 hgrow6 hat6 hlt6)
          go_roundw
          case rel =>
            refine ⟨i + 1, I ++ [i], _, by first | rfl | simp, by omega, by omega, by simp; omega, HMr.out, ?_, fun h => absurd h (by simp), ?_, ?_, ?_⟩
            · rw [List.append_assoc, List.singleton_append, ← HA.out.2.1, HST.out, if_pos HX.out.1]
            · intro j hj
              cases I with
              | nil =>
                cases hj
                exact HA.out.2.2.1 rfl
              | cons y I => exact HA.out.2.2.2.1 j hj
            · rw [List.length_append]
              unfold flatI
              rw [List.map_append]
              exact hown6
            · exact Below.grown ((bup HA.out.2.2.2.2.2 HBq.out).alloc (by omega) _) hgrow6 (by rw [World.size_alloc]; omega) (fun k hk => (hownX.lt k hk).1)
          case measure => simp [intOf]; omega
        | false =>
          have hab : a = b := bent_not (by rw [HX.out.1]; simp)
          have HAB := hideK hab
          clear hab
          go_wp2_with fail
          go_roundw
          case rel =>
            refine ⟨i + 1, I, P, by first | rfl | simp, by omega, by omega, by omega, HA.out.1, ?_, ?_, HA.out.2.2.2.1, hownX, bup HA.out.2.2.2.2.2 HBq.out⟩
            · rw [← HA.out.2.1, HST.out, if_neg (by rw [HX.out.1]; simp)]
            · intro h
              rw [Nat.add_sub_cancel, HX.out.2.2, ← HAB.out, ← HX.out.2.1]
              exact HA.out.2.2.1 h
          case measure => simp [intOf]; omega
      case neg =>
      obtain ⟨oI, cI, rfl⟩ := own_slG hownI
      have hend : bntK (Q.drop i) ((slsK Q).drop i) = [] := bend_end hi1 (by rw [HN.out]; omega)
      rw [hend, List.append_nil] at hP
      have d5 : ¬ (i : Int) + 1 < (n : Int) := by omega
      have wk9 : IntKind.i64.wrap ((i : Int) + 1) = ((i + 1 : Nat) : Int) := by rw [show ((i + 1 : Nat) : Int) = (i : Int) + 1 by omega]; exact IntWalk.i64_in _ ⟨by omega, by omega⟩
      have d6 : ¬ ((i + 1 : Nat) : Int) < (n : Int) := by omega
      have HBn := hideK (And.intro hBn (And.intro hP hh1))
      have HOI := hideK (And.intro hownI hb)
      clear hend hBn hP hh0 hh1 hownI hb
      by_cases hI0 : I.length = 0
      case pos => as_aux_lemma =>
        have hI : I = [] := List.length_eq_zero_iff.1 hI0
        have hb0 : bntK Q (slsK Q) = [] := by
          rw [← HBn.out.2.1]
          exact List.length_eq_zero_iff.1 (by rw [HBn.out.1.len, hI0])
        rw [hI0]
        obtain ⟨a, hQa⟩ : ∃ a, Q[0]? = some a := ⟨_, List.getElem?_eq_getElem (by rw [HN.out]; omega)⟩
        obtain ⟨T, rfl⟩ : ∃ T, Q = a :: T := by
          cases Q with
          | nil => cases hQa
          | cons y T => cases hQa; exact ⟨T, rfl⟩
        obtain ⟨s0, hs0⟩ : ∃ s0, (slsK (a :: T)).headD ⟨1, 1⟩ = s0 := ⟨_, rfl⟩
        have hsz := rsl_zero (L := a :: T) (by simp)
        rw [hs0] at hsz
        have ha := HQ.out a (List.mem_cons_self ..)
        have hsi := rsl_in HQ.out s0 (List.mem_of_getElem? hsz)
        obtain ⟨r0, hr0⟩ : ∃ r, recA mulA ⟨0, 1⟩ a.i a.o s0 = r := ⟨_, rfl⟩
        obtain ⟨r1, hr1⟩ : ∃ r, recA mulA ⟨1, 1⟩ a.i a.o s0 = r := ⟨_, rfl⟩
        obtain ⟨hE, hK⟩ := new_nil HCK.out HE0.out hb0 (r0 := r0) (r1 := r1) (by rw [hs0, hr0]) (by rw [hs0, hr1])
        have hsl2 := own_sl (L := a :: T)
        rw [hb0, hs0, hK] at hsl2
        have HRes := hideK (And.intro hE (And.intro hK hsl2))
        have HA0 := hideK (fun (W : World) => rat_any a s0 ⟨0, 1⟩ ha hsi zero_in W)
        have HA1 := hideK (fun (W : World) => rat_any a s0 ⟨1, 1⟩ ha hsi one_in W)
        rw [hr0] at HA0
        rw [hr1] at HA1
        have HR0 := hideK (And.intro hr0 hr1)
        obtain ⟨A, rfl, hA, a0, a1, a2, a3⟩ := (HO.out.keep (bup HOS.out.2 HOI.out.2)).get (i := 0) (x := a) rfl
        rw [addK4] at a0 a1 a2 a3
        have hownq := own_growK HOS.out.1 HOI.out.2
        have hns1 : 1 ≤ ns := by have := HS2.out; split at this <;> omega
        have k0 := (hownq.cellAt 0 (by omega)).trans (flatRt_get hsz).1
        have k1 := (hownq.cellAt 1 (by omega)).trans (flatRt_get hsz).2
        have hAq := hA
        have hgs9 : gs < wq.heap.size := (hownq.lt gs rfl).2
        have hbelow := bup HOS.out.2 HOI.out.2
        have HBw := hideK hbelow
        have dn : (0 : Int) < (n : Int) := by omega
        have dns : (0 : Int) < (ns : Int) := by omega
        have dnN : 0 < n := by omega
        have dnsN : 0 < ns := by omega
        have HK : Hid (∀ W, Below wq.heap.size wq W → W.cell? A = some (.int .i64 a.i.N) ∧ W.cell? ⟨A.block, A.off + 1, none⟩ = some (.int .i64 a.i.D) ∧ W.cell? ⟨A.block, A.off + 2, none⟩ = some (.int .i64 a.o.N) ∧ W.cell? ⟨A.block, A.off + 3, none⟩ = some (.int .i64 a.o.D) ∧ W.cell? ⟨gs, 0, none⟩ = some (.int .i64 s0.N) ∧ W.cell? ⟨gs, 1, none⟩ = some (.int .i64 s0.D)) := hideK (fun W q => ⟨(q.cell hA).trans a0, (q.cell (p := ⟨A.block, A.off + 1, none⟩) hA).trans a1, (q.cell (p := ⟨A.block, A.off + 2, none⟩) hA).trans a2, (q.cell (p := ⟨A.block, A.off + 3, none⟩) hA).trans a3, (q.cell (p := ⟨gs, 0, none⟩) hgs9).trans k0, (q.cell (p := ⟨gs, 1, none⟩) hgs9).trans k1⟩)
        clear a0 a1 a2 a3 k0 k1 hE hK hsl2 hr0 hr1 hs0 hsz ha hsi hb0 hI hQa hownq hbelow
        go_upto_region 21 with fail
        refine regG21 (by kernel_rfl) dnN dnsN HK.out HA0.out ?_
        intro z84 z85 z86 z87 z88 z89 z90 z91 z92 z93 z94 q1 X1 hq1 hF1 hb1
        have H1 := hideK (And.intro hq1 (And.intro hF1 hb1))
        clear hq1 hF1 hb1
        by_cases he0 : r0.2 = 0
        case neg =>
          have hE : newE (a :: T) = r0.2 := by rw [HRes.out.1, if_pos he0]
          have HE := hideK (And.intro hE he0)
          clear hE
          go_wp2_with fail
          rw [← HP.out]
          exact ⟨bup HBw.out H1.out.2.2, .inr ⟨by rw [HE.out.1]; exact HE.out.2, by rw [HE.out.1]⟩⟩
        case pos =>
        go_upto_region 24 with fail
        refine regG24 (by kernel_rfl) dnN dnsN (fun W q => HK.out W (bup H1.out.2.2 q)) HA1.out ?_
        intro z98 z99 z100 z101 z102 z103 z104 z105 z106 z107 z108 q2 X2 hq2 hF2 hb2
        have H2 := hideK (And.intro hq2 (And.intro hF2 (And.intro (bup H1.out.2.2 hb2) (H1.out.2.1.keep hb2))))
        clear hq2 hF2 hb2
        by_cases he1 : r1.2 = 0
        case neg =>
          have hE : newE (a :: T) = r1.2 := by rw [HRes.out.1, if_neg (fun e => e he0), if_pos he1]
          have HE := hideK (And.intro hE he1)
          clear hE
          go_wp2_with fail
          rw [← HP.out]
          exact ⟨bup HBw.out H2.out.2.2.1, .inr ⟨by rw [HE.out.1]; exact HE.out.2, by rw [HE.out.1]⟩⟩
        case pos =>
        go_upto_region 27 with fail
        have HK2 : Hid (∀ w', Below X2.heap.size X2 w' → w'.cell? ⟨q1, 0, none⟩ = some (.int .i64 0) ∧ w'.cell? ⟨q1, 1, none⟩ = some (.int .i64 1) ∧ w'.cell? ⟨q1, 2, none⟩ = some (.int .i64 r0.1.N) ∧ w'.cell? ⟨q1, 3, none⟩ = some (.int .i64 r0.1.D) ∧ w'.cell? ⟨q2, 0, none⟩ = some (.int .i64 1) ∧ w'.cell? ⟨q2, 1, none⟩ = some (.int .i64 1) ∧ w'.cell? ⟨q2, 2, none⟩ = some (.int .i64 r1.1.N) ∧ w'.cell? ⟨q2, 3, none⟩ = some (.int .i64 r1.1.D) ∧ w'.cell? ⟨gs, 0, none⟩ = some (.int .i64 s0.N) ∧ w'.cell? ⟨gs, 1, none⟩ = some (.int .i64 s0.D)) := hideK (fun w' q => by
          obtain ⟨_, e0, e1, e2, e3, _⟩ := H2.out.2.2.2.keep q
          obtain ⟨_, g0, g1, g2, g3, _⟩ := H2.out.2.1.keep q
          obtain ⟨_, _, _, _, k0, k1⟩ := HK.out w' (bup H2.out.2.2.1 q)
          exact ⟨e0, e1, e2, e3, g0, g1, g2, g3, k0, k1⟩)
        refine regG27 (x := ⟨⟨0, 1⟩, r0.1⟩) (y := ⟨⟨1, 1⟩, r1.1⟩) (by kernel_rfl) dnsN ⟨zero_in, by rw [← HR0.out.1]; exact recA_in _ _ _ _ _⟩ ⟨one_in, by rw [← HR0.out.2]; exact recA_in _ _ _ _ _⟩ HK2.out ?_
        intro z112 z113 z114 z115 z116 z117 z118 z119 z120 z121 z122 z123 p er B9 X3 hB9 hS9 hb9
        have hE : newE (a :: T) = er := by rw [HRes.out.1, if_neg (fun e => e he0), if_neg (fun e => e he1), hS9.1]
        have H3 := hideK (And.intro hE (And.intro hB9 (And.intro hS9 (bup HBw.out (bup H2.out.2.2.1 hb9)))))
        clear hE hB9 hS9 hb9 he0 he1
        by_cases her : er = 0
        case pos =>
          obtain ⟨rfl, hM9⟩ := H3.out.2.2.1.2.1 her
          have HM9 := hideK (And.intro her hM9)
          clear her hM9
          go_wp2_with fail
          rw [← HP.out]
          have hzz := (bup HBw.out H2.out.2.2.1).size
          have h0 : newE (a :: T) = 0 := by rw [H3.out.1, HM9.out.1]
          refine ⟨H3.out.2.2.2, .inl ⟨h0, B9, by rw [HM9.out.1], by have := H3.out.2.1; omega, ?_⟩⟩
          rw [HRes.out.2.1, HRes.out.2.2 h0]
          exact HM9.out.2
        case neg =>
          obtain rfl := H3.out.2.2.1.2.2 her
          have HE := hideK her
          clear her
          go_wp2_with fail
          rw [← HP.out]
          exact ⟨H3.out.2.2.2, .inr ⟨by rw [H3.out.1]; exact HE.out, by rw [H3.out.1]⟩⟩
      case neg =>
      have d7 : ¬ (I.length : Int) = 0 := by omega
      obtain ⟨i0, It, rfl⟩ : ∃ a T, I = a :: T := by
        cases I with
        | nil => exact absurd rfl hI0
        | cons a T => exact ⟨a, T, rfl⟩
      obtain ⟨p, Pt, rfl⟩ : ∃ a T, P = a :: T := by
        cases P with
        | nil => have := HBn.out.1.len; simp at this
        | cons a T => exact ⟨a, T, rfl⟩
      have hlenP : Pt.length = It.length := by have := HBn.out.1.len; simpa using this
      obtain ⟨hf1, hf2, x0, s1, hx0, hs1, hp0⟩ := HBn.out.1.at_ 0 i0 rfl
      cases hp0
      obtain ⟨il, hil⟩ : ∃ il, (i0 :: It)[It.length]? = some il := ⟨_, last_G It i0⟩
      obtain ⟨hg1, hg2, xl, sl, hxl, hsl2, hpl⟩ := HBn.out.1.at_ It.length il hil
      have hlast : Pt.getLastD (x0, s1) = (xl, sl) := by
        have := last_G Pt (x0, s1)
        rw [hlenP, hpl] at this
        exact (Option.some.inj this).symm
      have hh := HBn.out.2.2 i0 rfl
      rw [HN.out] at hf2 hg2
      obtain ⟨s0, hs0⟩ : ∃ s0, (slsK Q).headD ⟨1, 1⟩ = s0 := ⟨_, rfl⟩
      rw [hs0] at hh
      have hb9 := HBn.out.2.1
      obtain ⟨t0, ht0⟩ : ∃ r, subA x0.i ⟨1, 1⟩ = r := ⟨_, rfl⟩
      obtain ⟨r0, hr0⟩ : ∃ r, recA mulA t0.1 x0.i x0.o s0 = r := ⟨_, rfl⟩
      obtain ⟨t1, ht1⟩ : ∃ r, addA xl.i ⟨1, 1⟩ = r := ⟨_, rfl⟩
      obtain ⟨r1, hr1⟩ : ∃ r, recA mulA t1.1 xl.i xl.o sl = r := ⟨_, rfl⟩
      obtain ⟨hE, hK⟩ := new_cons (t0 := t0) (t1 := t1) (r0 := r0) (r1 := r1) HCK.out HE0.out hb9.symm ht0 (by rw [hs0]; exact hr0) (by rw [hlast]; exact ht1) (by rw [hlast]; exact hr1)
      have hsl9 := own_sl (L := Q)
      rw [← hb9, hs0] at hsl9
      have HRes := hideK (And.intro hE (And.intro hK hsl9))
      have hx0i := HQ.out x0 (List.mem_of_getElem? hx0)
      have hxli := HQ.out xl (List.mem_of_getElem? hxl)
      have hs0i := rsl_in HQ.out s0 (List.mem_of_getElem? hh)
      have hsli := rsl_in HQ.out sl (List.mem_of_getElem? hsl2)
      have ht0i : RtIn t0.1 := by rw [← ht0]; exact subA_inK _ _
      have ht1i : RtIn t1.1 := by rw [← ht1]; exact addA_inK _ _
      have HKi : Hid (KnIn ⟨t0.1, r0.1⟩ ∧ KnIn ⟨t1.1, r1.1⟩) := hideK ⟨⟨ht0i, by rw [← hr0]; exact recA_in _ _ _ _ _⟩, ht1i, by rw [← hr1]; exact recA_in _ _ _ _ _⟩
      have HSb : Hid (∀ V : World, Calls Try.prog 31 #[.agg #[.int .i64 x0.i.N, .int .i64 x0.i.D], .agg #[.int .i64 1, .int .i64 1]] V fun e w' => e = .returned (.tuple #[.agg #[.int .i64 t0.1.N, .int .i64 t0.1.D], .int .i64 t0.2]) ∧ Below V.heap.size V w') := hideK (by rw [← ht0]; exact rsub_any x0.i ⟨1, 1⟩ hx0i.1 one_in)
      have HAd : Hid (∀ V : World, Calls Try.prog 32 #[.agg #[.int .i64 xl.i.N, .int .i64 xl.i.D], .agg #[.int .i64 1, .int .i64 1]] V fun e w' => e = .returned (.tuple #[.agg #[.int .i64 t1.1.N, .int .i64 t1.1.D], .int .i64 t1.2]) ∧ Below V.heap.size V w') := hideK (by rw [← ht1]; exact radd_any xl.i ⟨1, 1⟩ hxli.1 one_in)
      have HA0 := hideK (fun (W : World) => rat_any x0 s0 t0.1 hx0i hs0i ht0i W)
      have HA1 := hideK (fun (W : World) => rat_any xl sl t1.1 hxli hsli ht1i W)
      rw [hr0] at HA0
      rw [hr1] at HA1
      obtain ⟨gI, cI', eI, hgI, -⟩ := World.ownsRow.form HOI.out.1 (by simp)
      cases eI
      have hownq := own_growK HOS.out.1 HOI.out.2
      have hsn : ns = n - 1 := by rw [HS2.out, if_neg (by omega)]
      have HIx := hideK (And.intro hf1 (And.intro hf2 (And.intro hg1 hg2)))
      have g0 := (HOI.out.1.cellAt 0 (by simp)).trans (show (flatI (i0 :: It))[0]? = some (.int .i64 (i0 : Int)) from rfl)
      have g1 := (HOI.out.1.cellAt It.length (by simp)).trans (show (flatI (i0 :: It))[It.length]? = some (.int .i64 (il : Int)) by unfold flatI; rw [List.getElem?_map, hil]; rfl)
      obtain ⟨kI, hkI⟩ : ∃ k, It.length = k := ⟨_, rfl⟩
      have HkI := hideK hkI
      have hi0l : i0 < n := by omega
      have hill : il < n := by omega
      have hkle : kI ≤ 100 := by rw [← hkI]; have := hIl; simp at this; omega
      rw [hkI] at g1
      rw [List.length_cons, hkI]
      have d8 : (0 : Int) < (kI : Int) + 1 := by omega
      have d9 : (kI : Int) < (kI : Int) + 1 := by omega
      have wl : IntKind.i64.wrap ((kI : Int) + 1 - 1) = (kI : Int) := by rw [show (kI : Int) + 1 - 1 = (kI : Int) by omega]; exact IntWalk.i64_in _ ⟨by omega, by omega⟩
      have wl2 : IntKind.i64.wrap (kI : Int) = (kI : Int) := IntWalk.i64_in _ ⟨by omega, by omega⟩
      clear hE hK hsl9 hb9 hs0 hr0 hr1 ht0 ht1 hkI hlast hpl hil hlenP hI0 d7 hIl
      obtain ⟨A, rfl, hA, a0, a1, a2, a3⟩ := (HO.out.keep (bup HOS.out.2 HOI.out.2)).get hx0
      obtain ⟨A', hA', -, b0, b1, b2, b3⟩ := (HO.out.keep (bup HOS.out.2 HOI.out.2)).get hxl
      cases hA'
      have k0 := (hownq.cellAt ((i0 - 1) * 2) (by omega)).trans (flatRt_get hh).1
      have k1 := (hownq.cellAt ((i0 - 1) * 2 + 1) (by omega)).trans (flatRt_get hh).2
      have l0 := (hownq.cellAt (il * 2) (by omega)).trans (flatRt_get hsl2).1
      have l1 := (hownq.cellAt (il * 2 + 1) (by omega)).trans (flatRt_get hsl2).2
      have hgs9 : gs < wq.heap.size := (hownq.lt gs rfl).2
      have HKa : Hid (∀ W' : World, (∀ k, k < wq.heap.size → W'.heap[k]? = wq.heap[k]?) → (W'.cell? (A.add (i0 * 4)) = some (.int .i64 x0.i.N) ∧ W'.cell? ⟨(A.add (i0 * 4)).block, (A.add (i0 * 4)).off + 1, none⟩ = some (.int .i64 x0.i.D) ∧ W'.cell? ⟨(A.add (i0 * 4)).block, (A.add (i0 * 4)).off + 2, none⟩ = some (.int .i64 x0.o.N) ∧ W'.cell? ⟨(A.add (i0 * 4)).block, (A.add (i0 * 4)).off + 3, none⟩ = some (.int .i64 x0.o.D)) ∧ (W'.cell? (A.add (il * 4)) = some (.int .i64 xl.i.N) ∧ W'.cell? ⟨(A.add (il * 4)).block, (A.add (il * 4)).off + 1, none⟩ = some (.int .i64 xl.i.D) ∧ W'.cell? ⟨(A.add (il * 4)).block, (A.add (il * 4)).off + 2, none⟩ = some (.int .i64 xl.o.N) ∧ W'.cell? ⟨(A.add (il * 4)).block, (A.add (il * 4)).off + 3, none⟩ = some (.int .i64 xl.o.D)) ∧ (W'.cell? ⟨gs, (i0 - 1) * 2, none⟩ = some (.int .i64 s0.N) ∧ W'.cell? ⟨gs, (i0 - 1) * 2 + 1, none⟩ = some (.int .i64 s0.D)) ∧ (W'.cell? ⟨gs, il * 2, none⟩ = some (.int .i64 sl.N) ∧ W'.cell? ⟨gs, il * 2 + 1, none⟩ = some (.int .i64 sl.D))) := hideK (fun W' q => by
        have qa : ∀ (a : Addr), a.block < wq.heap.size → W'.cell? a = wq.cell? a := fun a ha => World.cell?_of_block (q a.block ha)
        have hA4 : ∀ j, (A.add j).block < wq.heap.size := fun j => by rw [addrN_block]; exact hA
        exact ⟨⟨(qa _ (hA4 _)).trans a0, (qa ⟨(A.add (i0 * 4)).block, _, none⟩ (hA4 _)).trans a1, (qa ⟨(A.add (i0 * 4)).block, _, none⟩ (hA4 _)).trans a2, (qa ⟨(A.add (i0 * 4)).block, _, none⟩ (hA4 _)).trans a3⟩,
          ⟨(qa _ (hA4 _)).trans b0, (qa ⟨(A.add (il * 4)).block, _, none⟩ (hA4 _)).trans b1, (qa ⟨(A.add (il * 4)).block, _, none⟩ (hA4 _)).trans b2, (qa ⟨(A.add (il * 4)).block, _, none⟩ (hA4 _)).trans b3⟩,
          ⟨(qa ⟨gs, _, none⟩ hgs9).trans k0, (qa ⟨gs, _, none⟩ hgs9).trans k1⟩, (qa ⟨gs, _, none⟩ hgs9).trans l0, (qa ⟨gs, _, none⟩ hgs9).trans l1⟩)
      have HBq := hideK (bup HOS.out.2 HOI.out.2)
      have e1 : (i0 : Int) < (n : Int) := by omega
      have e2 : (il : Int) < (n : Int) := by omega
      have e3 : ((i0 - 1 : Nat) : Int) < (ns : Int) := by omega
      have e4 : (il : Int) < (ns : Int) := by omega
      have wi : IntKind.i64.wrap ((i0 : Int) - 1) = ((i0 - 1 : Nat) : Int) := by rw [show ((i0 - 1 : Nat) : Int) = (i0 : Int) - 1 by omega]; exact IntWalk.i64_in _ ⟨by omega, by omega⟩
      clear a0 a1 a2 a3 b0 b1 b2 b3 k0 k1 l0 l1 hsn hx0 hxl hs1 hsl2 hh hownq
      go_upto_region 30 with fail
      refine regG30 (a := x0) (r := t0) (by kernel_rfl) e1 (fun w' q => ⟨(HKa.out w' (fun k hk => q.block k hk)).1.1, (HKa.out w' (fun k hk => q.block k hk)).1.2.1⟩) HSb.out ?_
      intro z133 z134 z135 z136 z137 z138 z139 z140 z141 z142 qt X1 hqt hT1 hb1
      have H1 := hideK (And.intro hqt (And.intro hT1 hb1))
      clear hqt hT1 hb1
      by_cases ht0 : t0.2 = 0
      case neg => as_aux_lemma =>
        have hE : newE Q = t0.2 := by rw [HRes.out.1, if_pos ht0]
        have HE := hideK (And.intro hE ht0)
        clear hE
        go_wp2_with fail
        rw [← HP.out]
        exact ⟨bup HBq.out H1.out.2.2, .inr ⟨by rw [HE.out.1]; exact HE.out.2, by rw [HE.out.1]⟩⟩
      case pos =>
      go_upto_region 33 with fail
      refine regG33 (a := x0) (s0 := s0) (t := t0.1) (r := r0) (k := i0 - 1) (by kernel_rfl) e1 e3 wi (fun w' q => by
        obtain ⟨k1, -, k2, -⟩ := HKa.out w' (fun k hk => (bup H1.out.2.2 q).block k hk)
        obtain ⟨_, c0, c1, _, _⟩ := H1.out.2.1.keep q
        exact ⟨k1.1, k1.2.1, k1.2.2.1, k1.2.2.2, k2.1, k2.2, c0, c1⟩) HA0.out ?_
      intro z146 z147 z148 z149 z150 z151 z152 z153 z154 z155 z156 z157 z158 z159 q1 X2 hq1 hF1 hb2
      have H2 := hideK (And.intro hq1 (And.intro hF1 (And.intro (bup H1.out.2.2 hb2) (H1.out.2.1.keep hb2))))
      clear hq1 hF1 hb2
      by_cases hr0 : r0.2 = 0
      case neg => as_aux_lemma =>
        have hE : newE Q = r0.2 := by rw [HRes.out.1, if_neg (fun e => e ht0), if_pos hr0]
        have HE := hideK (And.intro hE hr0)
        clear hE
        go_wp2_with fail
        rw [← HP.out]
        exact ⟨bup HBq.out H2.out.2.2.1, .inr ⟨by rw [HE.out.1]; exact HE.out.2, by rw [HE.out.1]⟩⟩
      case pos =>
      go_upto_region 36 with fail
      have hqn : q1 ≠ qt := by have z1 := H2.out.1; have z2 := H1.out.2.1.1; omega
      refine regG36 (a := xl) (t := t0) (r := t1) (by kernel_rfl) e2 H2.out.2.2.2 (fun w' q => by
        obtain ⟨-, k1, -, -⟩ := HKa.out w' (fun k hk => (q.same k (Nat.lt_of_lt_of_le hk H2.out.2.2.1.size) (by have := H1.out.1; omega)).trans (H2.out.2.2.1.block k hk))
        exact ⟨k1.1, k1.2.1⟩) HAd.out ?_
      intro z163 z164 z165 z166 z167 z168 z169 z170 z171 z172 X3 hT3 hB3
      have H3 := hideK (And.intro hT3 (And.intro (H2.out.2.1.but hB3 hqn) (H2.out.2.2.1.trans (hB3.below H2.out.2.2.1.size (fun k hk => by have := H1.out.1; omega)))))
      clear hT3 hB3
      by_cases ht1 : t1.2 = 0
      case neg => as_aux_lemma =>
        have hE : newE Q = t1.2 := by rw [HRes.out.1, if_neg (fun e => e ht0), if_neg (fun e => e hr0), if_pos ht1]
        have HE := hideK (And.intro hE ht1)
        clear hE
        go_wp2_with fail
        rw [← HP.out]
        exact ⟨bup HBq.out H3.out.2.2, .inr ⟨by rw [HE.out.1]; exact HE.out.2, by rw [HE.out.1]⟩⟩
      case pos =>
      go_upto_region 39 with fail
      refine regG39 (a := xl) (s0 := sl) (t := t1.1) (r := r1) (by kernel_rfl) e2 e4 (fun w' q => by
        obtain ⟨-, k1, -, k2⟩ := HKa.out w' (fun k hk => (bup H3.out.2.2 q).block k hk)
        obtain ⟨_, c0, c1, _, _⟩ := H3.out.1.keep q
        exact ⟨k1.1, k1.2.1, k1.2.2.1, k1.2.2.2, k2.1, k2.2, c0, c1⟩) HA1.out ?_
      intro z176 z177 z178 z179 z180 z181 z182 z183 z184 z185 z186 z187 z188 q2 X4 hq2 hF2 hb4
      have H4 := hideK (And.intro hq2 (And.intro hF2 (And.intro (bup H3.out.2.2 hb4) (H3.out.2.1.keep hb4))))
      clear hq2 hF2 hb4
      by_cases hr1 : r1.2 = 0
      case neg => as_aux_lemma =>
        have hE : newE Q = r1.2 := by rw [HRes.out.1, if_neg (fun e => e ht0), if_neg (fun e => e hr0), if_neg (fun e => e ht1), if_pos hr1]
        have HE := hideK (And.intro hE hr1)
        clear hE
        go_wp2_with fail
        rw [← HP.out]
        exact ⟨bup HBq.out H4.out.2.2.1, .inr ⟨by rw [HE.out.1]; exact HE.out.2, by rw [HE.out.1]⟩⟩
      case pos =>
      go_upto_region 42 with fail
      refine regG42 (x := ⟨t0.1, r0.1⟩) (s0 := s0) (k := i0 - 1) (by kernel_rfl) e3 wi (fun w' q => by
        obtain ⟨-, -, k2, -⟩ := HKa.out w' (fun k hk => (bup H4.out.2.2.1 q).block k hk)
        obtain ⟨_, c0, c1, c2, c3, _⟩ := H4.out.2.2.2.keep q
        exact ⟨c0, c1, c2, c3, k2.1, k2.2⟩) ?_
      intro z192 z193 z194 z195 z196 z197 z198 z199 z200 z201 vK vS R X5 hR5 hM5 hb5
      have H5 := hideK (And.intro hR5 (And.intro hM5 (And.intro (bup H4.out.2.2.1 hb5) (H4.out.2.1.keep hb5))))
      clear hR5 hM5 hb5
      obtain ⟨D, hD⟩ : ∃ D, X4.heap.size = D := ⟨_, rfl⟩
      have hqD : q2 < D := by rw [← hD]; exact H4.out.2.1.1
      have hwD : wq.heap.size ≤ D := by rw [← hD]; exact H4.out.2.2.1.size
      rw [hD] at H5
      clear hD
      have hRD := H5.out.1
      go_wp2_with fail
      go_loopw [21] (fun iv wz => ∃ (i : Nat) (v u : Value), iv = .int .i64 (i : Nat) ∧ i ≤ kI + 1 ∧ RMapO wz D R v u (⟨t0.1, r0.1⟩ :: (((x0, s1) :: Pt).take i).map (·.1)) (s0 :: (((x0, s1) :: Pt).take i).map (·.2)) ∧ Below wq.heap.size wq wz ∧ D ≤ wz.heap.size ∧ Four wz q2 (.int .i64 t1.1.N) (.int .i64 t1.1.D) (.int .i64 r1.1.N) (.int .i64 r1.1.D)) (fun iv _ => kI + 1 - (intOf iv).toNat)
      case atStart => exact ⟨0, vK, vS, rfl, Nat.zero_le _, H5.out.2.1, H5.out.2.2.1, by have := H5.out.2.1.lt; omega, H5.out.2.2.2⟩
      case round =>
        obtain ⟨i, v, u, rfl, hi, hmo, hb, hDz, hF⟩ := hrel
        obtain ⟨wz, rfl⟩ : ∃ wz, wz = wr := ⟨_, rfl⟩
        have HA := hideK (And.intro hmo (And.intro hb (And.intro hDz hF)))
        clear hmo hb hDz hF
        by_cases hlt : i < kI + 1
        case pos => as_aux_lemma =>
          obtain ⟨j, hj⟩ : ∃ j, (i0 :: It)[i]? = some j := ⟨_, List.getElem?_eq_getElem (by rw [List.length_cons, HkI.out]; exact hlt)⟩
          obtain ⟨hj1, hj2, x, s, hx, hs, hp⟩ := HBn.out.1.at_ i j hj
          rw [HN.out] at hj2
          have HPt := hideK hp
          have hjs : j < ns := by have := HS2.out; split at this <;> omega
          have hKB : Hid (∀ w', Below wq.heap.size wq w' → w'.cell? ⟨gI, i, none⟩ = some (.int .i64 (j : Nat)) ∧ (w'.cell? (A.add (j * 4)) = some (.int .i64 x.i.N) ∧ w'.cell? ⟨(A.add (j * 4)).block, (A.add (j * 4)).off + 1, none⟩ = some (.int .i64 x.i.D) ∧ w'.cell? ⟨(A.add (j * 4)).block, (A.add (j * 4)).off + 2, none⟩ = some (.int .i64 x.o.N) ∧ w'.cell? ⟨(A.add (j * 4)).block, (A.add (j * 4)).off + 3, none⟩ = some (.int .i64 x.o.D)) ∧ w'.cell? ⟨gs, j * 2, none⟩ = some (.int .i64 s.N) ∧ w'.cell? ⟨gs, j * 2 + 1, none⟩ = some (.int .i64 s.D)) := hideK (by
            intro w' q
            obtain ⟨A', hA', hAb, a0, a1, a2, a3⟩ := (HO.out.keep (bup HOS.out.2 HOI.out.2)).get hx
            cases hA'
            have hownq := own_growK HOS.out.1 HOI.out.2
            have l0 := (hownq.cellAt (j * 2) (by omega)).trans (flatRt_get hs).1
            have l1 := (hownq.cellAt (j * 2 + 1) (by omega)).trans (flatRt_get hs).2
            have hgI9 : gI < wq.heap.size := (HOI.out.1.lt gI rfl).2
            have g0 := (HOI.out.1.cellAt i (by rw [List.length_cons, HkI.out]; omega)).trans (show (flatI (i0 :: It))[i]? = some (.int .i64 (j : Int)) by unfold flatI; rw [List.getElem?_map, hj]; rfl)
            have hA4 : (A.add (j * 4)).block < wq.heap.size := by rw [addrN_block]; exact hA
            exact ⟨(q.cell (p := ⟨gI, i, none⟩) hgI9).trans g0, ⟨(q.cell hA4).trans a0, (q.cell (p := ⟨(A.add (j * 4)).block, _, none⟩) hA4).trans a1, (q.cell (p := ⟨(A.add (j * 4)).block, _, none⟩) hA4).trans a2, (q.cell (p := ⟨(A.add (j * 4)).block, _, none⟩) hA4).trans a3⟩, (q.cell (p := ⟨gs, _, none⟩) hgs9).trans l0, (q.cell (p := ⟨gs, _, none⟩) hgs9).trans l1⟩)
          have di : (i : Int) < (kI : Int) + 1 := by omega
          have wk : IntKind.i64.wrap ((i : Int) + 1) = ((i + 1 : Nat) : Int) := by rw [show ((i + 1 : Nat) : Int) = (i : Int) + 1 by omega]; exact IntWalk.i64_in _ ⟨by omega, by omega⟩
          have e7 : (i : Int) < ((kI + 1 : Nat) : Int) := by omega
          have e8 : (j : Int) < (n : Int) := by omega
          have e9 : (j : Int) < (ns : Int) := by omega
          clear hj hx hs hp hj1 hj2
          go_upto_region 46 with fail
          refine regG46 (x := x) (i := i) (j := j) (by kernel_rfl) e7 e8 (by simp; omega) HA.out.1 HA.out.2.2.1 hRD (fun w' q => ⟨(hKB.out w' (bup HA.out.2.1 q)).1, (hKB.out w' (bup HA.out.2.1 q)).2.1⟩) ?_
          intro z208 z209 z210 z211 z212 z213 z214 z215 z216 z217 z218 z219 z220 z221 z222 z223 v1 X6 hm6 hb6
          have H6 : Hid (RMapO X6 D R v1 u (⟨t0.1, r0.1⟩ :: (((x0, s1) :: Pt).take i).map (·.1) ++ [x]) (s0 :: (((x0, s1) :: Pt).take i).map (·.2)) ∧ Below D wz X6 ∧ D ≤ X6.heap.size ∧ Below wq.heap.size wq X6) := hideK ⟨hm6, hb6, Nat.le_trans HA.out.2.2.1 hb6.size, HA.out.2.1.trans (hb6.mono hwD)⟩
          clear hm6 hb6
          go_upto_region 47 with fail
          refine regG47 (b := s) (i := i) (j := j) (by kernel_rfl) e7 e9 (by simp; omega) H6.out.1 H6.out.2.2.1 hRD (fun w' q => ⟨(hKB.out w' (bup H6.out.2.2.2 q)).1, (hKB.out w' (bup H6.out.2.2.2 q)).2.2⟩) ?_
          intro z224 z225 z226 z227 z228 z229 z230 z231 z232 z233 z234 z235 z236 z237 z238 z239 v2 X7 hm7 hb7
          have H7 : Hid (RMapO X7 D R v1 v2 (⟨t0.1, r0.1⟩ :: (((x0, s1) :: Pt).take i).map (·.1) ++ [x]) (s0 :: (((x0, s1) :: Pt).take i).map (·.2) ++ [s]) ∧ Below D wz X7 ∧ D ≤ X7.heap.size ∧ Below wq.heap.size wq X7) := hideK ⟨hm7, H6.out.2.1.trans hb7, Nat.le_trans H6.out.2.2.1 hb7.size, H6.out.2.2.2.trans (hb7.mono hwD)⟩
          clear hm7 hb7
          go_wp2_with fail
          go_roundw
          case rel =>
            refine ⟨i + 1, v1, v2, by first | rfl | simp, by omega, ?_, H7.out.2.2.2, H7.out.2.2.1, HA.out.2.2.2.low H7.out.2.1 hqD⟩
            rw [List.take_add_one, HPt.out, Option.toList_some, List.map_append, List.map_append]
            exact H7.out.1
          case measure => simp [intOf]; omega
        case neg =>
        obtain rfl : i = kI + 1 := by omega
        have hPl : ((x0, s1) :: Pt).take (kI + 1) = (x0, s1) :: Pt := List.take_of_length_le (by rw [HBn.out.1.len, List.length_cons, HkI.out]; exact Nat.le_refl _)
        rw [hPl] at HA
        have di : ¬ ((kI + 1 : Nat) : Int) < (kI : Int) + 1 := by omega
        have di2 : ¬ (kI : Int) + 1 < (kI : Int) + 1 := by omega
        clear hPl hlt
        have hPl2 : Pt.length = kI := by have := HBn.out.1.len; have h9 := HkI.out; simp at this; omega
        have HPl := hideK hPl2
        clear hPl2
        go_upto_region 48 with fail
        refine regG48 (x := ⟨t1.1, r1.1⟩) (q := q2) (by kernel_rfl) (by rw [List.length_cons, List.length_map, List.length_cons, HPl.out]; omega) HA.out.1 HA.out.2.2.1 hRD (fun w' q => by
          obtain ⟨_, c0, c1, c2, c3, _⟩ := HA.out.2.2.2.keep q
          exact ⟨c0, c1, c2, c3⟩) ?_
        intro z240 z241 z242 z243 z244 z245 z246 z247 z248 z249 v8 X8 hm8 hb8
        have hKI : ∀ y ∈ ((⟨t0.1, r0.1⟩ : Kn) :: (((x0, s1) :: Pt).map (·.1))) ++ [(⟨t1.1, r1.1⟩ : Kn)], KnIn y := by
          intro y hy
          rcases List.mem_append.1 hy with h | h
          · rcases List.mem_cons.1 h with rfl | h
            · exact HKi.out.1
            · exact HBn.out.1.knin HQ.out y h
          · rcases List.mem_cons.1 h with rfl | h
            · exact HKi.out.2
            · cases h
        have hcall := hideK (rown_s _ _ R hKI (by simp) X8 hm8.map)
        have H8 : Hid (Below wq.heap.size wq X8) := hideK (HA.out.2.1.trans (hb8.mono hwD))
        obtain ⟨KF, hKF⟩ : ∃ K, ((⟨t0.1, r0.1⟩ : Kn) :: (((x0, s1) :: Pt).map (·.1))) ++ [(⟨t1.1, r1.1⟩ : Kn)] = K := ⟨_, rfl⟩
        obtain ⟨SF, hSF⟩ : ∃ K, s0 :: (((x0, s1) :: Pt).map (·.2)) = K := ⟨_, rfl⟩
        have hE : newE Q = slE KF := by rw [HRes.out.1, if_neg (fun e => e ht0), if_neg (fun e => e hr0), if_neg (fun e => e ht1), if_neg (fun e => e hr1), ← hKF]; rfl
        have HE := hideK (And.intro hE (And.intro (show newK Q = KF by rw [HRes.out.2.1 ht0 ht1, ← hKF]; rfl) (show newE Q = 0 → slL (newK Q) = SF from fun h => by rw [HRes.out.2.2 h, ← hSF])))
        rw [hKF, hSF] at hcall
        clear hm8 hb8 hKI hE hKF hSF
        go_wp2_with fail
        refine hcall.out.mono ?_
        rintro e w9 ⟨pv, er, rfl, hS9, hb9⟩
        have H9 : Hid (OwnS w9 R KF SF pv er ∧ Below w.heap.size w w9) := hideK ⟨hS9, bup HBq.out (bup H8.out hb9)⟩
        clear hS9 hb9 hcall
        go_wp2_with fail
        rw [← HP.out]
        refine ⟨H9.out.2, ?_⟩
        obtain ⟨he, hz, hnz⟩ := H9.out.1
        by_cases her : er = 0
        · obtain ⟨rfl, hM9⟩ := hz her
          have h0 : newE Q = 0 := by rw [HE.out.1, ← he, her]
          refine .inl ⟨h0, R, by rw [her]; rfl, by have h1 := HBq.out.size; omega, ?_⟩
          rw [HE.out.2.2 h0, HE.out.2.1]
          exact hM9
        · obtain rfl := hnz her
          exact .inr ⟨by rw [HE.out.1, ← he]; exact her, by rw [HE.out.1, ← he]; rfl⟩
end Go.Proofs.Ytipnefaggpigfaa

/- A map from a shift, from a scale: retime's and the reference's (chapter 6). -/
namespace Go.Proofs.Ytipnefaggpigfaa
open Go.RowKit Go.Shelf

def PtP (W : World) (p : Value) (E : Int) (L : List Kn) : Prop := (E = 0 ∧ newE L = 0 ∧ ∃ B, p = .pointer (some ⟨B, 0, none⟩) ∧ MapAt W B (newK L) (slsK (newK L))) ∨ (¬ E = 0 ∧ p = .pointer none)
def PtR (W : World) (p : Value) (E : Int) (L : List Kn) : Prop := (E = 0 ∧ newE L = 0 ∧ ∃ B, p = .pointer (some ⟨B, 0, none⟩) ∧ RMapAt W B (newK L) (slL (newK L))) ∨ (¬ E = 0 ∧ p = .pointer none)
theorem PtP.keep {V W : World} {p : Value} {E : Int} {L : List Kn} (h : PtP V p E L) (b : Below V.heap.size V W) : PtP W p E L := by
  rcases h with ⟨h1, h2, B, h3, h4⟩ | h
  · exact .inl ⟨h1, h2, B, h3, h4.keep b⟩
  · exact .inr h
theorem PtR.keep {V W : World} {p : Value} {E : Int} {L : List Kn} (h : PtR V p E L) (b : Below V.heap.size V W) : PtR W p E L := by
  rcases h with ⟨h1, h2, B, h3, h4⟩ | h
  · exact .inl ⟨h1, h2, B, h3, h4.keep b⟩
  · exact .inr h
theorem kno_one (W : World) (x : Kn) : KnO (W.alloc (.cells #[.int .i64 x.i.N, .int .i64 x.i.D, .int .i64 x.o.N, .int .i64 x.o.D] 45)) (some ⟨W.heap.size, 0, none⟩) [x] := by
  obtain ⟨o, c, e, -, hk, -⟩ := own_kn (Q := [x]) (own_knotV W W.heap.size (Nat.le_refl _) x)
  cases e
  exact hk
/-- The knots of a shift; of a scale, and what it tells. -/
def shL (b : Rt) : List Kn := [⟨⟨0, 1⟩, b⟩]
def scL (b a : Rt) : List Kn := [⟨a, a⟩, ⟨(addA a ⟨1, 1⟩).1, (addA a b).1⟩]
def scE (b a : Rt) : Int := if rightB b = false then 12 else if rightB a = false then 12 else if b.N ≤ 0 then 32 else if ¬ (addA a ⟨1, 1⟩).2 = 0 then (addA a ⟨1, 1⟩).2 else if ¬ (addA a b).2 = 0 then (addA a b).2 else newE (scL b a)
theorem sh_in {b : Rt} (hb : RtIn b) : ∀ x ∈ shL b, KnIn x := fun x hx => by
  obtain rfl := List.mem_singleton.1 hx
  exact ⟨zero_in, hb⟩
theorem sc_in {b a : Rt} (ha : RtIn a) : ∀ x ∈ scL b a, KnIn x := fun x hx => by
  rcases List.mem_cons.1 hx with rfl | hx
  · exact ⟨ha, ha⟩
  · obtain rfl := List.mem_singleton.1 hx
    exact ⟨addA_inK _ _, addA_inK _ _⟩
theorem lit1p (x : Kn) (hx : KnIn x) (W : World) : Calls Try.prog 6 #[.slice (some ⟨W.heap.size, 0, none⟩) 1 1] (W.alloc (.cells #[.int .i64 x.i.N, .int .i64 x.i.D, .int .i64 x.o.N, .int .i64 x.o.D] 45)) fun e w' => ∃ p, e = .returned (.tuple #[p, .int .i64 (newE [x])]) ∧ PtP w' p (newE [x]) ([x]) ∧ Below W.heap.size W w' := by
  refine (new_any6 [x] _ 1 (fun z hz => by rw [List.mem_singleton.1 hz]; exact hx) ⟨Nat.le_refl _, by unfold maxLen; omega⟩ _ (kno_one W x)).mono ?_
  rintro e w' ⟨b, ⟨hz, B, rfl, -, hm⟩ | ⟨hz, rfl⟩⟩
  · exact ⟨_, by rw [hz], .inl ⟨hz, hz, B, rfl, hm⟩, bup (bel1 _ _) b⟩
  · exact ⟨_, rfl, .inr ⟨hz, rfl⟩, bup (bel1 _ _) b⟩
theorem lit2p (x y : Kn) (hx : KnIn x) (hy : KnIn y) (W : World) : Calls Try.prog 6 #[.slice (some ⟨W.heap.size, 0, none⟩) 2 2] (W.alloc (.cells #[.int .i64 x.i.N, .int .i64 x.i.D, .int .i64 x.o.N, .int .i64 x.o.D, .int .i64 y.i.N, .int .i64 y.i.D, .int .i64 y.o.N, .int .i64 y.o.D] 45)) fun e w' => ∃ p, e = .returned (.tuple #[p, .int .i64 (newE [x, y])]) ∧ PtP w' p (newE [x, y]) ([x, y]) ∧ Below W.heap.size W w' := by
  refine (new_any6 [x, y] _ 2 (fun z hz => by rcases List.mem_cons.1 hz with rfl | hz; exact hx; rw [List.mem_singleton.1 hz]; exact hy) ⟨Nat.le_refl _, by unfold maxLen; omega⟩ _ (kno_two W x y)).mono ?_
  rintro e w' ⟨b, ⟨hz, B, rfl, -, hm⟩ | ⟨hz, rfl⟩⟩
  · exact ⟨_, by rw [hz], .inl ⟨hz, hz, B, rfl, hm⟩, bup (bel1 _ _) b⟩
  · exact ⟨_, rfl, .inr ⟨hz, rfl⟩, bup (bel1 _ _) b⟩
theorem lit1r (x : Kn) (hx : KnIn x) (W : World) : Calls Try.prog 7 #[.slice (some ⟨W.heap.size, 0, none⟩) 1 1] (W.alloc (.cells #[.int .i64 x.i.N, .int .i64 x.i.D, .int .i64 x.o.N, .int .i64 x.o.D] 45)) fun e w' => ∃ p, e = .returned (.tuple #[p, .int .i64 (newE [x])]) ∧ PtR w' p (newE [x]) ([x]) ∧ Below W.heap.size W w' := by
  refine (rnew6_any [x] _ 1 (fun z hz => by rw [List.mem_singleton.1 hz]; exact hx) ⟨Nat.le_refl _, by unfold maxLen; omega⟩ _ (kno_one W x)).mono ?_
  rintro e w' ⟨b, ⟨hz, B, rfl, -, hm⟩ | ⟨hz, rfl⟩⟩
  · exact ⟨_, by rw [hz], .inl ⟨hz, hz, B, rfl, hm⟩, bup (bel1 _ _) b⟩
  · exact ⟨_, rfl, .inr ⟨hz, rfl⟩, bup (bel1 _ _) b⟩
theorem lit2r (x y : Kn) (hx : KnIn x) (hy : KnIn y) (W : World) : Calls Try.prog 7 #[.slice (some ⟨W.heap.size, 0, none⟩) 2 2] (W.alloc (.cells #[.int .i64 x.i.N, .int .i64 x.i.D, .int .i64 x.o.N, .int .i64 x.o.D, .int .i64 y.i.N, .int .i64 y.i.D, .int .i64 y.o.N, .int .i64 y.o.D] 45)) fun e w' => ∃ p, e = .returned (.tuple #[p, .int .i64 (newE [x, y])]) ∧ PtR w' p (newE [x, y]) ([x, y]) ∧ Below W.heap.size W w' := by
  refine (rnew6_any [x, y] _ 2 (fun z hz => by rcases List.mem_cons.1 hz with rfl | hz; exact hx; rw [List.mem_singleton.1 hz]; exact hy) ⟨Nat.le_refl _, by unfold maxLen; omega⟩ _ (kno_two W x y)).mono ?_
  rintro e w' ⟨b, ⟨hz, B, rfl, -, hm⟩ | ⟨hz, rfl⟩⟩
  · exact ⟨_, by rw [hz], .inl ⟨hz, hz, B, rfl, hm⟩, bup (bel1 _ _) b⟩
  · exact ⟨_, rfl, .inr ⟨hz, rfl⟩, bup (bel1 _ _) b⟩
end Go.Proofs.Ytipnefaggpigfaa

/- The reference's with, Inverse (chapter 6). -/
namespace Go.Proofs.Ytipnefaggpigfaa
open Go.RowKit Go.Shelf

set_option maxRecDepth 100000 in
set_option maxHeartbeats 4000000 in
theorem rwith6 (Q : List Rt) (t : Rt) (oa : Option Addr) (c : Nat) (hQ : ∀ x ∈ Q, RtIn x) (ht : RtIn t) (hc : Q.length ≤ c ∧ c ≤ maxLen) (hn : Q.length ≤ 10000) (w : World) (hO : RtO w oa Q) :
    Calls Try.prog 39 #[.slice oa Q.length c, .agg #[.int .i64 t.N, .int .i64 t.D]] w fun e w' => ∃ v, e = .returned v ∧ w'.ownsRow w.heap.size 42 2 v (wthR Q t).length (flatRt (wthR Q t)) ∧ Below w.heap.size w w' := by
  obtain ⟨i0, hI, hz0, hz1, hz2⟩ := info_partsK infoRtK
  have hmx : maxLen ≤ 9223372036854775807 := by decide
  obtain ⟨n, hn'⟩ : ∃ n, Q.length = n := ⟨_, rfl⟩
  have HN := hideK hn'
  have HO := hideK hO
  have HQ := hideK hQ
  have HTi := hideK ht
  rw [hn'] at hc hn ⊢
  clear hn' hO hQ ht
  obtain ⟨PO, hPO⟩ : ∃ PO : Ending → World → Prop, (fun e w' => ∃ v, e = .returned v ∧ w'.ownsRow w.heap.size 42 2 v (wthR Q t).length (flatRt (wthR Q t)) ∧ Below w.heap.size w w') = PO := ⟨_, rfl⟩
  have HP := hideK hPO
  rw [hPO]
  clear hPO
  go_enter Try.func39, Try.ntmps39
  go_upto_region 1 with fail
  obtain ⟨V, hV⟩ : ∃ V, w.alloc (.cells #[.int .i64 t.N, .int .i64 t.D] 42) = V := ⟨_, rfl⟩
  have HV : Hid (Below w.heap.size w V ∧ Two V w.heap.size (.int .i64 t.N) (.int .i64 t.D) ∧ w.heap.size ≤ V.heap.size) := hideK (by rw [← hV]; exact ⟨bel1 _ _, Two.new _ _ _ _, by rw [World.size_alloc]; omega⟩)
  rw [hV]
  clear hV
  have HR := hideK (HO.out.keep HV.out.1)
  generalize w.heap.size = D at *
  have HK : Hid (∀ w', Below V.heap.size V w' → w'.cell? ⟨D, 0, none⟩ = some (.int .i64 t.N) ∧ w'.cell? ⟨D, 1, none⟩ = some (.int .i64 t.D)) := hideK (fun W q => by
    obtain ⟨_, c0, c1, _, _⟩ := HV.out.2.1.keep q
    exact ⟨c0, c1⟩)
  go_wp2_with fail
  go_loopw [5, 6, 7] (fun lv dv iv wq => ∃ (i : Nat) (d : Bool) (M : List Rt), iv = .int .i64 (i : Nat) ∧ dv = .bool d ∧ i ≤ n ∧ ((d = false → M.length ≤ i) ∧ M.length ≤ i + 1) ∧ wq.ownsRow V.heap.size 42 2 lv M.length (flatRt M) ∧ wthR Q t = (if d = true then M ++ Q.drop i else M ++ wthR (Q.drop i) t) ∧ Below V.heap.size V wq) (fun _ _ iv _ => n - (intOf iv).toNat)
  case atStart => exact ⟨0, false, [], rfl, rfl, Nat.zero_le _, ⟨fun _ => Nat.le_refl _, Nat.zero_le _⟩, World.ownsRow_nil _ _ _ _, rfl, Below.refl _ _⟩
  case round =>
    obtain ⟨i, d, M, rfl, rfl, hi, hMl, hown, hs, hb⟩ := hrel
    obtain ⟨wq, rfl⟩ : ∃ wq, wq = wr := ⟨_, rfl⟩
    by_cases hlt : i < n
    case pos =>
      obtain ⟨x, hx⟩ : ∃ x, Q[i]? = some x := ⟨_, List.getElem?_eq_getElem (by rw [HN.out]; omega)⟩
      have hdr : Q.drop i = x :: Q.drop (i + 1) := by
        obtain ⟨h1, e1⟩ := List.getElem?_eq_some_iff.1 hx
        rw [List.drop_eq_getElem_cons h1, e1]
      obtain ⟨A, rfl, hA, a0, a1⟩ := HR.out.get hx
      have hA4 : (A.add (i * 2)).block < V.heap.size := by rw [addrN_block]; exact hA
      have HX : Hid (∀ W, Below V.heap.size V W → W.cell? (A.add (i * 2)) = some (.int .i64 x.N) ∧ W.cell? ⟨(A.add (i * 2)).block, (A.add (i * 2)).off + 1, none⟩ = some (.int .i64 x.D)) := hideK (fun W q => ⟨(q.cell hA4).trans a0, (q.cell (p := ⟨(A.add (i * 2)).block, (A.add (i * 2)).off + 1, none⟩) hA4).trans a1⟩)
      have HC := hideK (show ∀ W : World, Calls Try.prog 59 #[.agg #[.int .i64 x.N, .int .i64 x.D], .agg #[.int .i64 t.N, .int .i64 t.D]] W fun e w' => e = .returned (.int .i64 (cmpI x t)) ∧ Below W.heap.size W w' from fun (W : World) => rcmp_any x t (HQ.out x (List.mem_of_getElem? hx)) HTi.out W)
      have HW : Hid (wthR (x :: Q.drop (i + 1)) t = if 0 < cmpI x t then t :: x :: Q.drop (i + 1) else if cmpI x t = 0 then x :: Q.drop (i + 1) else x :: wthR (Q.drop (i + 1)) t) := hideK (by rw [wthR])
      rw [hdr] at hs
      obtain ⟨cc, hcc⟩ : ∃ z, cmpI x t = z := ⟨_, rfl⟩
      rw [hcc] at HC HW
      have HS := hideK hs
      have HA := hideK (And.intro hown hb)
      obtain ⟨ml, hml⟩ : ∃ k, M.length = k := ⟨_, rfl⟩
      have HML := hideK hml
      rw [hml] at HA hMl
      have hzV := hb.size
      have p0 : ∀ q : GrownQ wq, q.V.cell? (A.add (i * 2)) = some (.int .i64 x.N) := fun q => (HX.out q.V (bup hb q.h)).1
      have p1 : ∀ q : GrownQ wq, q.V.cell? ⟨(A.add (i * 2)).block, (A.add (i * 2)).off + 1, none⟩ = some (.int .i64 x.D) := fun q => (HX.out q.V (bup hb q.h)).2
      have q0 : ∀ q : GrownQ wq, q.V.cell? ⟨D, 0, none⟩ = some (.int .i64 t.N) := fun q => (HK.out q.V (bup hb q.h)).1
      have q1 : ∀ q : GrownQ wq, q.V.cell? ⟨D, 1, none⟩ = some (.int .i64 t.D) := fun q => (HK.out q.V (bup hb q.h)).2
      clear hcc hs hown hml hdr hx a0 a1 hA hA4 hb
      have di : (i : Int) < (n : Int) := by omega
      have wk : IntKind.i64.wrap ((i : Int) + 1) = ((i + 1 : Nat) : Int) := by rw [show ((i + 1 : Nat) : Int) = (i : Int) + 1 by omega]; exact IntWalk.i64_in _ ⟨by omega, by omega⟩
      go_upto_region 6 with fail
      refine region_grown wq wq (by kernel_rfl) (by kernel_rfl) (Below.refl _ _) ?_
      repeat (go_big_quiet_step (first
        | (rename_i q; (with_reducible refine (HC.out _).mono ?_); rintro e V1 ⟨rfl, h1⟩; exact ⟨rfl, ⟨V1, q.h.trans (h1.mono q.h.size)⟩, rfl⟩)))
      refine wpQuiet_nil ?_
      rintro W9 ⟨⟨V9, hb9⟩, hv9⟩
      have hv9 : W9 = V9 := hv9
      subst hv9
      have H9 := hideK (And.intro (own_growK HA.out.1 hb9) (bup HA.out.2 hb9))
      have hz9 := H9.out.2.size
      clear hv9 hb9 p0 p1 q0 q1 HA HC
      obtain ⟨a0, a1⟩ := HX.out W9 H9.out.2
      obtain ⟨b0, b1⟩ := HK.out W9 H9.out.2
      have hMf := hMl.1
      replace hMl := hMl.2
      cases d with
      | true =>
        go_wp2_with (at_builtin; refine wpList_append_lies _ rfl _ _ 23 rfl V.heap.size 42 i0 _ 2 16 Try.underlying23 hI hz0 hz1 hz2 rfl (by decide) _ ml (flatRt M) rfl (H9.out.1.alloc _) ⟨W9.heap.size, 0, none⟩ 1 1 [.int .i64 x.N, .int .i64 x.D] rfl rfl (World.news_of_block (cs := #[.int .i64 x.N, .int .i64 x.D]) (t := 42) (fr := (0, 0)) (World.alloc_heap_new W9 _)) (by simp [Value.oneCell']) (by omega) (by unfold maxLen; omega) (by omega) (by simp; omega) (W9.heap.size + 1) (by simp) ?_; intro gg cap6 w6 hown6 hgrow6 hat6 hlt6)
        go_roundw
        case rel =>
          refine ⟨i + 1, true, M ++ [x], by first | rfl | simp, rfl, by omega, ⟨(fun h => by cases h), by simp [HML.out]; omega⟩, ?_, ?_, Below.grown (H9.out.2.alloc (by omega) _) hgrow6 (by rw [World.size_alloc]; omega) (fun k hk => (H9.out.1.lt k hk).1)⟩
          · rw [flatRt_app]
            have h6 := hown6
            simp only [List.length_append, List.length_cons, List.length_nil, HML.out]
            exact h6
          · rw [if_pos rfl, HS.out, if_pos rfl, List.append_assoc]
            rfl
        case measure => simp [intOf]; omega
      | false =>
        replace hMf := hMf rfl
        by_cases hp : 0 < cc
        · have hc0 : ¬ cc = 0 := by omega
          have HWW := HW.out
          rw [if_pos hp] at HWW
          have HT2 := hideK HWW
          clear HWW HW
          go_upto_region 9 with (at_builtin; refine wpList_append_lies _ rfl _ _ 23 rfl V.heap.size 42 i0 _ 2 16 Try.underlying23 hI hz0 hz1 hz2 rfl (by decide) _ ml (flatRt M) rfl (H9.out.1.alloc _) ⟨W9.heap.size, 0, none⟩ 1 1 [.int .i64 t.N, .int .i64 t.D] rfl rfl (World.news_of_block (cs := #[.int .i64 t.N, .int .i64 t.D]) (t := 42) (fr := (0, 0)) (World.alloc_heap_new W9 _)) (by simp [Value.oneCell']) (by omega) (by unfold maxLen; omega) (by omega) (by simp; omega) (W9.heap.size + 1) (by simp) ?_; intro g5 cap5 w5 hown5 hgrow5 hat5 hlt5)
          have H5 : Hid (w5.ownsRow V.heap.size 42 2 (.slice (some ⟨g5, 0, none⟩) (ml + 1) cap5) (ml + 1) (flatRt (M ++ [t])) ∧ Below V.heap.size V w5) := hideK ⟨by rw [flatRt_app]; exact hown5, Below.grown (H9.out.2.alloc (by omega) _) hgrow5 (by rw [World.size_alloc]; omega) (fun k hk => (H9.out.1.lt k hk).1)⟩
          clear hown5 hgrow5 a0 a1 b0 b1
          obtain ⟨a0, a1⟩ := HX.out w5 H5.out.2
          have hz5 := H5.out.2.size
          go_wp2_with (at_builtin; refine wpList_append_lies _ rfl _ _ 23 rfl V.heap.size 42 i0 _ 2 16 Try.underlying23 hI hz0 hz1 hz2 rfl (by decide) _ (ml + 1) (flatRt (M ++ [t])) rfl (H5.out.1.alloc _) ⟨w5.heap.size, 0, none⟩ 1 1 [.int .i64 x.N, .int .i64 x.D] rfl rfl (World.news_of_block (cs := #[.int .i64 x.N, .int .i64 x.D]) (t := 42) (fr := (0, 0)) (World.alloc_heap_new w5 _)) (by simp [Value.oneCell']) (by omega) (by unfold maxLen; omega) (by omega) (by simp; omega) (w5.heap.size + 1) (by simp) ?_; intro gg cap6 w6 hown6 hgrow6 hat6 hlt6)
          go_roundw
          case rel =>
            refine ⟨i + 1, true, (M ++ [t]) ++ [x], by first | rfl | simp, rfl, by omega, ⟨(fun h => by cases h), by simp [HML.out]; omega⟩, ?_, ?_, Below.grown (H5.out.2.alloc (by omega) _) hgrow6 (by rw [World.size_alloc]; omega) (fun k hk => (H5.out.1.lt k hk).1)⟩
            · rw [flatRt_app]
              have h6 := hown6
              simp only [List.length_append, List.length_cons, List.length_nil, HML.out]
              exact h6
            · rw [if_pos rfl, HS.out, if_neg (by simp), HT2.out, List.append_assoc, List.append_assoc]
              rfl
          case measure => simp [intOf]; omega
        · by_cases hc0 : cc = 0
          · have HWW := HW.out
            rw [if_neg hp, if_pos hc0] at HWW
            have HT2 := hideK HWW
            clear HWW HW
            go_wp2_with (at_builtin; refine wpList_append_lies _ rfl _ _ 23 rfl V.heap.size 42 i0 _ 2 16 Try.underlying23 hI hz0 hz1 hz2 rfl (by decide) _ ml (flatRt M) rfl (H9.out.1.alloc _) ⟨W9.heap.size, 0, none⟩ 1 1 [.int .i64 x.N, .int .i64 x.D] rfl rfl (World.news_of_block (cs := #[.int .i64 x.N, .int .i64 x.D]) (t := 42) (fr := (0, 0)) (World.alloc_heap_new W9 _)) (by simp [Value.oneCell']) (by omega) (by unfold maxLen; omega) (by omega) (by simp; omega) (W9.heap.size + 1) (by simp) ?_; intro gg cap6 w6 hown6 hgrow6 hat6 hlt6)
            go_roundw
            case rel =>
              refine ⟨i + 1, true, M ++ [x], by first | rfl | simp, rfl, by omega, ⟨(fun h => by cases h), by simp [HML.out]; omega⟩, ?_, ?_, Below.grown (H9.out.2.alloc (by omega) _) hgrow6 (by rw [World.size_alloc]; omega) (fun k hk => (H9.out.1.lt k hk).1)⟩
              · rw [flatRt_app]
                have h6 := hown6
                simp only [List.length_append, List.length_cons, List.length_nil, HML.out]
                exact h6
              · rw [if_pos rfl, HS.out, if_neg (by simp), HT2.out, List.append_assoc]
                rfl
            case measure => simp [intOf]; omega
          · have HWW := HW.out
            rw [if_neg hp, if_neg hc0] at HWW
            have HT2 := hideK HWW
            clear HWW HW
            go_wp2_with (at_builtin; refine wpList_append_lies _ rfl _ _ 23 rfl V.heap.size 42 i0 _ 2 16 Try.underlying23 hI hz0 hz1 hz2 rfl (by decide) _ ml (flatRt M) rfl (H9.out.1.alloc _) ⟨W9.heap.size, 0, none⟩ 1 1 [.int .i64 x.N, .int .i64 x.D] rfl rfl (World.news_of_block (cs := #[.int .i64 x.N, .int .i64 x.D]) (t := 42) (fr := (0, 0)) (World.alloc_heap_new W9 _)) (by simp [Value.oneCell']) (by omega) (by unfold maxLen; omega) (by omega) (by simp; omega) (W9.heap.size + 1) (by simp) ?_; intro gg cap6 w6 hown6 hgrow6 hat6 hlt6)
            go_roundw
            case rel =>
              refine ⟨i + 1, false, M ++ [x], by first | rfl | simp, by first | rfl | rw [show (cc == 0) = false by simpa using hc0], by omega, ⟨(fun _ => by simp [HML.out]; omega), by simp [HML.out]; omega⟩, ?_, ?_, Below.grown (H9.out.2.alloc (by omega) _) hgrow6 (by rw [World.size_alloc]; omega) (fun k hk => (H9.out.1.lt k hk).1)⟩
              · rw [flatRt_app]
                have h6 := hown6
                simp only [List.length_append, List.length_cons, List.length_nil, HML.out]
                exact h6
              · rw [if_neg (by simp), HS.out, if_neg (by simp), HT2.out, List.append_assoc]
                rfl
            case measure => simp [intOf]; omega
    case neg =>
      obtain rfl : i = n := by omega
      have d2 : ¬ (i : Int) < (i : Int) := by omega
      have hdr : Q.drop i = [] := List.drop_eq_nil_of_le (by rw [HN.out]; exact Nat.le_refl _)
      rw [hdr] at hs
      obtain ⟨b0, b1⟩ := HK.out wq hb
      have hzV := hb.size
      have hDV : D ≤ V.heap.size := HV.out.2.2
      obtain ⟨ml, hml⟩ : ∃ k, M.length = k := ⟨_, rfl⟩
      have HML := hideK hml
      rw [hml] at hown hMl
      have HA := hideK (And.intro hown (And.intro hs hb))
      replace hMl := hMl.2
      clear hown hs hb hdr hml
      cases d with
      | true =>
        go_wp2_with fail
        have hres : PO (.returned u5) wq := by
          rw [← HP.out]
          refine ⟨_, rfl, ?_, HV.out.1.trans (HA.out.2.2.mono hDV)⟩
          have hs9 : wthR Q t = M := by rw [HA.out.2.1]; simp
          rw [hs9, HML.out]
          exact own_lowP HA.out.1 hDV
        first | exact hres | (go_ret; exact hres)
      | false =>
        go_wp2_with (at_builtin; refine wpList_append_lies _ rfl _ _ 23 rfl V.heap.size 42 i0 _ 2 16 Try.underlying23 hI hz0 hz1 hz2 rfl (by decide) _ ml (flatRt M) rfl (HA.out.1.alloc _) ⟨wq.heap.size, 0, none⟩ 1 1 [.int .i64 t.N, .int .i64 t.D] rfl rfl (World.news_of_block (cs := #[.int .i64 t.N, .int .i64 t.D]) (t := 42) (fr := (0, 0)) (World.alloc_heap_new wq _)) (by simp [Value.oneCell']) (by omega) (by unfold maxLen; omega) (by omega) (by simp; omega) (wq.heap.size + 1) (by simp) ?_; intro gg cap6 w6 hown6 hgrow6 hat6 hlt6)
        have hres : PO (.returned (.slice (some ⟨gg, 0, none⟩) (ml + 1) cap6)) w6 := by
          rw [← HP.out]
          refine ⟨_, rfl, ?_, HV.out.1.trans ((Below.grown (HA.out.2.2.alloc (by omega) _) hgrow6 (by rw [World.size_alloc]; omega) (fun k hk => (HA.out.1.lt k hk).1)).mono hDV)⟩
          rw [HA.out.2.1, if_neg (by simp)]
          show w6.ownsRow D _ 2 _ (M ++ [t]).length (flatRt (M ++ [t]))
          rw [flatRt_app]
          have h6 := own_lowP hown6 hDV
          simp only [List.length_append, List.length_cons, List.length_nil, HML.out]
          exact h6
        first | exact hres | (go_ret; exact hres)
theorem sw_inY {K : List Kn} (h : ∀ x ∈ K, KnIn x) : ∀ x ∈ swK K, KnIn x := fun x hx => by
  obtain ⟨y, hy, rfl⟩ := List.mem_map.1 hx
  exact ⟨(h y hy).2, (h y hy).1⟩
set_option maxRecDepth 100000 in
set_option maxHeartbeats 4000000 in
theorem rinv6 (K : List Kn) (S : List Rt) (B : Nat) (hK : ∀ x ∈ K, KnIn x) (hl : K.length ≤ 1000) (w : World) (hM : RMapAt w B K S) :
    Calls Try.prog 13 #[.pointer (some ⟨B, 0, none⟩)] w fun e w' => ∃ p, e = .returned (.tuple #[p, .int .i64 (newE (swK K))]) ∧ PtR w' p (newE (swK K)) (swK K) ∧ Below w.heap.size w w' := by
  obtain ⟨j0, hJ, hy0, hy1, hy2⟩ := info_partsK infoKnK
  have hmx : maxLen ≤ 9223372036854775807 := by decide
  obtain ⟨oa, c1, os2, c2, hat, hc1, hc2, hkb, -⟩ := hM
  have hzB : B < w.heap.size := (Array.getElem?_eq_some_iff.1 hat).1
  have HO := hideK hkb
  obtain ⟨n, hn⟩ : ∃ n, K.length = n := ⟨_, rfl⟩
  have HC : Hid (∀ W, Below w.heap.size w W → W.cell? ⟨B, 0, none⟩ = some (.slice oa n c1)) := hideK (fun W q => (q.cell (p := ⟨B, 0, none⟩) hzB).trans (by rw [← hn]; simp [World.cell?, hat]))
  have HN := hideK hn
  have HKi := hideK (sw_inY hK)
  rw [hn] at hl hc1
  clear hn hat hkb hc2 hK
  obtain ⟨PO, hPO⟩ : ∃ PO : Ending → World → Prop, (fun e w' => ∃ p, e = .returned (.tuple #[p, .int .i64 (newE (swK K))]) ∧ PtR w' p (newE (swK K)) (swK K) ∧ Below w.heap.size w w') = PO := ⟨_, rfl⟩
  have HP := hideK hPO
  rw [hPO]
  clear hPO
  go_enter Try.func13, Try.ntmps13
  go_wp2_with fail
  go_loopw [4, 5] (fun lv iv wq => ∃ i : Nat, iv = .int .i64 (i : Nat) ∧ i ≤ n ∧ wq.ownsRow w.heap.size 45 4 lv i (flatKn (swK (K.take i))) ∧ Below w.heap.size w wq) (fun _ iv _ => n - (intOf iv).toNat)
  case atStart => exact ⟨0, rfl, Nat.zero_le _, World.ownsRow_nil _ _ _ _, Below.refl _ _⟩
  case round =>
    obtain ⟨i, rfl, hi, hown, hb⟩ := hrel
    obtain ⟨wq, rfl⟩ : ∃ wq, wq = wr := ⟨_, rfl⟩
    have k0 := HC.out wq hb
    by_cases hlt : i < n
    · obtain ⟨x, hx⟩ : ∃ x, K[i]? = some x := ⟨_, List.getElem?_eq_getElem (by rw [HN.out]; omega)⟩
      obtain ⟨A, rfl, hA, a0, a1, a2, a3⟩ := (HO.out.keep hb).get hx
      have hT := hideK (show swK (K.take (i + 1)) = swK (K.take i) ++ [⟨x.o, x.i⟩] by
        unfold swK
        rw [List.take_add_one, hx, List.map_append]
        rfl)
      have HA := hideK (And.intro hown hb)
      have hzw := hb.size
      clear hown hb hx
      have di : (i : Int) < (n : Int) := by omega
      have wk : IntKind.i64.wrap ((i : Int) + 1) = ((i + 1 : Nat) : Int) := by rw [show ((i + 1 : Nat) : Int) = (i : Int) + 1 by omega]; exact IntWalk.i64_in _ ⟨by omega, by omega⟩
      go_upto_region 5 with fail
      go_region_law
        ((refine step_append_lies _ (by rfl) _ _ 22 (by rfl) w.heap.size 45 j0 _ 4 32 Try.underlying22 hJ hy0 hy1 hy2 rfl (by decide) u4 i (flatKn (swK (K.take i))) (by rfl) ((own_growK HA.out.1 (bel1 wq _)).drew) ⟨wq.heap.size, 0, none⟩ 1 1 [.int .i64 x.o.N, .int .i64 x.o.D, .int .i64 x.i.N, .int .i64 x.i.D] (by rfl) rfl (World.news_of_block (cs := #[.int .i64 x.o.N, .int .i64 x.o.D, .int .i64 x.i.N, .int .i64 x.i.D]) (t := 45) (fr := (0, 0)) (World.alloc_heap_new wq _)) (by simp [Value.oneCell']) (by omega) (by unfold maxLen; omega) (by omega) (by simp; omega) (wq.heap.size + 1) (by simp) ?_; intro gg cap5 w5 hown5 hgrow hat5 hlt5))
      all_goals
        have HF : Hid (w5.ownsRow w.heap.size 45 4 (.slice (some ⟨gg, 0, none⟩) (i + 1) cap5) (i + 1) (flatKn (swK (K.take i) ++ [⟨x.o, x.i⟩])) ∧ Below w.heap.size w w5) := hideK ⟨by rw [flatKn_app]; exact hown5, Below.grown (bup HA.out.2 (bel1 wq _).drew) hgrow (by simp; omega) (fun k hk => (HA.out.1.lt k hk).1)⟩
        first | go_wp2_with fail | skip
        go_roundw
        case rel => exact ⟨i + 1, by first | rfl | simp, by omega, by rw [hT.out]; exact HF.out.1, HF.out.2⟩
        case measure => simp [intOf]; omega
    · obtain rfl : i = n := by omega
      have d2 : ¬ (i : Int) < (i : Int) := by omega
      have hk : K.take i = K := List.take_of_length_le (by rw [HN.out]; exact Nat.le_refl _)
      rw [hk] at hown
      obtain ⟨o1, d1, rfl, hcc, hkn, hsl⟩ := own_kn hown
      have hnw := rnew6_any (swK K) o1 d1 HKi.out (by rw [hsl]; exact hcc) wq hkn
      rw [hsl] at hnw
      have HNw := hideK hnw
      have HB := hideK hb
      clear hown hb hnw hkn hk
      go_wp2_with fail
      refine HNw.out.mono ?_
      rintro e w6 ⟨b6, h6⟩
      have H6 := hideK (bup HB.out b6)
      clear b6 HNw
      rcases h6 with ⟨hz, B2, rfl, -, hm⟩ | ⟨hz, rfl⟩
      · have HM := hideK (And.intro hz hm)
        clear hm hz
        go_wp2_with fail
        have hres : PO (.returned (.tuple #[.pointer (some ⟨B2, 0, none⟩), .int .i64 0])) w6 := by
          rw [← HP.out]
          exact ⟨_, by rw [HM.out.1], .inl ⟨HM.out.1, HM.out.1, B2, rfl, HM.out.2⟩, H6.out⟩
        first | exact hres | (go_ret; exact hres)
      · have HZ := hideK hz
        clear hz
        go_wp2_with fail
        have hres : PO (.returned (.tuple #[.pointer none, .int .i64 (newE (swK K))])) w6 := by
          rw [← HP.out]
          exact ⟨_, rfl, .inr ⟨HZ.out, rfl⟩, H6.out⟩
        first | exact hres | (go_ret; exact hres)
end Go.Proofs.Ytipnefaggpigfaa
