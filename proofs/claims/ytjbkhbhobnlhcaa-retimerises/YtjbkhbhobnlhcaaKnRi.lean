/- RetimeRises: the walk (chapter 6). -/
import Derived.Test.YtjbkhbhobnlhcaaGB
import Derived.Test.YtjbkhbhobnlhcaaGA
import Derived.Deep.RegionHeld3
import Derived.Deep.QuietTactic
import Derived.BigQuiet
namespace Go.Proofs.Ytjbkhbhobnlhcaa
open Go.RowKit Go.Shelf

set_option maxRecDepth 100000 in
theorem fineQ (n : Int) (w : World) : Calls Try.prog 9 #[.int .i64 n] w fun e w' => e = .returned (.bool (n == 0)) ∧ w' = w := by
  go_enter Try.func9, Try.ntmps9
  go_wp2_with fail
  go_ret
  exact ⟨rfl, rfl⟩
theorem fineZ {n : Int} {z : Bool} (h : (n == 0) = z) (w : World) : Calls Try.prog 9 #[.int .i64 n] w fun e w' => e = .returned (.bool z) ∧ w' = w := by
  rw [← h]
  exact fineQ n w
set_option maxRecDepth 100000 in
set_option maxHeartbeats 4000000 in
theorem rises6_walk (L : List Kn) (oa : Option Addr) (cl : Nat) (T : List Rt) (ot : Option Addr) (ct : Nat) (hL : ∀ x ∈ L, KnIn x) (hT : ∀ t ∈ T, RtIn t) (hcl : L.length ≤ cl ∧ cl ≤ maxLen) (w : World) (hO : KnO w oa L) (hR : RtO w ot T) :
    Calls Try.prog 4 #[.slice oa L.length cl, .slice ot T.length ct] w fun e w' => e = .returned (.bool true) ∧ Below w.heap.size w w' := by
  have hmx : maxLen ≤ 9223372036854775807 := by decide
  obtain ⟨n, hn⟩ : ∃ n, L.length = n := ⟨_, rfl⟩
  obtain ⟨m, hm⟩ : ∃ m, T.length = m := ⟨_, rfl⟩
  have HN := hideK hn
  have HM := hideK hm
  have HO := hideK hO
  have HR := hideK hR
  have HL := hideK hL
  have HT := hideK hT
  have hnw := hideK (fun (W : World) (q : Below w.heap.size w W) => new_any6 L oa cl hL hcl W (hO.keep q))
  rw [hn] at hcl hnw ⊢
  rw [hm]
  clear hn hm hO hR hL hT
  obtain ⟨PO, hPO⟩ : ∃ PO : Ending → World → Prop, (fun e w' => e = .returned (.bool true) ∧ Below w.heap.size w w') = PO := ⟨_, rfl⟩
  have HP := hideK hPO
  rw [hPO]
  clear hPO
  go_enter Try.func4, Try.ntmps4
  go_wp2_with fail
  refine (known6_any w).mono ?_
  rintro e w1 ⟨rfl, b1⟩
  have H1 := hideK b1
  clear b1
  by_cases h300 : 300 < m
  · have d3 : (300 : Int) < (m : Int) := by omega
    go_wp2_with fail
    rw [← HP.out]
    exact ⟨rfl, H1.out⟩
  have d3 : ¬ (300 : Int) < (m : Int) := by omega
  go_wp2_with fail
  refine (hnw.out w1 H1.out).mono ?_
  rintro e w2 ⟨b2, h2⟩
  have H2 := hideK (bup H1.out b2)
  clear b2 hnw H1
  rcases h2 with ⟨hE, B, rfl, -, hM⟩ | ⟨hE, rfl⟩
  case inr =>
    have hf : (newE L == 0) = false := by simpa using hE
    clear hE
    go_wp2_with fail
    refine (fine6 _ w2).mono ?_
    rintro e w3 ⟨rfl, b3⟩
    have H3 := hideK (bup H2.out b3)
    clear b3
    go_wp2_with fail
    rw [← HP.out]
    exact ⟨rfl, H3.out⟩
  case inl =>
  have HMA := hideK hM
  clear hM
  obtain ⟨f1, f2, f3⟩ := rises_facts hE
  have hni := new_in L HL.out
  have hpi := pts_in (bndK L) (bnd_in L HL.out)
  have hbl := bnd_len L
  have hkl : (newK L).length ≤ n + 2 ∧ 1 ≤ (newK L).length := by
    rw [hni.2, ← HN.out]
    exact ⟨by show (ptsA (bndK L)).length ≤ _; omega, hpi.2.2⟩
  have hn64 : n ≤ 64 := by
    have := (chk_ok (newE_zero hE).1).2.1
    rw [HN.out] at this
    exact this
  have HRis := new_ris hE
  have HSin := sls_in (newK L) hni.1
  have hsl := sls_len (newK L) hkl.2
  have HAp : Hid (∀ (W : World) (t : Rt), RtIn t → Below w2.heap.size w2 W → Calls Try.prog 10 #[.pointer (some ⟨B, 0, none⟩), .agg #[.int .i64 t.N, .int .i64 t.D]] W fun e w' => e = .returned (.tuple #[.agg #[.int .i64 (appF (newK L) (slsK (newK L)) t).1.N, .int .i64 (appF (newK L) (slsK (newK L)) t).1.D], .int .i64 (appF (newK L) (slsK (newK L)) t).2]) ∧ Below W.heap.size W w') := hideK (fun W t ht q => apply_fun _ _ B t hni.1 HSin ht hsl (by omega) hkl.2 HRis W (HMA.out.keep q))
  have HKs := hideK (fun (W : World) (q : Below w2.heap.size w2 W) => knots_any6 (newK L) (slsK (newK L)) B (by omega) hkl.2 W (HMA.out.keep q))
  have HF1 : Hid (∀ x ∈ L, RtIn (appF (newK L) (slsK (newK L)) x.i).1 ∧ ((appF (newK L) (slsK (newK L)) x.i).2 = 0 → (appF (newK L) (slsK (newK L)) x.i).1 = x.o)) := hideK (fun x hx => ⟨appF_in _ _ _, f1 x hx⟩)
  have HF2 := hideK f2
  have HF3 : Hid (∀ t u : Rt, RtIn (appF (newK L) (slsK (newK L)) t).1 ∧ RtIn (appF (newK L) (slsK (newK L)) u).1 ∧ ((appF (newK L) (slsK (newK L)) t).2 = 0 → (appF (newK L) (slsK (newK L)) u).2 = 0 → cmpI (appF (newK L) (slsK (newK L)) t).1 (appF (newK L) (slsK (newK L)) u).1 = cmpI t u)) := hideK (fun t u => ⟨appF_in _ _ _, appF_in _ _ _, f3 t u⟩)
  have HKi := hideK hni.1
  obtain ⟨kk, hkk⟩ : ∃ kk, (newK L).length = kk := ⟨_, rfl⟩
  have HKK := hideK hkk
  rw [hkk] at hkl
  clear hkk f1 f2 f3 hni hpi hbl HRis HSin hsl HMA hE
  generalize appF (newK L) (slsK (newK L)) = F at *
  generalize newK L = K at *
  go_wp2_with fail
  refine (fine6 0 w2).mono ?_
  rintro e w3 ⟨rfl, b3⟩
  have H3 := hideK b3
  clear b3
  go_wp2_with fail
  go_loopw [7] (fun iv wq => ∃ i : Nat, iv = .int .i64 (i : Nat) ∧ i ≤ n ∧ Below w2.heap.size w2 wq) (fun iv _ => n - (intOf iv).toNat)
  case atStart => exact ⟨0, rfl, Nat.zero_le _, H3.out⟩
  case round =>
    obtain ⟨i, rfl, hi, hb⟩ := hrel
    obtain ⟨wq, rfl⟩ : ∃ wq, wq = wr := ⟨_, rfl⟩
    by_cases hlt : i < n
    · obtain ⟨x, hx⟩ : ∃ x, L[i]? = some x := ⟨_, List.getElem?_eq_getElem (by rw [HN.out]; omega)⟩
      have hxm := List.mem_of_getElem? hx
      have hxi := HL.out x hxm
      have HXI := hideK hxi
      obtain ⟨A, rfl, hA, a0, a1, a2, a3⟩ := (HO.out.keep (bup H2.out hb)).get hx
      have kA : (A.add (i * 4)).block < wq.heap.size := by rw [addrN_block]; exact hA
      generalize hPA : A.add (i * 4) = PA at *
      have HK : Hid (∀ W : World, Below wq.heap.size wq W → (W.cell? PA = some (.int .i64 x.i.N) ∧ W.cell? ⟨PA.block, PA.off + 1, none⟩ = some (.int .i64 x.i.D) ∧ W.cell? ⟨PA.block, PA.off + 2, none⟩ = some (.int .i64 x.o.N) ∧ W.cell? ⟨PA.block, PA.off + 3, none⟩ = some (.int .i64 x.o.D))) := hideK (fun W q => ⟨(q.cell kA).trans a0, (q.cell (p := ⟨PA.block, PA.off + 1, none⟩) kA).trans a1, (q.cell (p := ⟨PA.block, PA.off + 2, none⟩) kA).trans a2, (q.cell (p := ⟨PA.block, PA.off + 3, none⟩) kA).trans a3⟩)
      have hap := HAp.out wq x.i hxi.1 hb
      have hr := HF1.out x hxm
      generalize F x.i = r at hap hr
      have HBe := hideK hb
      have Hap := hideK hap
      have HRI := hideK hr
      clear hb hx hxi hap hr hA hxm
      have di : (i : Int) < (n : Int) := by omega
      have wk : IntKind.i64.wrap ((i : Int) + 1) = ((i + 1 : Nat) : Int) := by rw [show ((i + 1 : Nat) : Int) = (i : Int) + 1 by omega]; exact IntWalk.i64_in _ ⟨by omega, by omega⟩
      go_wp2_with fail
      refine Hap.out.mono ?_
      rintro e w4 ⟨rfl, b4⟩
      have H4 := hideK b4
      obtain ⟨c0, c1, c2, c3⟩ := HK.out w4 b4
      clear b4 a0 a1 a2 a3
      have hnq : ∀ W, (binOp .neq 32 (.agg #[.int .i64 r.1.N, .int .i64 r.1.D]) (.agg #[.int .i64 x.o.N, .int .i64 x.o.D])).run Try.prog W = .ok (.bool (!(r.1.N == x.o.N && r.1.D == x.o.D))) W := fun W => rt_neqK _ _ _ _ W
      go_upto_region 12 with fail
      obtain ⟨X, hX⟩ : ∃ X, w4.alloc (.cells #[.int .i64 r.1.N, .int .i64 r.1.D] 32) = X := ⟨_, rfl⟩
      have HX : Hid (Below w2.heap.size w2 X ∧ Two X w4.heap.size (.int .i64 r.1.N) (.int .i64 r.1.D) ∧ Below wq.heap.size wq X) := hideK (by
        rw [← hX]
        exact ⟨bup (bup HBe.out H4.out) (bel1 _ _), Two.new _ _ _ _, bup H4.out (bel1 _ _)⟩)
      rw [hX]
      clear hX H4 HBe c0 c1 c2 c3
      generalize w4.heap.size = Bb at *
      have HK2 : Hid (∀ W, Below X.heap.size X W → (W.cell? ⟨Bb, 0, none⟩ = some (.int .i64 r.1.N) ∧ W.cell? ⟨Bb, 1, none⟩ = some (.int .i64 r.1.D) ∧ W.cell? PA = some (.int .i64 x.i.N) ∧ W.cell? ⟨PA.block, PA.off + 1, none⟩ = some (.int .i64 x.i.D) ∧ W.cell? ⟨PA.block, PA.off + 2, none⟩ = some (.int .i64 x.o.N) ∧ W.cell? ⟨PA.block, PA.off + 3, none⟩ = some (.int .i64 x.o.D))) := hideK (fun W q => ⟨(HX.out.2.1.keep q).2.1, (HX.out.2.1.keep q).2.2.1, HK.out W (bup HX.out.2.2 q)⟩)
      obtain ⟨c0, c1, c2, c3, c4, c5⟩ := HK2.out X (Below.refl _ _)
      have hz : ∃ z : Bool, (r.2 == 0) = z ∧ (z = true → (!(r.1.N == x.o.N && r.1.D == x.o.D)) = false) := ⟨_, rfl, fun e => by
        rw [HRI.out.2 (by simpa using e)]
        simp⟩
      obtain ⟨z, hz1, hz2⟩ := hz
      have HFi := hideK (fun W => fineZ hz1 W)
      clear hz1
      generalize (!(r.1.N == x.o.N && r.1.D == x.o.D)) = nb at *
      cases z
      case false =>
        clear hz2
        go_quiet ((go_at_call 9; exact Calls.quiet_of_same (HFi.out _)))
        have HF := hideK HX.out.1
        clear c0 c1 c2 c3 c4 c5
        go_wp2_with fail
        go_roundw
        case rel => exact ⟨i + 1, by first | rfl | simp, by omega, below_drewN HF.out _⟩
        case measure => simp [intOf]; omega
      case true =>
        obtain rfl := hz2 rfl
        clear hz2
        go_region_held3 (fun W => W.cell? ⟨Bb, 0, none⟩ = some (.int .i64 r.1.N) ∧ W.cell? ⟨Bb, 1, none⟩ = some (.int .i64 r.1.D) ∧ W.cell? PA = some (.int .i64 x.i.N) ∧ W.cell? ⟨PA.block, PA.off + 1, none⟩ = some (.int .i64 x.i.D) ∧ W.cell? ⟨PA.block, PA.off + 2, none⟩ = some (.int .i64 x.o.N) ∧ W.cell? ⟨PA.block, PA.off + 3, none⟩ = some (.int .i64 x.o.D)) (first | go_keep | assumption) (first
          | (go_at_call 9; (with_reducible refine Calls.mono (HFi.out _) ?_); rintro e v1 ⟨rfl, b1⟩; have k1 : Below X.heap.size X v1 := (by rw [b1]; exact (Below.refl X.heap.size X).drew); clear b1; obtain ⟨e0, e1, e2, e3, e4, e5⟩ := HK2.out _ k1))
        have HF := hideK (bup HX.out.1 k1)
        clear e0 e1 e2 e3 e4 e5 c0 c1 c2 c3 c4 c5
        go_wp2_with fail
        go_roundw
        case rel => exact ⟨i + 1, by first | rfl | simp, by omega, HF.out⟩
        case measure => simp [intOf]; omega
    · obtain rfl : i = n := by omega
      have d1 : ¬ (i : Int) < (i : Int) := by omega
      have HBe := hideK hb
      clear hb hi hlt H3
      generalize wq = W4 at *
      go_wp2_with fail
      refine (HKs.out W4 HBe.out).mono ?_
      rintro e w5 ⟨va, rfl, hoa, b5⟩
      obtain ⟨oK, cK, rfl, hcK, hkK, -⟩ := own_kn hoa
      rw [HKK.out] at hcK
      rw [HKK.out]
      have HKO := hideK hkK
      have H5 := hideK (bup HBe.out b5)
      clear hoa hkK b5 HBe
      go_wp2_with fail
      go_loopw [11] (fun iv wq => ∃ j : Nat, iv = .int .i64 (j : Nat) ∧ j ≤ kk ∧ Below w5.heap.size w5 wq) (fun iv _ => kk - (intOf iv).toNat)
      case atStart => exact ⟨0, rfl, Nat.zero_le _, Below.refl _ _⟩
      case round =>
        obtain ⟨j, rfl, hj, hb⟩ := hrel
        obtain ⟨wq, rfl⟩ : ∃ wq, wq = wr := ⟨_, rfl⟩
        by_cases hlt : j < kk
        · obtain ⟨x, hx⟩ : ∃ x, K[j]? = some x := ⟨_, List.getElem?_eq_getElem (by rw [HKK.out]; omega)⟩
          have hxm := List.mem_of_getElem? hx
          have hxi := HKi.out x hxm
          have HXI := hideK hxi
          obtain ⟨A, rfl, hA, a0, a1, a2, a3⟩ := (HKO.out.keep hb).get hx
          have kA : (A.add (j * 4)).block < wq.heap.size := by rw [addrN_block]; exact hA
          generalize hPA : A.add (j * 4) = PA at *
          have HK : Hid (∀ W : World, Below wq.heap.size wq W → (W.cell? PA = some (.int .i64 x.i.N) ∧ W.cell? ⟨PA.block, PA.off + 1, none⟩ = some (.int .i64 x.i.D) ∧ W.cell? ⟨PA.block, PA.off + 2, none⟩ = some (.int .i64 x.o.N) ∧ W.cell? ⟨PA.block, PA.off + 3, none⟩ = some (.int .i64 x.o.D))) := hideK (fun W q => ⟨(q.cell kA).trans a0, (q.cell (p := ⟨PA.block, PA.off + 1, none⟩) kA).trans a1, (q.cell (p := ⟨PA.block, PA.off + 2, none⟩) kA).trans a2, (q.cell (p := ⟨PA.block, PA.off + 3, none⟩) kA).trans a3⟩)
          have hap := HAp.out wq x.i hxi.1 (bup H5.out hb)
          obtain ⟨hr, hro⟩ := HF2.out x hxm
          rw [hr] at hap
          have HRO := hideK hro
          have HBe := hideK hb
          have Hap := hideK hap
          clear hb hx hxi hap hr hA hxm hro
          have di : (j : Int) < (kk : Int) := by omega
          have wk : IntKind.i64.wrap ((j : Int) + 1) = ((j + 1 : Nat) : Int) := by rw [show ((j + 1 : Nat) : Int) = (j : Int) + 1 by omega]; exact IntWalk.i64_in _ ⟨by omega, by omega⟩
          go_wp2_with fail
          refine Hap.out.mono ?_
          rintro e w6 ⟨rfl, b6⟩
          have H6 := hideK b6
          obtain ⟨c0, c1, c2, c3⟩ := HK.out w6 b6
          clear b6 a0 a1 a2 a3
          have hnq : ∀ W, (binOp .neq 32 (.agg #[.int .i64 x.o.N, .int .i64 x.o.D]) (.agg #[.int .i64 x.o.N, .int .i64 x.o.D])).run Try.prog W = .ok (.bool false) W := fun W => by rw [rt_neqK]; simp
          go_upto_region 19 with fail
          obtain ⟨X, hX⟩ : ∃ X, w6.alloc (.cells #[.int .i64 x.o.N, .int .i64 x.o.D] 32) = X := ⟨_, rfl⟩
          have HX : Hid (Below w5.heap.size w5 X ∧ Two X w6.heap.size (.int .i64 x.o.N) (.int .i64 x.o.D) ∧ Below wq.heap.size wq X) := hideK (by
            rw [← hX]
            exact ⟨bup (bup HBe.out H6.out) (bel1 _ _), Two.new _ _ _ _, bup H6.out (bel1 _ _)⟩)
          rw [hX]
          clear hX H6 HBe c0 c1 c2 c3
          generalize w6.heap.size = Bb at *
          have HK2 : Hid (∀ W, Below X.heap.size X W → (W.cell? ⟨Bb, 0, none⟩ = some (.int .i64 x.o.N) ∧ W.cell? ⟨Bb, 1, none⟩ = some (.int .i64 x.o.D) ∧ W.cell? PA = some (.int .i64 x.i.N) ∧ W.cell? ⟨PA.block, PA.off + 1, none⟩ = some (.int .i64 x.i.D) ∧ W.cell? ⟨PA.block, PA.off + 2, none⟩ = some (.int .i64 x.o.N) ∧ W.cell? ⟨PA.block, PA.off + 3, none⟩ = some (.int .i64 x.o.D))) := hideK (fun W q => ⟨(HX.out.2.1.keep q).2.1, (HX.out.2.1.keep q).2.2.1, HK.out W (bup HX.out.2.2 q)⟩)
          obtain ⟨c0, c1, c2, c3, c4, c5⟩ := HK2.out X (Below.refl _ _)
          have HRi : Hid (∀ W : World, Calls Try.prog 12 #[.agg #[.int .i64 x.o.N, .int .i64 x.o.D]] W fun e w' => e = .returned (.bool true) ∧ Below W.heap.size W w') := hideK (fun W => by rw [← HRO.out]; exact right_any x.o HXI.out.2 W)
          go_region_held3 (fun W => W.cell? ⟨Bb, 0, none⟩ = some (.int .i64 x.o.N) ∧ W.cell? ⟨Bb, 1, none⟩ = some (.int .i64 x.o.D) ∧ W.cell? PA = some (.int .i64 x.i.N) ∧ W.cell? ⟨PA.block, PA.off + 1, none⟩ = some (.int .i64 x.i.D) ∧ W.cell? ⟨PA.block, PA.off + 2, none⟩ = some (.int .i64 x.o.N) ∧ W.cell? ⟨PA.block, PA.off + 3, none⟩ = some (.int .i64 x.o.D)) (first | go_keep | assumption) (first
            | (go_at_call 9; (with_reducible refine Calls.mono (fineZ (n := 0) (z := true) rfl _) ?_); rintro e v1 ⟨rfl, b1⟩; have k1 : Below X.heap.size X v1 := (by rw [b1]; exact (Below.refl X.heap.size X).drew); clear b1; obtain ⟨e0, e1, e2, e3, e4, e5⟩ := HK2.out _ k1)
            | (go_at_call 12; (with_reducible refine Calls.mono (HRi.out _) ?_); rintro e v2 ⟨rfl, b2⟩; have k2 : Below X.heap.size X v2 := (by first | exact k1.trans b2 | exact bup k1 b2 | exact k1.drew.trans b2); clear b2; obtain ⟨g0, g1, g2, g3, g4, g5⟩ := HK2.out _ k2))
          have HF := hideK (bup HX.out.1 k2)
          clear e0 e1 e2 e3 e4 e5 c0 c1 c2 c3 c4 c5 g0 g1 g2 g3 g4 g5 k1 k2
          go_wp2_with fail
          go_roundw
          case rel => exact ⟨j + 1, by first | rfl | simp, by omega, HF.out⟩
          case measure => simp [intOf]; omega
        · obtain rfl : j = kk := by omega
          have d2 : ¬ (j : Int) < (j : Int) := by omega
          have HBe := hideK (bup H5.out hb)
          clear hb hj hlt H5
          generalize wq = W6 at *
          go_wp2_with fail
          go_loopw [14] (fun iv wq => ∃ q : Nat, iv = .int .i64 (q : Nat) ∧ 1 ≤ q ∧ q ≤ m + 1 ∧ Below w2.heap.size w2 wq) (fun iv _ => m + 1 - (intOf iv).toNat)
          case atStart => exact ⟨1, rfl, Nat.le_refl _, by omega, HBe.out⟩
          case round =>
            obtain ⟨q, rfl, hq1, hq2, hb⟩ := hrel
            obtain ⟨wq, rfl⟩ : ∃ wq, wq = wr := ⟨_, rfl⟩
            by_cases hlt : q < m
            · obtain ⟨p, rfl⟩ : ∃ p, q = p + 1 := ⟨q - 1, by omega⟩
              obtain ⟨t0, ht0⟩ : ∃ t, T[p]? = some t := ⟨_, List.getElem?_eq_getElem (by rw [HM.out]; omega)⟩
              obtain ⟨t1, ht1⟩ : ∃ t, T[p + 1]? = some t := ⟨_, List.getElem?_eq_getElem (by rw [HM.out]; omega)⟩
              have hti0 := HT.out t0 (List.mem_of_getElem? ht0)
              have hti1 := HT.out t1 (List.mem_of_getElem? ht1)
              have hrt := HR.out.keep (bup H2.out hb)
              obtain ⟨A, rfl, hA, a0, a1⟩ := hrt.get ht0
              obtain ⟨A', eA, hA', a2, a3⟩ := hrt.get ht1
              cases eA
              have kA : (A.add (p * 2)).block < wq.heap.size := by rw [addrN_block]; exact hA
              have kB : (A.add ((p + 1) * 2)).block < wq.heap.size := by rw [addrN_block]; exact hA
              obtain ⟨q, hq⟩ : ∃ q, p + 1 = q := ⟨_, rfl⟩
              rw [hq] at a2 a3 kB hlt hq1 hq2 ⊢
              have dp : (p : Int) < (m : Int) := by omega
              have dq : (q : Int) < (m : Int) := by omega
              have wj : IntKind.i64.wrap ((q : Int) - 1) = (p : Int) := by rw [show (q : Int) - 1 = (p : Int) by omega]; exact IntWalk.i64_in _ ⟨by omega, by omega⟩
              have wk : IntKind.i64.wrap ((q : Int) + 1) = ((q + 1 : Nat) : Int) := by rw [show ((q + 1 : Nat) : Int) = (q : Int) + 1 by omega]; exact IntWalk.i64_in _ ⟨by omega, by omega⟩
              generalize hPA : A.add (p * 2) = PA at *
              generalize hPB : A.add (q * 2) = PB at *
              have HK : Hid (∀ W : World, Below wq.heap.size wq W → (W.cell? PA = some (.int .i64 t0.N) ∧ W.cell? ⟨PA.block, PA.off + 1, none⟩ = some (.int .i64 t0.D) ∧ W.cell? PB = some (.int .i64 t1.N) ∧ W.cell? ⟨PB.block, PB.off + 1, none⟩ = some (.int .i64 t1.D))) := hideK (fun W q => ⟨(q.cell kA).trans a0, (q.cell (p := ⟨PA.block, PA.off + 1, none⟩) kA).trans a1, (q.cell kB).trans a2, (q.cell (p := ⟨PB.block, PB.off + 1, none⟩) kB).trans a3⟩)
              have HBq := hideK hb
              have hap0 := hideK (fun (W : World) (q : Below wq.heap.size wq W) => HAp.out W t0 hti0 (bup HBq.out q))
              have hap1 := hideK (fun (W : World) (q : Below wq.heap.size wq W) => HAp.out W t1 hti1 (bup HBq.out q))
              obtain ⟨hr0, hr1, hcmp⟩ := HF3.out t0 t1
              generalize F t0 = r0 at hap0 hr0 hcmp
              generalize F t1 = r1 at hap1 hr1 hcmp
              have HC0 := hideK (fun W => cmp_any r0.1 r1.1 hr0 hr1 W)
              have HC1 := hideK (fun W => cmp_any t0 t1 hti0 hti1 W)
              unfold rtv at HC0 HC1
              have HCE := hideK hcmp
              clear hb ht0 ht1 hti0 hti1 hrt hA hA' hr0 hr1 hcmp
              go_wp2_with fail
              refine (hap0.out wq (Below.refl _ _)).mono ?_
              rintro e w7 ⟨rfl, b7⟩
              clear a0 a1 a2 a3
              go_upto_region 25 with fail
              obtain ⟨X, hX⟩ : ∃ X, w7.alloc (.cells #[.int .i64 r0.1.N, .int .i64 r0.1.D] 32) = X := ⟨_, rfl⟩
              have HX : Hid (Two X w7.heap.size (.int .i64 r0.1.N) (.int .i64 r0.1.D) ∧ Below wq.heap.size wq X) := hideK (by
                rw [← hX]
                exact ⟨Two.new _ _ _ _, bup b7 (bel1 _ _)⟩)
              rw [hX]
              clear hX b7
              generalize w7.heap.size = Bx at *
              obtain ⟨a0, a1, a2, a3⟩ := HK.out X HX.out.2
              go_wp2_with fail
              refine (hap1.out X HX.out.2).mono ?_
              rintro e w8 ⟨rfl, b8⟩
              clear a0 a1 a2 a3
              go_upto_region 26 with fail
              obtain ⟨Y, hY⟩ : ∃ Y, w8.alloc (.cells #[.int .i64 r1.1.N, .int .i64 r1.1.D] 32) = Y := ⟨_, rfl⟩
              have HY : Hid (Two Y Bx (.int .i64 r0.1.N) (.int .i64 r0.1.D) ∧ Two Y w8.heap.size (.int .i64 r1.1.N) (.int .i64 r1.1.D) ∧ Below wq.heap.size wq Y) := hideK (by
                rw [← hY]
                exact ⟨HX.out.1.keep (bup b8 (bel1 _ _)), Two.new _ _ _ _, bup HX.out.2 (bup b8 (bel1 _ _))⟩)
              rw [hY]
              clear hY b8 HX
              generalize w8.heap.size = By at *
              have HK2 : Hid (∀ W, Below Y.heap.size Y W → (W.cell? ⟨Bx, 0, none⟩ = some (.int .i64 r0.1.N) ∧ W.cell? ⟨Bx, 1, none⟩ = some (.int .i64 r0.1.D) ∧ W.cell? ⟨By, 0, none⟩ = some (.int .i64 r1.1.N) ∧ W.cell? ⟨By, 1, none⟩ = some (.int .i64 r1.1.D) ∧ W.cell? PA = some (.int .i64 t0.N) ∧ W.cell? ⟨PA.block, PA.off + 1, none⟩ = some (.int .i64 t0.D) ∧ W.cell? PB = some (.int .i64 t1.N) ∧ W.cell? ⟨PB.block, PB.off + 1, none⟩ = some (.int .i64 t1.D))) := hideK (fun W q => ⟨(HY.out.1.keep q).2.1, (HY.out.1.keep q).2.2.1, (HY.out.2.1.keep q).2.1, (HY.out.2.1.keep q).2.2.1, HK.out W (bup HY.out.2.2 q)⟩)
              have HYB := hideK (bup HBq.out HY.out.2.2)
              have hz : ∃ z0 z1 : Bool, (r0.2 == 0) = z0 ∧ (r1.2 == 0) = z1 ∧ (z0 = true → z1 = true → cmpI r0.1 r1.1 = cmpI t0 t1) := ⟨_, _, rfl, rfl, fun e e' => HCE.out (by simpa using e) (by simpa using e')⟩
              obtain ⟨z0, z1, hz0, hz1, hz2⟩ := hz
              have HF0 := hideK (fun W => fineZ hz0 W)
              have HF9 := hideK (fun W => fineZ hz1 W)
              clear hz0 hz1 HCE hap0 hap1
              generalize cmpI r0.1 r1.1 = c0 at *
              generalize cmpI t0 t1 = c1 at *
              cases z0
              case false =>
                clear hz2
                go_quiet ((go_at_call 9; first | exact Calls.quiet_of_same (HF0.out _) | exact Calls.quiet_of_same (HF9.out _)))
                go_wp2_with fail
                go_roundw
                case rel => exact ⟨q + 1, by first | rfl | simp, by omega, by omega, below_drewN HYB.out _⟩
                case measure => simp [intOf]; omega
              cases z1
              case true.false =>
                clear hz2
                go_quiet ((go_at_call 9; first | exact Calls.quiet_of_same (HF0.out _) | exact Calls.quiet_of_same (HF9.out _)))
                go_wp2_with fail
                go_roundw
                case rel => exact ⟨q + 1, by first | rfl | simp, by omega, by omega, below_drewN HYB.out _⟩
                case measure => simp [intOf]; omega
              obtain rfl := hz2 rfl rfl
              clear hz2
              obtain ⟨x0, x1, x2, x3, x4, x5, x6, x7⟩ := HK2.out Y (Below.refl _ _)
              go_region_held3 (fun W => W.cell? ⟨Bx, 0, none⟩ = some (.int .i64 r0.1.N) ∧ W.cell? ⟨Bx, 1, none⟩ = some (.int .i64 r0.1.D) ∧ W.cell? ⟨By, 0, none⟩ = some (.int .i64 r1.1.N) ∧ W.cell? ⟨By, 1, none⟩ = some (.int .i64 r1.1.D) ∧ W.cell? PA = some (.int .i64 t0.N) ∧ W.cell? ⟨PA.block, PA.off + 1, none⟩ = some (.int .i64 t0.D) ∧ W.cell? PB = some (.int .i64 t1.N) ∧ W.cell? ⟨PB.block, PB.off + 1, none⟩ = some (.int .i64 t1.D)) (first | go_keep | assumption) (first
                | (go_at_call 9; (with_reducible refine Calls.mono (HF0.out _) ?_); rintro e v1 ⟨rfl, b1⟩; have k1 : Below Y.heap.size Y v1 := (by rw [b1]; exact (Below.refl Y.heap.size Y).drew); clear b1; obtain ⟨e0, e1, e2, e3, e4, e5, e6, e7⟩ := HK2.out _ k1)
                | (go_at_call 9; (with_reducible refine Calls.mono (HF9.out _) ?_); rintro e v2 ⟨rfl, b2⟩; have k2 : Below Y.heap.size Y v2 := (by rw [b2]; first | exact k1 | exact k1.drew); clear b2; obtain ⟨g0, g1, g2, g3, g4, g5, g6, g7⟩ := HK2.out _ k2)
                | (go_at_call 13; (with_reducible refine Calls.mono (HC0.out _) ?_); rintro e v3 ⟨rfl, b3⟩; have k3 : Below Y.heap.size Y v3 := (by first | exact k2.trans b3 | exact bup k2 b3 | exact k2.drew.trans b3); clear b3; obtain ⟨m0, m1, m2, m3, m4, m5, m6, m7⟩ := HK2.out _ k3)
                | (go_at_call 13; (with_reducible refine Calls.mono (HC1.out _) ?_); rintro e v4 ⟨rfl, b4⟩; have k4 : Below Y.heap.size Y v4 := (by first | exact k3.trans b4 | exact bup k3 b4 | exact k3.drew.trans b4); clear b4; obtain ⟨n0, n1, n2, n3, n4, n5, n6, n7⟩ := HK2.out _ k4))
              have HF := hideK (bup HYB.out k4)
              clear x0 x1 x2 x3 x4 x5 x6 x7 e0 e1 e2 e3 e4 e5 e6 e7 g0 g1 g2 g3 g4 g5 g6 g7 m0 m1 m2 m3 m4 m5 m6 m7 n0 n1 n2 n3 n4 n5 n6 n7 k1 k2 k3 k4
              go_wp2_with fail
              go_roundw
              case rel => exact ⟨q + 1, by first | rfl | simp, by omega, by omega, HF.out⟩
              case measure => simp [intOf]; omega
            · have d3 : ¬ (q : Int) < (m : Int) := by omega
              have HBz := hideK hb
              clear hb
              go_wp2_with fail
              rw [← HP.out]
              exact ⟨rfl, bup H2.out HBz.out⟩
end Go.Proofs.Ytjbkhbhobnlhcaa
