/- The map through knots: retime's through is walked (chapter 6). -/
import Derived.Test.YtipnefaggpigfaaKnD
import Derived.Laws.OwnMore
import Derived.Deep.RegionLaw
import Derived.Maps.AppendAt
namespace Go.Proofs.Ytipnefaggpigfaa
open Go.RowKit Go.Shelf

theorem slL_drop : ∀ (i : Nat) (Q : List Kn), slL (Q.drop i) = (slL Q).drop i
  | 0, _ => rfl
  | _ + 1, [] => rfl
  | i + 1, [a] => by
    show slL ([].drop i) = _
    cases i <;> rfl
  | i + 1, a :: b :: t => by
    show slL ((b :: t).drop i) = (slL (b :: t)).drop i
    exact slL_drop i (b :: t)
theorem slL_get {Q : List Kn} {i : Nat} {a b : Kn} (ha : Q[i]? = some a) (hb : Q[i + 1]? = some b) : (slL Q)[i]? = some (slopeA a b).1 := by
  have h := slL_step ha hb
  rw [slL_drop] at h
  have h2 := congrArg (fun l : List Rt => l[0]?) h
  simpa [List.getElem?_drop] using h2
theorem slL_take {Q : List Kn} {i : Nat} {a b : Kn} (ha : Q[i]? = some a) (hb : Q[i + 1]? = some b) : (slL Q).take (i + 1) = (slL Q).take i ++ [(slopeA a b).1] := by
  rw [List.take_add_one, slL_get ha hb]
  rfl
theorem last_K (d : Rt) (L : List Rt) : (L.headD d :: L)[L.length]? = some (L.getLastD d) := by
  cases L with
  | nil => rfl
  | cons x T =>
    rw [List.length_cons, List.getElem?_cons_succ, List.getLastD_cons]
    cases T with
    | nil => rfl
    | cons y T => simp [List.getLastD_eq_getLast?, List.getLast?_eq_getElem?]
theorem Below.grown_none {A B W : World} (h : Below A.heap.size A B) (hg : B.grownBy W none) : Below A.heap.size A W := Below.grown h hg h.size (fun k hk => by cases hk)
theorem thr_close {w7 w7' w8 : World} {B0 g g1 g2 c1 c2 n m : Nat} {Q : List Kn} {SL : List Rt} {zn zd : Int} (h7 : w7.ownsRow B0 45 4 (.slice (some ⟨g1, 0, none⟩) n c1) n (flatKn Q)) (hb : Below w7.heap.size w7 w7')
    (h8 : w8.ownsRow B0 42 2 (.slice (some ⟨g2, 0, none⟩) m c2) m (flatRt SL ++ [.int .i64 zn, .int .i64 zd])) (hg : w7'.grownBy w8 (some g)) (hne : g1 ≠ g) (hs : slsK Q = SL ++ [⟨zn, zd⟩]) :
    MapAt (w8.alloc (.cells #[.slice (some ⟨g1, 0, none⟩) n c1, .slice (some ⟨g2, 0, none⟩) m c2] 83)) w8.heap.size Q (slsK Q) := by
  have e8 : flatRt SL ++ [.int .i64 zn, .int .i64 zd] = flatRt (slsK Q) := by rw [hs, flatRt_app]
  rw [e8] at h8
  have h7' := own_growK h7 hb
  have h9 : w8.ownsRow B0 45 4 (.slice (some ⟨g1, 0, none⟩) n c1) n (flatKn Q) := own_butK h7' (M := fun k => k = g) ⟨hg.os, hg.tape, hg.output, hg.size, fun k hk hn => hg.block k hk (fun e => hn (Option.some.inj e))⟩ (fun k hk e => hne ((Option.some.inj hk).trans e))
  have b9 := bel1 w8 (.cells #[.slice (some ⟨g1, 0, none⟩) n c1, .slice (some ⟨g2, 0, none⟩) m c2] 83)
  obtain ⟨o1, d1, e1, hc1, hk1, l1⟩ := own_kn (own_growK h9 b9)
  obtain ⟨o2, d2, e2, hc2, hk2, l2⟩ := own_rt (own_growK h8 b9)
  cases e1
  cases e2
  refine ⟨some ⟨g1, 0, none⟩, c1, some ⟨g2, 0, none⟩, c2, ?_, by rw [l1]; exact hc1, by rw [l2]; exact hc2, hk1, hk2⟩
  rw [l1, l2]
  exact World.alloc_heap_new _ _
set_option maxRecDepth 100000 in
set_option maxHeartbeats 2000000 in
theorem through_walk (Q : List Kn) (oa : Option Addr) (c : Nat) (hQ : ∀ x ∈ Q, KnIn x) (hc : Q.length ≤ c ∧ c ≤ maxLen) (h1 : 1 ≤ Q.length) (h2 : Q.length ≤ 1000) (er : Int) (her : slE Q = er) (w : World) (hO : KnO w oa Q) :
    Calls Try.prog 20 #[.slice oa Q.length c] w fun e w' => Below w.heap.size w w' ∧ ((er = 0 ∧ ∃ B, e = .returned (.tuple #[.pointer (some ⟨B, 0, none⟩), .int .i64 0]) ∧ w.heap.size ≤ B ∧ MapAt w' B Q (slsK Q)) ∨ (¬ er = 0 ∧ e = .returned (.tuple #[.pointer none, .int .i64 er]))) := by
  obtain ⟨i0, hI, hz0, hz1, hz2⟩ := info_partsK infoRtK
  obtain ⟨j0, hJ, hy0, hy1, hy2⟩ := info_partsK infoKnK
  have hmx : maxLen ≤ 9223372036854775807 := by decide
  obtain ⟨n, hn⟩ : ∃ n, Q.length = n := ⟨_, rfl⟩
  have HN := hideK hn
  rw [hn] at hc h1 h2 ⊢
  have HQ := hideK hQ
  have HO := hideK hO
  have HE := hideK her
  clear hn hQ hO her
  obtain ⟨PO, hPO⟩ : ∃ PO : Ending → World → Prop, (fun e w' => Below w.heap.size w w' ∧ ((er = 0 ∧ ∃ B, e = .returned (.tuple #[.pointer (some ⟨B, 0, none⟩), .int .i64 0]) ∧ w.heap.size ≤ B ∧ MapAt w' B Q (slsK Q)) ∨ (¬ er = 0 ∧ e = .returned (.tuple #[.pointer none, .int .i64 er])))) = PO := ⟨_, rfl⟩
  have HP := hideK hPO
  rw [hPO]
  clear hPO
  go_enter Try.func20, Try.ntmps20
  go_wp2_with fail
  refine (whole6 1 w).mono ?_
  rintro e w1 ⟨rfl, b1⟩
  have HB1 := hideK b1
  clear b1
  go_wp2_with fail
  obtain ⟨V, hV⟩ : ∃ V, w1.alloc (.cells #[.int .i64 1, .int .i64 1] 42) = V := ⟨_, rfl⟩
  have HV : Hid (Below w.heap.size w V ∧ V.ownsRow w.heap.size 42 2 (.slice (some ⟨w1.heap.size, 0, none⟩) 1 1) 1 (flatRt [⟨1, 1⟩])) := hideK (by
    rw [← hV]
    exact ⟨bup HB1.out (bel1 _ _), rfl, .inr ⟨w1.heap.size, 1, _, rfl, HB1.out.size, World.alloc_heap_new _ _, Nat.le_refl _, by unfold maxLen; omega, rfl, rfl⟩⟩)
  rw [hV]
  clear hV
  generalize w1.heap.size = R0 at *
  go_loopw [4, 5] (fun sv iv wq => ∃ i : Nat, iv = .int .i64 ((i + 1 : Nat) : Int) ∧ i + 1 ≤ n ∧ wq.ownsRow w.heap.size 42 2 sv (i + 1) (flatRt (⟨1, 1⟩ :: (slL Q).take i)) ∧ slE (Q.drop i) = er ∧ Below w.heap.size w wq) (fun _ iv _ => n - (intOf iv).toNat)
  case atStart => exact ⟨0, rfl, h1, HV.out.2, by rw [List.drop_zero]; exact HE.out, HV.out.1⟩
  case round =>
    obtain ⟨i, rfl, hi1, hown, hs, hb⟩ := hrel
    obtain ⟨wq, rfl⟩ : ∃ wq, wq = wr := ⟨_, rfl⟩
    by_cases hlt : i + 1 < n
    · obtain ⟨a, ha⟩ : ∃ a, Q[i]? = some a := ⟨_, List.getElem?_eq_getElem (by rw [HN.out]; omega)⟩
      obtain ⟨b, hb'⟩ : ∃ b, Q[i + 1]? = some b := ⟨_, List.getElem?_eq_getElem (by rw [HN.out]; omega)⟩
      have HS := hideK (slE_step ha hb')
      have HT := hideK (slL_take ha hb')
      obtain ⟨A, rfl, hA, a0, a1, a2, a3⟩ := HO.out.keep hb i a ha
      obtain ⟨A', hA', -, b0, b1, b2, b3⟩ := HO.out.keep hb (i + 1) b hb'
      obtain rfl : A = A' := Option.some.inj hA'
      have kA : (A.add (i * 4)).block < wq.heap.size := by rw [addrN_block]; exact hA
      have kB : (A.add ((i + 1) * 4)).block < wq.heap.size := by rw [addrN_block]; exact hA
      have HC := hideK (show ∀ W : World, Calls Try.prog 53 #[.agg #[.int .i64 a.i.N, .int .i64 a.i.D, .int .i64 a.o.N, .int .i64 a.o.D], .agg #[.int .i64 b.i.N, .int .i64 b.i.D, .int .i64 b.o.N, .int .i64 b.o.D]] W fun e w' => e = .returned (.tuple #[.agg #[.int .i64 (slopeA a b).1.N, .int .i64 (slopeA a b).1.D], .int .i64 (slopeA a b).2]) ∧ Below W.heap.size W w' from fun W => slope_any a b (HQ.out a (List.mem_of_getElem? ha)) (HQ.out b (List.mem_of_getElem? hb')) W)
      obtain ⟨r, hr⟩ : ∃ r, slopeA a b = r := ⟨_, rfl⟩
      rw [hr] at HC HS HT
      have HA := hideK (And.intro hown (And.intro hs hb))
      clear hr hown hs hb ha hb' hA'
      obtain ⟨j, hj⟩ : ∃ j, i + 1 = j := ⟨_, rfl⟩
      have hj1 : 1 ≤ j ∧ j < n := by omega
      rw [hj] at b0 b1 b2 b3 kB HS HT HA ⊢
      have d1 : (j : Int) < (n : Int) := by omega
      have wj : IntKind.i64.wrap ((j : Int) - 1) = (i : Int) := by rw [show (j : Int) - 1 = (i : Int) by omega]; exact IntWalk.i64_in _ ⟨by omega, by omega⟩
      have wk : IntKind.i64.wrap ((j : Int) + 1) = ((j + 1 : Nat) : Int) := by rw [show ((j + 1 : Nat) : Int) = (j : Int) + 1 by omega]; exact IntWalk.i64_in _ ⟨by omega, by omega⟩
      have di : (i : Int) < (n : Int) := by omega
      generalize hPA : A.add (i * 4) = PA at *
      generalize hPB : A.add (j * 4) = PB at *
      have HK : Hid (∀ w' : World, Below wq.heap.size wq w' → (w'.cell? PA = some (.int .i64 a.i.N) ∧ w'.cell? ⟨PA.block, PA.off + 1, none⟩ = some (.int .i64 a.i.D) ∧ w'.cell? ⟨PA.block, PA.off + 2, none⟩ = some (.int .i64 a.o.N) ∧ w'.cell? ⟨PA.block, PA.off + 3, none⟩ = some (.int .i64 a.o.D) ∧ w'.cell? PB = some (.int .i64 b.i.N) ∧ w'.cell? ⟨PB.block, PB.off + 1, none⟩ = some (.int .i64 b.i.D) ∧ w'.cell? ⟨PB.block, PB.off + 2, none⟩ = some (.int .i64 b.o.N) ∧ w'.cell? ⟨PB.block, PB.off + 3, none⟩ = some (.int .i64 b.o.D))) := hideK (fun w' q => ⟨(q.cell kA).trans a0, (q.cell (p := ⟨PA.block, PA.off + 1, none⟩) kA).trans a1, (q.cell (p := ⟨PA.block, PA.off + 2, none⟩) kA).trans a2, (q.cell (p := ⟨PA.block, PA.off + 3, none⟩) kA).trans a3, (q.cell kB).trans b0, (q.cell (p := ⟨PB.block, PB.off + 1, none⟩) kB).trans b1, (q.cell (p := ⟨PB.block, PB.off + 2, none⟩) kB).trans b2, (q.cell (p := ⟨PB.block, PB.off + 3, none⟩) kB).trans b3⟩)
      go_upto_region 5 with fail
      go_cut [6, 7] (fun p e wx => ∃ q, p = .pointer (some ⟨q, 0, none⟩) ∧ e = .int .i64 r.2 ∧ wq.heap.size ≤ q ∧ Two wx q (.int .i64 r.1.N) (.int .i64 r.1.D) ∧ Below wq.heap.size wq wx)
      case first =>
        go_region_held3 (fun w' => w'.cell? PA = some (.int .i64 a.i.N) ∧ w'.cell? ⟨PA.block, PA.off + 1, none⟩ = some (.int .i64 a.i.D) ∧ w'.cell? ⟨PA.block, PA.off + 2, none⟩ = some (.int .i64 a.o.N) ∧ w'.cell? ⟨PA.block, PA.off + 3, none⟩ = some (.int .i64 a.o.D) ∧ w'.cell? PB = some (.int .i64 b.i.N) ∧ w'.cell? ⟨PB.block, PB.off + 1, none⟩ = some (.int .i64 b.i.D) ∧ w'.cell? ⟨PB.block, PB.off + 2, none⟩ = some (.int .i64 b.o.N) ∧ w'.cell? ⟨PB.block, PB.off + 3, none⟩ = some (.int .i64 b.o.D)) (first | go_keep | assumption | exact HK.out _ (((bup c4 (bel1 _ _)).setCell (by simp; omega) _).setCell (by simp; omega) _) | exact HK.out _ ((c4.setCell (by simp) _).setCell (by simp) _)) (first
          | (go_at_call 53; (with_reducible refine Calls.mono (HC.out _) ?_); rintro e w4 ⟨rfl, b4⟩; (first | (have c4 : Below wq.heap.size wq w4 := (Below.refl wq.heap.size wq).drew.trans b4) | (have T4 : Hid (Two w4 wq.heap.size (.int .i64 0) (.int .i64 0)) := hideK ((Two.new wq.drew (.int .i64 0) (.int .i64 0) 42).keep b4); obtain ⟨_, g0, g1, g2, g3⟩ := T4.out; have c4 : Below wq.heap.size wq w4 := bup (bup (Below.refl _ wq).drew (bel1 wq.drew _)) b4)); have z4 := c4.size; obtain ⟨e0, e1, e2, e3, f0, f1, f2, f3⟩ := HK.out _ c4))
        all_goals first | go_wp2_with fail | skip
        all_goals go_meet
        all_goals first
          | exact ⟨_, rfl, rfl, z4, Two.new w4 _ _ _, bup c4 (bel1 _ _)⟩
          | exact ⟨_, rfl, rfl, Nat.le_refl _, T4.out.set, (c4.setCell (by simp) _).setCell (by simp) _⟩
      case rest =>
        obtain ⟨q, rfl, rfl, hq, hT, hbx⟩ := hcut
        generalize wc = X at *
        have HX := hideK (And.intro hq (And.intro hT hbx))
        clear hq hT hbx HK a0 a1 a2 a3 b0 b1 b2 b3 kA kB HC HO
        obtain ⟨_, k0, k1, _, _⟩ := HX.out.2.1
        have hzX := HX.out.2.2.size
        have hzw := HA.out.2.2.size
        by_cases hr : r.2 = 0
        · have hownX := own_growK HA.out.1 HX.out.2.2
          go_wp2_with (at_builtin; refine wpList_append_lies _ rfl _ _ 23 rfl w.heap.size 42 i0 _ 2 16 Try.underlying23 hI hz0 hz1 hz2 rfl (by decide) _ j (flatRt (⟨1, 1⟩ :: (slL Q).take i)) rfl (hownX.alloc _) ⟨X.heap.size, 0, none⟩ 1 1 [.int .i64 r.1.N, .int .i64 r.1.D] rfl rfl (World.news_of_block (cs := #[.int .i64 r.1.N, .int .i64 r.1.D]) (t := 42) (fr := (0, 0)) (World.alloc_heap_new X _)) (by simp [Value.oneCell']) (by omega) (by unfold maxLen; omega) (by omega) (by simp; omega) (X.heap.size + 1) (by simp) ?_; intro gg cap2 w6 hown6 hgrow6 hat6 hlt6)
          go_roundw
          case rel =>
            refine ⟨j, by first | rfl | simp, by omega, ?_, ?_, ?_⟩
            · rw [HT.out, ← List.cons_append, flatRt_app]
              exact hown6
            · have h9 := HS.out
              rw [if_pos hr, HA.out.2.1] at h9
              exact h9.symm
            · exact Below.grown ((HA.out.2.2.trans (HX.out.2.2.mono hzw)).alloc (by omega) _) hgrow6 (by rw [World.size_alloc]; omega) (fun k hk => (hownX.lt k hk).1)
          case measure => simp [intOf]; omega
        · have he : er = r.2 := by
            have h9 := HS.out
            rw [if_neg hr, HA.out.2.1] at h9
            exact h9
          have HEr := hideK he
          clear he
          go_wp2_with fail
          rw [← HP.out]
          exact ⟨bup HA.out.2.2 HX.out.2.2, .inr ⟨by rw [HEr.out]; exact hr, by rw [HEr.out]; rfl⟩⟩
    · obtain rfl : er = 0 := by rw [← hs]; exact slE_end (by rw [HN.out]; omega)
      have hin : i + 1 = n := by omega
      have hSL : (slL Q).take i = slL Q := List.take_of_length_le (by rw [slL_len, HN.out]; omega)
      rw [hSL] at hown
      obtain ⟨g, cap, rfl, hg1, hg2⟩ := World.ownsRow.form hown (by omega)
      have HA := hideK (And.intro hown hb)
      have hlen : (slL Q).length = i := by rw [slL_len, HN.out]; omega
      have HL := hideK hlen
      clear hown hs hb hSL hlen
      subst hin
      have d1 : ¬ ((i + 1 : Nat) : Int) < ((i + 1 : Nat) : Int) := by omega
      have d2 : ¬ ((i : Nat) : Int) + 1 < ((i : Nat) : Int) + 1 := by omega
      go_upto_if 38 with fail
      go_cut [] (fun wx => wx.ownsRow w.heap.size 42 2 (.slice (some ⟨g, 0, none⟩) (i + 1) cap) (i + 1) (flatRt ((slL Q).headD ⟨1, 1⟩ :: slL Q)) ∧ Below w.heap.size w wx)
      case first =>
        cases hsl : slL Q with
        | nil =>
          have hi0 : i = 0 := by rw [← HL.out, hsl]; rfl
          subst hi0
          have p1 := HA.out
          rw [hsl] at p1
          go_wp2_with fail
          go_meet
          rw [hsl]
          exact p1
        | cons s T =>
          have hi0 : 0 < i := by rw [← HL.out, hsl]; simp
          have p1 := HA.out
          rw [hsl] at p1
          have c2 := p1.1.cellAt 2 (by omega)
          have c3 := p1.1.cellAt 3 (by omega)
          have f0 := p1.1.frozenAt 0
          have f1 := p1.1.frozenAt 1
          have c0 := p1.1.cellAt 0 (by omega)
          have c1 := p1.1.cellAt 1 (by omega)
          rw [show (flatRt (⟨1, 1⟩ :: s :: T))[2]? = some (.int .i64 s.N) from rfl] at c2
          rw [show (flatRt (⟨1, 1⟩ :: s :: T))[3]? = some (.int .i64 s.D) from rfl] at c3
          rw [show (flatRt (⟨1, 1⟩ :: s :: T))[0]? = some (.int .i64 1) from rfl] at c0
          rw [show (flatRt (⟨1, 1⟩ :: s :: T))[1]? = some (.int .i64 1) from rfl] at c1
          have d3 : (1 : Int) < (i : Int) + 1 := by omega
          have d4 : (0 : Int) < (i : Int) + 1 := by omega
          have HP1 := hideK p1
          clear p1
          go_wp2_with fail
          go_meet
          rw [hsl]
          exact ⟨((HP1.out.1.stored 0 _).1.stored 1 _).1, (HP1.out.2.setCell (by simpa using hg1) _).setCell (by simpa using hg1) _⟩
      case rest =>
        obtain ⟨hown, hb⟩ := hcut
        generalize wc = X at *
        clear HA hg2
        obtain ⟨x0, hx0⟩ : ∃ x, Q[0]? = some x := ⟨_, List.getElem?_eq_getElem (by rw [HN.out]; omega)⟩
        obtain ⟨A, rfl, hA, -⟩ := HO.out 0 x0 hx0
        clear hx0
        have hzl := last_K ⟨1, 1⟩ (slL Q)
        rw [HL.out] at hzl
        have hsz : slsK Q = ((slL Q).headD ⟨1, 1⟩ :: slL Q) ++ [(slL Q).getLastD ⟨1, 1⟩] := rfl
        generalize (slL Q).getLastD ⟨1, 1⟩ = z at hzl hsz
        obtain ⟨zn, zd⟩ := z
        generalize (slL Q).headD ⟨1, 1⟩ :: slL Q = SL at hzl hsz hown
        have k01 := flatRt_get hzl
        have HSz := hideK hsz
        have HS : Hid (∀ W, Below X.heap.size X W → W.cell? ⟨g, i * 2, none⟩ = some (.int .i64 zn) ∧ W.cell? ⟨g, i * 2 + 1, none⟩ = some (.int .i64 zd) ∧ W.ownsRow w.heap.size 42 2 (.slice (some ⟨g, 0, none⟩) (i + 1) cap) (i + 1) (flatRt SL)) := hideK (fun W q => by
          have ho := own_growK hown q
          refine ⟨?_, ?_, ho⟩
          · rw [ho.cellAt _ (by omega)]
            exact k01.1
          · rw [ho.cellAt _ (by omega)]
            exact k01.2)
        have HX := hideK (And.intro hown hb)
        obtain ⟨k0, k1, -⟩ := HS.out X (Below.refl _ _)
        clear hown hb hzl hsz k01
        have hXz := HX.out.2.size
        have wi : IntKind.i64.wrap (i : Int) = (i : Int) := IntWalk.i64_in _ ⟨by omega, by omega⟩
        have di : (i : Int) < (i : Int) + 1 := by omega
        have HW : Hid (∀ W, Below X.heap.size X W → ∀ j u, (flatKn Q)[j]? = some u → W.cell? (A.add j) = some u) := hideK (fun W q => KnO.news ((HO.out.keep HX.out.2).keep q))
        go_upto_region 11 with fail
        go_region_law (first
          | (refine step_append_lies _ (by rfl) _ _ 22 (by rfl) w.heap.size 45 j0 _ 4 32 Try.underlying22 hJ hy0 hy1 hy2 rfl (by decide) (.slice none 0 0) 0 [] (by rfl) (World.ownsRow_nil _ _ _ _) A (i + 1) c (flatKn Q) (by rfl) (by rw [flatKn_len, HN.out]) (HW.out _ (by first | exact (Below.refl X.heap.size X).drew | exact (Below.refl X.heap.size X).drew.alloc (Nat.le_refl _) _)) (flatKn_one Q) (by omega) (by unfold maxLen; omega) (by omega) (by first | exact hXz | exact Nat.le_succ_of_le hXz | (simp; omega)) _ rfl ?_; intro g1 cap1 w7 hown7 hgr7 hat7 hlt7; (have B7 : Below X.heap.size X w7 := by first | exact Below.grown_none (Below.refl X.heap.size X).drew hgr7 | exact Below.grown_none ((Below.refl X.heap.size X).drew.alloc (Nat.le_refl _) _) hgr7); obtain ⟨k70, k71, hS7⟩ := HS.out _ B7)
          | (refine step_append_lies _ (by rfl) _ _ 23 (by rfl) w.heap.size 42 i0 _ 2 16 Try.underlying23 hI hz0 hz1 hz2 rfl (by decide) (.slice (some ⟨g, 0, none⟩) (i + 1) cap) (i + 1) (flatRt SL) (by rfl) (hS7.alloc _) ⟨w7.heap.size, 0, none⟩ 1 1 [.int .i64 zn, .int .i64 zd] (by rfl) rfl (World.news_of_block (cs := #[.int .i64 zn, .int .i64 zd]) (t := 42) (fr := (0, 0)) (World.alloc_heap_new w7 _)) (by simp [Value.oneCell']) (by omega) (by unfold maxLen; omega) (by omega) (by have := B7.size; simp; omega) _ rfl ?_; intro g2 cap2 w8 hown8 hgr8 hat8 hlt8)
          | (refine step_append_lies _ (by rfl) _ _ 23 (by rfl) w.heap.size 42 i0 _ 2 16 Try.underlying23 hI hz0 hz1 hz2 rfl (by decide) (.slice (some ⟨g, 0, none⟩) (i + 1) cap) (i + 1) (flatRt SL) (by rfl) hS7 ⟨X.heap.size, 0, none⟩ 1 1 [.int .i64 zn, .int .i64 zd] (by rfl) rfl (World.news_of_block (cs := #[.int .i64 zn, .int .i64 zd]) (t := 42) (fr := (0, 0)) ((hgr7.block X.heap.size (by simp) (fun e => by cases e)).trans (World.alloc_heap_new X.drew _))) (by simp [Value.oneCell']) (by omega) (by unfold maxLen; omega) (by omega) (by have := B7.size; omega) _ rfl ?_; intro g2 cap2 w8 hown8 hgr8 hat8 hlt8))
        all_goals
          have HF := hideK (And.intro hown7 (And.intro hown8 (And.intro hgr8 (And.intro hat7 B7))))
          have hgX := (HX.out.1.lt g rfl).2
          clear hown7 hown8 hgr8 hat7 B7 k0 k1 k70 k71 hS7
          go_wp2_with fail
          obtain ⟨h7, h8, h9, h10, hB7⟩ := HF.out
          rw [Nat.zero_add] at h7
          have hge : X.heap.size ≤ g1 := by
            rcases h10 with e | e
            · cases e
            · rw [e]
              first | exact Nat.le_refl _ | exact Nat.le_succ _ | (simp; done) | (rw [World.size_alloc]; exact Nat.le_succ _)
          have hB8 := (bup HX.out.2 hB7)
          have hz7 := hB8.size
          have hz8 := h9.size
          have hgw : w.heap.size ≤ g := (HX.out.1.lt g rfl).1
          have hne : g1 ≠ g := by omega
          rw [← HP.out]
          first
            | exact ⟨bup (Below.grown hB8 h9 hz7 (fun k hk => by cases hk; exact hgw)) (bel1 _ _), .inl ⟨by first | trivial | rfl, w8.heap.size, rfl, Nat.le_trans hz7 hz8, thr_close h7 (Below.refl _ _) h8 h9 hne HSz.out⟩⟩
            | exact ⟨bup (Below.grown (bup hB8 (bel1 _ _)) h9 (by rw [World.size_alloc]; omega) (fun k hk => by cases hk; exact hgw)) (bel1 _ _), .inl ⟨by first | trivial | rfl, w8.heap.size, rfl, Nat.le_trans hz7 (Nat.le_trans (Nat.le_succ _) (by rw [World.size_alloc] at hz8; exact hz8)), thr_close h7 (bel1 _ _) h8 h9 hne HSz.out⟩⟩
theorem through_any (Q : List Kn) (oa : Option Addr) (c : Nat) (hQ : ∀ x ∈ Q, KnIn x) (hc : Q.length ≤ c ∧ c ≤ maxLen) (h1 : 1 ≤ Q.length) (h2 : Q.length ≤ 1000) (w : World) (hO : KnO w oa Q) :
    Calls Try.prog 20 #[.slice oa Q.length c] w fun e w' => Below w.heap.size w w' ∧ ((slE Q = 0 ∧ ∃ B, e = .returned (.tuple #[.pointer (some ⟨B, 0, none⟩), .int .i64 0]) ∧ w.heap.size ≤ B ∧ MapAt w' B Q (slsK Q)) ∨ (¬ slE Q = 0 ∧ e = .returned (.tuple #[.pointer none, .int .i64 (slE Q)]))) :=
  through_walk Q oa c hQ hc h1 h2 _ rfl w hO
end Go.Proofs.Ytipnefaggpigfaa
