/- RetimeOnly: the walk (chapter 6). -/
import Derived.Test.YtkinnnegkjpggaaGB
import Derived.Test.YtkinnnegkjpggaaGA
import Derived.Test.YtkinnnegkjpggaaGC
import Derived.Deep.RegionHeld3
import Derived.LoopIn
namespace Go.Proofs.Ytkinnnegkjpggaa
open Go.RowKit Go.Shelf

theorem own_slK6 {W : World} {b : Nat} {e : TypeId} {sz n : Nat} {v : Value} {xs : List Value} (h : W.ownsRow b e sz v n xs) : ∃ o c, v = .slice o n c := by
  rcases h.2 with ⟨rfl, rfl⟩ | ⟨g, cap, cur, rfl, _⟩
  · exact ⟨none, 0, rfl⟩
  · exact ⟨_, cap, rfl⟩
/-- The knots so far, one more among them or not yet. -/
def MoreOf (L : List Kn) (kt : Kn) (i : Nat) (d : Bool) (M : List Kn) : Prop := (d = false ∧ M = L.take i) ∨ (d = true ∧ ∃ p, p ≤ i ∧ M = L.take p ++ kt :: (L.drop p).take (i - p))
theorem MoreOf.step {L : List Kn} {kt x : Kn} {i : Nat} {d : Bool} {M : List Kn} (h : MoreOf L kt i d M) (hx : L[i]? = some x) : MoreOf L kt (i + 1) d (M ++ [x]) := by
  rcases h with ⟨h1, rfl⟩ | ⟨h1, p, hp, rfl⟩
  · refine .inl ⟨h1, ?_⟩
    rw [List.take_add_one, hx]
    rfl
  · refine .inr ⟨h1, p, by omega, ?_⟩
    rw [show i + 1 - p = (i - p) + 1 by omega, List.take_add_one, List.getElem?_drop, show p + (i - p) = i by omega, hx]
    simp
theorem MoreOf.put {L : List Kn} {kt : Kn} {i : Nat} {M : List Kn} (h : MoreOf L kt i false M) : MoreOf L kt i true (M ++ [kt]) := by
  rcases h with ⟨-, rfl⟩ | ⟨h1, -⟩
  · exact .inr ⟨rfl, i, Nat.le_refl _, by simp⟩
  · cases h1
theorem MoreOf.done {L : List Kn} {kt : Kn} {M : List Kn} (h : MoreOf L kt L.length true M) : ∃ p, M = L.take p ++ kt :: L.drop p := by
  rcases h with ⟨h1, -⟩ | ⟨-, p, hp, rfl⟩
  · cases h1
  · exact ⟨p, by rw [show (L.drop p).take (L.length - p) = L.drop p from List.take_of_length_le (by simp)]⟩
theorem MoreOf.len {L : List Kn} {kt : Kn} {i : Nat} {d : Bool} {M : List Kn} (h : MoreOf L kt i d M) (hi : i ≤ L.length) : M.length ≤ i + 1 := by
  rcases h with ⟨-, rfl⟩ | ⟨-, p, hp, rfl⟩
  · rw [List.length_take]; omega
  · simp; omega
theorem MoreOf.in_ {L : List Kn} {kt : Kn} {i : Nat} {d : Bool} {M : List Kn} (h : MoreOf L kt i d M) (hL : ∀ x ∈ L, KnIn x) (hk : KnIn kt) : ∀ x ∈ M, KnIn x := by
  intro x hx
  rcases h with ⟨-, rfl⟩ | ⟨-, p, hp, rfl⟩
  · exact hL x (List.mem_of_mem_take hx)
  · rcases List.mem_append.1 hx with hx | hx
    · exact hL x (List.mem_of_mem_take hx)
    · rcases List.mem_cons.1 hx with rfl | hx
      · exact hk
      · exact hL x (List.mem_of_mem_drop (List.mem_of_mem_take hx))
set_option maxRecDepth 100000 in
theorem fineQ6 (n : Int) (w : World) : Calls Try.prog 8 #[.int .i64 n] w fun e w' => e = .returned (.bool (n == 0)) ∧ w' = w := by
  go_enter Try.func8, Try.ntmps8
  go_wp2_with fail
  go_ret
  exact ⟨rfl, rfl⟩
set_option maxRecDepth 100000 in
set_option maxHeartbeats 8000000 in
theorem only6_walk (L : List Kn) (oa : Option Addr) (cl : Nat) (t : Rt) (hL : ∀ x ∈ L, KnIn x) (ht : RtIn t) (hcl : L.length ≤ cl ∧ cl ≤ maxLen) (w : World) (hO : KnO w oa L) :
    Calls Try.prog 3 #[.slice oa L.length cl, .agg #[.int .i64 t.N, .int .i64 t.D]] w fun e w' => e = .returned (.bool true) ∧ Below w.heap.size w w' := by
  obtain ⟨j0, hJ, hy0, hy1, hy2⟩ := info_partsK infoKnK
  have hmx : maxLen ≤ 9223372036854775807 := by decide
  obtain ⟨n, hn⟩ : ∃ n, L.length = n := ⟨_, rfl⟩
  have HN := hideK hn
  have HO := hideK hO
  have HL := hideK hL
  have HT := hideK ht
  have hnw := hideK (fun (W : World) (q : Below w.heap.size w W) => new_any6 L oa cl hL hcl W (hO.keep q))
  rw [hn] at hcl hnw ⊢
  clear hn hO hL ht
  obtain ⟨PO, hPO⟩ : ∃ PO : Ending → World → Prop, (fun e w' => e = .returned (.bool true) ∧ Below w.heap.size w w') = PO := ⟨_, rfl⟩
  have HP := hideK hPO
  rw [hPO]
  clear hPO
  go_enter Try.func3, Try.ntmps3
  go_upto_region 1 with fail
  obtain ⟨X, hX⟩ : ∃ X, w.alloc (.cells #[.int .i64 t.N, .int .i64 t.D] 24) = X := ⟨_, rfl⟩
  obtain ⟨Bt, hBt⟩ : ∃ Bt, w.heap.size = Bt := ⟨_, rfl⟩
  have HX : Hid (Below w.heap.size w X ∧ Two X Bt (.int .i64 t.N) (.int .i64 t.D)) := hideK (by
    rw [← hX]
    exact ⟨bel1 _ _, by rw [← hBt]; exact Two.new _ _ _ _⟩)
  rw [hX]
  clear hX
  have HBt := hideK hBt
  rw [show (.pointer (some ⟨w.heap.size, 0, none⟩) : Value) = .pointer (some ⟨Bt, 0, none⟩) by rw [hBt]]
  clear hBt
  go_wp2_with fail
  refine (known6_any X).mono ?_
  rintro e w1 ⟨rfl, b1⟩
  have H1 := hideK (bup HX.out.1 b1)
  have HT1 := hideK (HX.out.2.keep b1)
  clear b1 HX
  go_wp2_with fail
  refine (hnw.out w1 H1.out).mono ?_
  rintro e w2 ⟨b2, h2⟩
  have H2 := hideK (bup H1.out b2)
  have HT2 := hideK (HT1.out.keep b2)
  clear b2 hnw H1 HT1
  rcases h2 with ⟨hE, B, rfl, -, hM⟩ | ⟨hE, rfl⟩
  case inr =>
    have hf : (newE L == 0) = false := by simpa using hE
    clear hE
    go_wp2_with fail
    refine (fine6 _ w2).mono ?_
    rintro e w3 ⟨rfl, b3⟩
    have H3 := hideK (bup H2.out b3)
    clear b3
    go_wp2_with fail
    rw [← HP.out]
    exact ⟨rfl, H3.out⟩
  case inl =>
  have HMA := hideK hM
  have HE := hideK hE
  clear hM
  obtain ⟨g1, g2⟩ := own_again hE
  have hni := new_in L HL.out
  have hpi := pts_in (bndK L) (bnd_in L HL.out)
  have hbl := bnd_len L
  have hkl : (newK L).length ≤ n + 2 ∧ 1 ≤ (newK L).length := by
    rw [hni.2, ← HN.out]
    exact ⟨by show (ptsA (bndK L)).length ≤ _; omega, hpi.2.2⟩
  have hn64 : n ≤ 64 := by
    have := (chk_ok (newE_zero hE).1).2.1
    rw [HN.out] at this
    exact this
  have HRis := new_ris hE
  have HSin := sls_in (newK L) hni.1
  have hsl := sls_len (newK L) hkl.2
  have HMo : Hid (∀ p, 2 ≤ L.length → (appF (newK L) (slsK (newK L)) t).2 = 0 → newE (L.take p ++ ⟨t, (appF (newK L) (slsK (newK L)) t).1⟩ :: L.drop p) = 0 → newK (L.take p ++ ⟨t, (appF (newK L) (slsK (newK L)) t).1⟩ :: L.drop p) = newK L) := hideK (fun p h2 h0 hm => more_same hE h2 h0 hm)
  have HAp : Hid (∀ (W : World), Below w2.heap.size w2 W → Calls Try.prog 11 #[.pointer (some ⟨B, 0, none⟩), .agg #[.int .i64 t.N, .int .i64 t.D]] W fun e w' => e = .returned (.tuple #[.agg #[.int .i64 (appF (newK L) (slsK (newK L)) t).1.N, .int .i64 (appF (newK L) (slsK (newK L)) t).1.D], .int .i64 (appF (newK L) (slsK (newK L)) t).2]) ∧ Below W.heap.size W w') := hideK (fun W q => apply_fun _ _ B t hni.1 HSin HT.out hsl (by omega) hkl.2 HRis W (HMA.out.keep q))
  have HKs : Hid (∀ (W : World) (C : Nat), MapAt W C (newK L) (slsK (newK L)) → Calls Try.prog 9 #[.pointer (some ⟨C, 0, none⟩)] W fun e w' => ∃ v, e = .returned v ∧ w'.ownsRow W.heap.size 37 4 v (newK L).length (flatKn (newK L)) ∧ Below W.heap.size W w') := hideK (fun W C h => knots_any6 (newK L) (slsK (newK L)) C (by omega) hkl.2 W h)
  have HN2 : Hid (∀ (W : World) (o : Option Addr) (c : Nat), ((newK L).length ≤ c ∧ c ≤ maxLen) → KnO W o (newK L) → Calls Try.prog 7 #[.slice o (newK L).length c] W fun e w' => Below W.heap.size W w' ∧ ∃ C, e = .returned (.tuple #[.pointer (some ⟨C, 0, none⟩), .int .i64 0]) ∧ MapAt w' C (newK L) (slsK (newK L))) := hideK (fun W o c hc hk => (new_any6 (newK L) o c hni.1 hc W hk).mono (by
    rintro e w' ⟨b, h⟩
    rw [g2] at h
    rcases h with ⟨-, C, he, -, hm⟩ | ⟨h0, -⟩
    · exact ⟨b, C, he, hm⟩
    · exact absurd g1 h0))
  have hri : RtIn (appF (newK L) (slsK (newK L)) t).1 := appF_in _ _ _
  have HRI := hideK hri
  obtain ⟨kk, hkk⟩ : ∃ kk, (newK L).length = kk := ⟨_, rfl⟩
  have HKK := hideK hkk
  rw [hkk] at hkl HKs HN2
  clear hkk hni hpi hbl HRis HSin hsl hE g1 g2 hri
  generalize appF (newK L) (slsK (newK L)) t = r at *
  have hMA := HMA.out
  generalize hK : newK L = K at *
  go_wp2_with fail
  refine (fine6 0 w2).mono ?_
  rintro e w3 ⟨rfl, b3⟩
  have H3 := hideK b3
  clear b3 hMA
  go_wp2_with fail
  refine (HKs.out w3 B (HMA.out.keep H3.out)).mono ?_
  rintro e w4 ⟨va, rfl, hoa, b4⟩
  obtain ⟨o4, c4, rfl, hc4, hk4, -⟩ := own_kn hoa
  have H4 := hideK (bup H3.out b4)
  have HK4 := hideK hk4
  clear hoa b4 hk4 H3
  go_wp2_with fail
  refine (HN2.out w4 o4 c4 hc4 HK4.out).mono ?_
  rintro e w5 ⟨b5, C, rfl, hmC⟩
  have H5 := hideK (bup H4.out b5)
  have HMC := hideK hmC
  clear b5 hmC H4 HK4 hc4
  go_wp2_with fail
  refine (fineQ6 0 w5).mono ?_
  rintro e w6 ⟨rfl, rfl⟩
  go_wp2_with fail
  refine (HKs.out w6 C HMC.out).mono ?_
  rintro e w7 ⟨va, rfl, hoa, b7⟩
  obtain ⟨o7, c7, rfl, hc7, hk7, -⟩ := own_kn hoa
  have H7 := hideK (bup H5.out b7)
  have HK7 := hideK hk7
  clear hoa b7 hk7 H5 HMC
  go_wp2_with fail
  refine (HKs.out w7 B (HMA.out.keep H7.out)).mono ?_
  rintro e w8 ⟨va, rfl, hoa, b8⟩
  obtain ⟨o8, c8, rfl, hc8, hk8, -⟩ := own_kn hoa
  have H8 := hideK (bup H7.out b8)
  have HK8 := hideK hk8
  have HK78 := hideK (HK7.out.keep b8)
  clear hoa b8 hk8 H7 HK7
  have hkn := knots6_true K o7 o8 c7 c8 (by rw [HKK.out]; exact hc7) w8 HK78.out HK8.out
  rw [HKK.out] at hkn
  have Hkn := hideK hkn
  clear hkn
  go_wp2_with fail
  refine Hkn.out.mono ?_
  rintro e w9 ⟨rfl, b9⟩
  have H9 := hideK (bup H8.out b9)
  have HT9 := hideK (HT2.out.keep H9.out)
  clear b9 H8 HK8 HK78 Hkn hc7 hc8
  obtain ⟨-, t0, t1, -⟩ := HT9.out
  go_wp2_with fail
  refine (HAp.out w9 H9.out).mono ?_
  rintro e w10 ⟨rfl, b10⟩
  clear t0 t1
  go_upto_region 10 with fail
  obtain ⟨X2, hX2⟩ : ∃ X2, w10.alloc (.cells #[.int .i64 r.1.N, .int .i64 r.1.D] 24) = X2 := ⟨_, rfl⟩
  have HX2 : Hid (Below w2.heap.size w2 X2 ∧ Two X2 Bt (.int .i64 t.N) (.int .i64 t.D) ∧ Two X2 w10.heap.size (.int .i64 r.1.N) (.int .i64 r.1.D)) := hideK (by
    rw [← hX2]
    exact ⟨bup H9.out (bup b10 (bel1 _ _)), HT9.out.keep (bup b10 (bel1 _ _)), Two.new _ _ _ _⟩)
  rw [hX2]
  clear hX2 b10 HT9 H9
  generalize w10.heap.size = Bx at *
  have H22 := hideK (bup H2.out HX2.out.1)
  by_cases hz : r.2 = 0
  case neg =>
    have hf : (r.2 == 0) = false := by simpa using hz
    clear hz
    go_wp2_with fail
    refine (fineQ6 _ X2).mono ?_
    rintro e w11 ⟨rfl, rfl⟩
    go_wp2_with fail
    rw [← HP.out]
    exact ⟨rfl, H22.out⟩
  case pos =>
  have HZ := hideK hz
  have hf : (r.2 == 0) = true := by simpa using hz
  clear hz
  by_cases h64 : 64 ≤ n
  · have d64 : (64 : Int) ≤ (n : Int) := by omega
    go_wp2_with fail
    refine (fineQ6 _ X2).mono ?_
    rintro e w11 ⟨rfl, rfl⟩
    go_wp2_with fail
    rw [← HP.out]
    exact ⟨rfl, H22.out⟩
  have d64 : ¬ (64 : Int) ≤ (n : Int) := by omega
  by_cases h2n : n < 2
  · have d2 : (n : Int) < 2 := by omega
    go_wp2_with fail
    refine (fineQ6 _ X2).mono ?_
    rintro e w11 ⟨rfl, rfl⟩
    go_wp2_with fail
    rw [← HP.out]
    exact ⟨rfl, H22.out⟩
  have d2 : ¬ (n : Int) < 2 := by omega
  go_wp2_with fail
  refine (fineQ6 _ X2).mono ?_
  rintro e w11 ⟨rfl, rfl⟩
  go_wp2_with fail
  go_loopw [9, 10, 11] (fun mv dv iv wq => ∃ (i : Nat) (d : Bool) (M : List Kn), iv = .int .i64 (i : Nat) ∧ dv = .bool d ∧ i ≤ n ∧ MoreOf L ⟨t, r.1⟩ i d M ∧ wq.ownsRow w11.heap.size 37 4 mv M.length (flatKn M) ∧ Below w11.heap.size w11 wq) (fun _ _ iv _ => n - (intOf iv).toNat)
  case atStart => exact ⟨0, false, [], rfl, rfl, Nat.zero_le _, .inl ⟨rfl, rfl⟩, World.ownsRow_nil _ _ _ _, Below.refl _ _⟩
  case round =>
    obtain ⟨i, d, M, rfl, rfl, hi, hmo, hown, hb⟩ := hrel
    obtain ⟨wq, rfl⟩ : ∃ wq, wq = wr := ⟨_, rfl⟩
    have hML := hmo.len (by rw [HN.out]; exact hi)
    have HMO := hideK hmo
    obtain ⟨om, cm, rfl⟩ := own_slK6 hown
    have HA := hideK (And.intro hown hb)
    have hzq := hb.size
    have hown11 := hown
    clear hmo hown
    by_cases hlt : i < n
    · obtain ⟨x, hx⟩ : ∃ x, L[i]? = some x := ⟨_, List.getElem?_eq_getElem (by rw [HN.out]; omega)⟩
      have hxi := HL.out x (List.mem_of_getElem? hx)
      obtain ⟨A, rfl, hA, a0, a1, a2, a3⟩ := (HO.out.keep (bup H22.out hb)).get hx
      have kA : (A.add (i * 4)).block < wq.heap.size := by rw [addrN_block]; exact hA
      generalize hPA : A.add (i * 4) = PA at *
      have HK : Hid (∀ W : World, Below wq.heap.size wq W → (W.cell? PA = some (.int .i64 x.i.N) ∧ W.cell? ⟨PA.block, PA.off + 1, none⟩ = some (.int .i64 x.i.D) ∧ W.cell? ⟨PA.block, PA.off + 2, none⟩ = some (.int .i64 x.o.N) ∧ W.cell? ⟨PA.block, PA.off + 3, none⟩ = some (.int .i64 x.o.D))) := hideK (fun W q => ⟨(q.cell kA).trans a0, (q.cell (p := ⟨PA.block, PA.off + 1, none⟩) kA).trans a1, (q.cell (p := ⟨PA.block, PA.off + 2, none⟩) kA).trans a2, (q.cell (p := ⟨PA.block, PA.off + 3, none⟩) kA).trans a3⟩)
      have HK2 : Hid (∀ W : World, Below wq.heap.size wq W → (W.cell? ⟨Bt, 0, none⟩ = some (.int .i64 t.N) ∧ W.cell? ⟨Bt, 1, none⟩ = some (.int .i64 t.D) ∧ W.cell? ⟨Bx, 0, none⟩ = some (.int .i64 r.1.N) ∧ W.cell? ⟨Bx, 1, none⟩ = some (.int .i64 r.1.D))) := hideK (fun W q => ⟨(HX2.out.2.1.keep (bup HA.out.2 q)).2.1, (HX2.out.2.1.keep (bup HA.out.2 q)).2.2.1, (HX2.out.2.2.keep (bup HA.out.2 q)).2.1, (HX2.out.2.2.keep (bup HA.out.2 q)).2.2.1⟩)
      have HXX := hideK hx
      have HMX := hideK (fun d M (h : MoreOf L ⟨t, r.1⟩ i d M) => h.step hx)
      have HC := hideK (fun W => cmp_any t x.i HT.out hxi.1 W)
      unfold rtv at HC
      have di : (i : Int) < (n : Int) := by omega
      have wk : IntKind.i64.wrap ((i : Int) + 1) = ((i + 1 : Nat) : Int) := by rw [show ((i + 1 : Nat) : Int) = (i : Int) + 1 by omega]; exact IntWalk.i64_in _ ⟨by omega, by omega⟩
      generalize cmpI t x.i = c at *
      obtain ⟨t0, t1, -, -⟩ := HK2.out wq (Below.refl _ _)
      clear hx hxi hA hb a2 a3 hown11
      go_upto_region 17 with fail
      go_region_held3 (fun W => W.cell? ⟨Bt, 0, none⟩ = some (.int .i64 t.N) ∧ W.cell? ⟨Bt, 1, none⟩ = some (.int .i64 t.D) ∧ W.cell? PA = some (.int .i64 x.i.N) ∧ W.cell? ⟨PA.block, PA.off + 1, none⟩ = some (.int .i64 x.i.D)) (first | go_keep | assumption) (first
        | (go_at_call 12; (with_reducible refine Calls.mono (HC.out _) ?_); rintro e v1 ⟨rfl, b1⟩; have k1 : Below wq.heap.size wq v1 := (Below.refl wq.heap.size wq).drew.trans b1; clear b1; obtain ⟨e0, e1, -, -⟩ := HK2.out _ k1; obtain ⟨e2, e3, -, -⟩ := HK.out _ k1))
      clear t0 t1 a0 a1 e0 e1 e2 e3
      have hzv := k1.size
      have hown11 := own_growK HA.out.1 k1
      have HB1 := hideK k1
      by_cases hc0 : c = 0
      · subst hc0
        clear hown11
        go_wp2_with fail
        rw [← HP.out]
        exact ⟨rfl, bup H22.out (bup HA.out.2 HB1.out)⟩
      have hcb : (c == 0) = false := by simpa using hc0
      obtain ⟨t0, t1, x0, x1⟩ := HK2.out v1 k1
      obtain ⟨a0, a1, a2, a3⟩ := HK.out v1 k1
      clear k1
      by_cases hcl0 : c < 0
      case neg =>
        go_upto_region 23 with fail
        go_wp2_with (at_builtin; refine wpList_append_lies _ rfl _ _ 22 rfl w11.heap.size 37 j0 _ 4 32 Try.underlying22 hJ hy0 hy1 hy2 rfl (by decide) _ M.length (flatKn M) rfl (hown11.alloc _) ⟨v1.heap.size, 0, none⟩ 1 1 [.int .i64 x.i.N, .int .i64 x.i.D, .int .i64 x.o.N, .int .i64 x.o.D] rfl rfl (cell_fourK v1 _ _ _ _ _) (by simp [Value.oneCell']) (by omega) (by unfold maxLen; omega) (by omega) (by simp; omega) _ rfl ?_; intro g12 cap12 w12 hown12 hgrow12 hat12 hlt12)
        go_roundw
        case rel =>
          refine ⟨i + 1, d, M ++ [x], by first | rfl | simp, rfl, by omega, HMX.out _ _ HMO.out, ?_, ?_⟩
          · rw [flatKn_app, List.length_append]
            exact hown12
          · exact Below.grown ((bup HA.out.2 HB1.out).trans ((bel1 v1 (.cells #[.int .i64 x.i.N, .int .i64 x.i.D, .int .i64 x.o.N, .int .i64 x.o.D] 37)).mono (by omega))) hgrow12 (by rw [World.size_alloc]; omega) (fun k hk => (hown11.lt k hk).1)
        case measure => simp [intOf]; omega
      case pos =>
        cases d with
        | true =>
          go_upto_region 23 with fail
          go_wp2_with (at_builtin; refine wpList_append_lies _ rfl _ _ 22 rfl w11.heap.size 37 j0 _ 4 32 Try.underlying22 hJ hy0 hy1 hy2 rfl (by decide) _ M.length (flatKn M) rfl (hown11.alloc _) ⟨v1.heap.size, 0, none⟩ 1 1 [.int .i64 x.i.N, .int .i64 x.i.D, .int .i64 x.o.N, .int .i64 x.o.D] rfl rfl (cell_fourK v1 _ _ _ _ _) (by simp [Value.oneCell']) (by omega) (by unfold maxLen; omega) (by omega) (by simp; omega) _ rfl ?_; intro g12 cap12 w12 hown12 hgrow12 hat12 hlt12)
          go_roundw
          case rel =>
            refine ⟨i + 1, true, M ++ [x], by first | rfl | simp, rfl, by omega, HMX.out _ _ HMO.out, ?_, ?_⟩
            · rw [flatKn_app, List.length_append]
              exact hown12
            · exact Below.grown ((bup HA.out.2 HB1.out).trans ((bel1 v1 (.cells #[.int .i64 x.i.N, .int .i64 x.i.D, .int .i64 x.o.N, .int .i64 x.o.D] 37)).mono (by omega))) hgrow12 (by rw [World.size_alloc]; omega) (fun k hk => (hown11.lt k hk).1)
          case measure => simp [intOf]; omega
        | false =>
          go_upto_region 23 with (at_builtin; refine wpList_append_lies _ rfl _ _ 22 rfl w11.heap.size 37 j0 _ 4 32 Try.underlying22 hJ hy0 hy1 hy2 rfl (by decide) _ M.length (flatKn M) rfl (hown11.alloc _) ⟨v1.heap.size, 0, none⟩ 1 1 [.int .i64 t.N, .int .i64 t.D, .int .i64 r.1.N, .int .i64 r.1.D] rfl rfl (cell_fourK v1 _ _ _ _ _) (by simp [Value.oneCell']) (by omega) (by unfold maxLen; omega) (by omega) (by simp; omega) _ rfl ?_; intro g12 cap12 w12 hown12 hgrow12 hat12 hlt12)
          have B12 : Below w11.heap.size w11 w12 := Below.grown ((bup HA.out.2 HB1.out).trans ((bel1 v1 (.cells #[.int .i64 t.N, .int .i64 t.D, .int .i64 r.1.N, .int .i64 r.1.D] 37)).mono (by omega))) hgrow12 (by rw [World.size_alloc]; omega) (fun k hk => (hown11.lt k hk).1)
          have K12 : (w12.cell? PA = some (.int .i64 x.i.N) ∧ w12.cell? ⟨PA.block, PA.off + 1, none⟩ = some (.int .i64 x.i.D) ∧ w12.cell? ⟨PA.block, PA.off + 2, none⟩ = some (.int .i64 x.o.N) ∧ w12.cell? ⟨PA.block, PA.off + 3, none⟩ = some (.int .i64 x.o.D)) := ((HO.out.keep (bup H22.out B12)).get HXX.out).elim (fun A2 h => by obtain ⟨e, _, h⟩ := h; cases e; rw [hPA] at h; exact h)
          obtain ⟨a0, a1, a2, a3⟩ := K12
          have hz12 := B12.size
          have HB12 := hideK B12
          clear hown11 hgrow12 hat12 hlt12 B12 t0 t1 x0 x1
          go_wp2_with (at_builtin; refine wpList_append_lies _ rfl _ _ 22 rfl w11.heap.size 37 j0 _ 4 32 Try.underlying22 hJ hy0 hy1 hy2 rfl (by decide) _ (M.length + 1) (flatKn M ++ [.int .i64 t.N, .int .i64 t.D, .int .i64 r.1.N, .int .i64 r.1.D]) rfl (hown12.alloc _) ⟨w12.heap.size, 0, none⟩ 1 1 [.int .i64 x.i.N, .int .i64 x.i.D, .int .i64 x.o.N, .int .i64 x.o.D] rfl rfl (cell_fourK w12 _ _ _ _ _) (by simp [Value.oneCell']) (by omega) (by unfold maxLen; omega) (by omega) (by simp; omega) _ rfl ?_; intro g13 cap13 w13 hown13 hgrow13 hat13 hlt13)
          go_roundw
          case rel =>
            refine ⟨i + 1, true, (M ++ [⟨t, r.1⟩]) ++ [x], by first | rfl | simp, rfl, by omega, HMX.out _ _ HMO.out.put, ?_, ?_⟩
            · rw [flatKn_app, flatKn_app, List.length_append, List.length_append]
              exact hown13
            · exact Below.grown (HB12.out.trans ((bel1 w12 (.cells #[.int .i64 x.i.N, .int .i64 x.i.D, .int .i64 x.o.N, .int .i64 x.o.D] 37)).mono (by omega))) hgrow13 (by rw [World.size_alloc]; omega) (fun k hk => (hown12.lt k hk).1)
          case measure => simp [intOf]; omega
    · obtain rfl : i = n := by omega
      have d1 : ¬ (i : Int) < (i : Int) := by omega
      have HBQ := hideK hb
      have HOWN := hideK hown11
      obtain ⟨-, t0, t1, -⟩ := HX2.out.2.1.keep hb
      obtain ⟨-, x0, x1, -⟩ := HX2.out.2.2.keep hb
      clear hb hlt hi
      cases d with
      | true =>
        have HMOF := HMO
        clear t0 t1 x0 x1 hown11
        have hMin : ∀ x ∈ M, KnIn x := HMOF.out.in_ HL.out ⟨HT.out, HRI.out⟩
        obtain ⟨p, hp⟩ : ∃ p, M = L.take p ++ ⟨t, r.1⟩ :: L.drop p := by
          have h := HMOF.out
          rw [← HN.out] at h
          exact h.done
        obtain ⟨of, cf, ef, hcf, hkf, -⟩ := own_kn (Q := M) HOWN.out
        cases ef
        have hnf := new_any6 M om cm hMin hcf wq hkf
        have hsm := fun h => HMo.out p (by rw [HN.out]; omega) HZ.out h
        rw [← hp] at hsm
        have Hnf := hideK hnf
        have HSM := hideK hsm
        clear hnf hsm hp hMin hkf hcf
        go_wp2_with fail
        refine Hnf.out.mono ?_
        rintro e w14 ⟨b14, h14⟩
        have H14 := hideK (bup H22.out (bup HBQ.out b14))
        have HM14 := hideK (HMA.out.keep (bup HX2.out.1 (bup HBQ.out b14)))
        clear b14 Hnf
        rcases h14 with ⟨hEE, B3, rfl, -, hM3⟩ | ⟨hEE, rfl⟩
        case inr =>
          have hf3 : (newE (M) == 0) = false := by simpa using hEE
          clear hEE
          go_wp2_with fail
          refine (fineQ6 _ w14).mono ?_
          rintro e w15 ⟨rfl, rfl⟩
          go_wp2_with fail
          rw [← HP.out]
          exact ⟨rfl, H14.out⟩
        rw [HSM.out hEE] at hM3
        have HM3 := hideK hM3
        clear hM3 hEE
        go_wp2_with fail
        refine (fineQ6 0 w14).mono ?_
        rintro e w15 ⟨rfl, rfl⟩
        go_wp2_with fail
        refine (HKs.out w15 B3 HM3.out).mono ?_
        rintro e w16 ⟨va, rfl, hoa, b16⟩
        obtain ⟨o16, c16, rfl, hc16, hk16, -⟩ := own_kn hoa
        have H16 := hideK (bup H14.out b16)
        have HK16 := hideK hk16
        have HM16 := hideK (HM14.out.keep b16)
        clear hoa b16 hk16
        go_wp2_with fail
        refine (HKs.out w16 B HM16.out).mono ?_
        rintro e w17 ⟨va, rfl, hoa, b17⟩
        obtain ⟨o17, c17, rfl, hc17, hk17, -⟩ := own_kn hoa
        have H17 := hideK (bup H16.out b17)
        have HK17 := hideK hk17
        have HK167 := hideK (HK16.out.keep b17)
        clear hoa b17 hk17
        have hkn := knots6_true K o16 o17 c16 c17 (by rw [HKK.out]; exact hc16) w17 HK167.out HK17.out
        rw [HKK.out] at hkn
        have Hkn := hideK hkn
        clear hkn hc16 hc17
        go_wp2_with fail
        refine Hkn.out.mono ?_
        rintro e w18 ⟨rfl, b18⟩
        have H18 := hideK (bup H17.out b18)
        clear b18
        go_wp2_with fail
        rw [← HP.out]
        exact ⟨rfl, H18.out⟩
      | false =>
        have HMOF := hideK HMO.out.put
        go_upto_region 26 with (at_builtin; refine wpList_append_lies _ rfl _ _ 22 rfl w11.heap.size 37 j0 _ 4 32 Try.underlying22 hJ hy0 hy1 hy2 rfl (by decide) _ M.length (flatKn M) rfl (hown11.alloc _) ⟨wq.heap.size, 0, none⟩ 1 1 [.int .i64 t.N, .int .i64 t.D, .int .i64 r.1.N, .int .i64 r.1.D] rfl rfl (cell_fourK wq _ _ _ _ _) (by simp [Value.oneCell']) (by omega) (by unfold maxLen; omega) (by omega) (by simp; omega) _ rfl ?_; intro g12 cap12 w12 hown12 hgrow12 hat12 hlt12)
        have hbz : Below w11.heap.size w11 w12 := Below.grown (HBQ.out.trans ((bel1 wq (.cells #[.int .i64 t.N, .int .i64 t.D, .int .i64 r.1.N, .int .i64 r.1.D] 37)).mono (by omega))) hgrow12 (by rw [World.size_alloc]; omega) (fun k hk => (hown11.lt k hk).1)
        have HBZ := hideK hbz
        have HOW2 : Hid (w12.ownsRow w11.heap.size 37 4 (.slice (some ⟨g12, 0, none⟩) (M.length + 1) cap12) (M.length + 1) (flatKn (M ++ [⟨t, r.1⟩]))) := hideK (by rw [flatKn_app]; exact hown12)
        clear t0 t1 x0 x1 hown11 hown12 hgrow12 hat12 hlt12 hbz
        have hMin : ∀ x ∈ (M ++ [⟨t, r.1⟩]), KnIn x := HMOF.out.in_ HL.out ⟨HT.out, HRI.out⟩
        obtain ⟨p, hp⟩ : ∃ p, (M ++ [⟨t, r.1⟩]) = L.take p ++ ⟨t, r.1⟩ :: L.drop p := by
          have h := HMOF.out
          rw [← HN.out] at h
          exact h.done
        obtain ⟨of, cf, ef, hcf, hkf, -⟩ := own_kn (Q := (M ++ [⟨t, r.1⟩])) HOW2.out
        cases ef
        have hnf := new_any6 (M ++ [⟨t, r.1⟩]) (some ⟨g12, 0, none⟩) cap12 hMin (by rw [show (M ++ [(⟨t, r.1⟩ : Kn)]).length = M.length + 1 by simp]; exact hcf) w12 hkf
        have hsm := fun h => HMo.out p (by rw [HN.out]; omega) HZ.out h
        rw [← hp] at hsm
        rw [show (M ++ [(⟨t, r.1⟩ : Kn)]).length = M.length + 1 by simp] at hnf
        have Hnf := hideK hnf
        have HSM := hideK hsm
        clear hnf hsm hp hMin hkf hcf
        go_wp2_with fail
        refine Hnf.out.mono ?_
        rintro e w14 ⟨b14, h14⟩
        have H14 := hideK (bup H22.out (bup HBZ.out b14))
        have HM14 := hideK (HMA.out.keep (bup HX2.out.1 (bup HBZ.out b14)))
        clear b14 Hnf
        rcases h14 with ⟨hEE, B3, rfl, -, hM3⟩ | ⟨hEE, rfl⟩
        case inr =>
          have hf3 : (newE ((M ++ [⟨t, r.1⟩])) == 0) = false := by simpa using hEE
          clear hEE
          go_wp2_with fail
          refine (fineQ6 _ w14).mono ?_
          rintro e w15 ⟨rfl, rfl⟩
          go_wp2_with fail
          rw [← HP.out]
          exact ⟨rfl, H14.out⟩
        rw [HSM.out hEE] at hM3
        have HM3 := hideK hM3
        clear hM3 hEE
        go_wp2_with fail
        refine (fineQ6 0 w14).mono ?_
        rintro e w15 ⟨rfl, rfl⟩
        go_wp2_with fail
        refine (HKs.out w15 B3 HM3.out).mono ?_
        rintro e w16 ⟨va, rfl, hoa, b16⟩
        obtain ⟨o16, c16, rfl, hc16, hk16, -⟩ := own_kn hoa
        have H16 := hideK (bup H14.out b16)
        have HK16 := hideK hk16
        have HM16 := hideK (HM14.out.keep b16)
        clear hoa b16 hk16
        go_wp2_with fail
        refine (HKs.out w16 B HM16.out).mono ?_
        rintro e w17 ⟨va, rfl, hoa, b17⟩
        obtain ⟨o17, c17, rfl, hc17, hk17, -⟩ := own_kn hoa
        have H17 := hideK (bup H16.out b17)
        have HK17 := hideK hk17
        have HK167 := hideK (HK16.out.keep b17)
        clear hoa b17 hk17
        have hkn := knots6_true K o16 o17 c16 c17 (by rw [HKK.out]; exact hc16) w17 HK167.out HK17.out
        rw [HKK.out] at hkn
        have Hkn := hideK hkn
        clear hkn hc16 hc17
        go_wp2_with fail
        refine Hkn.out.mono ?_
        rintro e w18 ⟨rfl, b18⟩
        have H18 := hideK (bup H17.out b18)
        clear b18
        go_wp2_with fail
        rw [← HP.out]
        exact ⟨rfl, H18.out⟩
end Go.Proofs.Ytkinnnegkjpggaa
