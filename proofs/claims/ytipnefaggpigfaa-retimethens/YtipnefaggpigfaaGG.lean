/- Several texts, one behind the other. -/
import Derived.Deep.RegionHeld3
import Derived.Deep.QuietTactic
import Derived.BigQuiet
import Derived.Test.YtipnefaggpigfaaGB
import Derived.Test.YtipnefaggpigfaaGC
import Derived.Test.YtipnefaggpigfaaGF
/- The reference's All (chapter 6). -/
namespace Go.Proofs.Ytipnefaggpigfaa
open Go.RowKit Go.Shelf

set_option maxRecDepth 100000 in
set_option maxHeartbeats 2000000 in
theorem rall_any6 (f : Rt → Rt × Int) (B : Nat) (T : List Rt) (ot : Option Addr) (c : Nat) (hc : T.length ≤ c ∧ c ≤ maxLen) (hn : T.length ≤ 1000000) (w : World) (hO : RtO w ot T)
    (H : ∀ t ∈ T, ∀ W, Below w.heap.size w W → Calls Try.prog 40 #[.pointer (some ⟨B, 0, none⟩), .agg #[.int .i64 t.N, .int .i64 t.D]] W fun e w' => e = .returned (.tuple #[.agg #[.int .i64 (f t).1.N, .int .i64 (f t).1.D], .int .i64 (f t).2]) ∧ Below W.heap.size W w') :
    Calls Try.prog 42 #[.pointer (some ⟨B, 0, none⟩), .slice ot T.length c] w fun e w' => ∃ v, e = .returned (.tuple #[v, .int .i64 (allI f 0 T).1, .int .i64 (allI f 0 T).2]) ∧ w'.ownsRow w.heap.size 42 2 v (allQ f T).length (flatRt (allQ f T)) ∧ Below w.heap.size w w' := by
  obtain ⟨i0, hI, hz0, hz1, hz2⟩ := info_partsK infoRtK
  have hmx : maxLen ≤ 9223372036854775807 := by decide
  obtain ⟨n, hn'⟩ : ∃ n, T.length = n := ⟨_, rfl⟩
  have HN := hideK hn'
  have HO := hideK hO
  have HH := hideK H
  rw [hn'] at hc hn ⊢
  clear hn' hO H
  obtain ⟨PO, hPO⟩ : ∃ PO : Ending → World → Prop, (fun e w' => ∃ v, e = .returned (.tuple #[v, .int .i64 (allI f 0 T).1, .int .i64 (allI f 0 T).2]) ∧ w'.ownsRow w.heap.size 42 2 v (allQ f T).length (flatRt (allQ f T)) ∧ Below w.heap.size w w') = PO := ⟨_, rfl⟩
  have HP := hideK hPO
  rw [hPO]
  clear hPO
  go_enter Try.func42, Try.ntmps42
  go_wp2_with fail
  go_loopw [7, 8] (fun lv iv wq => ∃ i : Nat, iv = .int .i64 (i : Nat) ∧ i ≤ n ∧ wq.ownsRow w.heap.size 42 2 lv i (flatRt ((T.take i).map fun t => (f t).1)) ∧ allI f 0 T = allI f i (T.drop i) ∧ Below w.heap.size w wq) (fun _ iv _ => n - (intOf iv).toNat)
  case atStart => exact ⟨0, rfl, Nat.zero_le _, World.ownsRow_nil _ _ _ _, rfl, Below.refl _ _⟩
  case round =>
    obtain ⟨i, rfl, hi, hown, hs, hb⟩ := hrel
    obtain ⟨wq, rfl⟩ : ∃ wq, wq = wr := ⟨_, rfl⟩
    by_cases hlt : i < n
    · obtain ⟨t, ht⟩ : ∃ t, T[i]? = some t := ⟨_, List.getElem?_eq_getElem (by rw [HN.out]; omega)⟩
      obtain ⟨A, rfl, hA, a0, a1⟩ := (HO.out.keep hb).get ht
      have HC := hideK (HH.out t (List.mem_of_getElem? ht))
      have HS := hideK (hs.trans (allI_drop f ht))
      have HTk := hideK (show (T.take (i + 1)).map (fun t => (f t).1) = (T.take i).map (fun t => (f t).1) ++ [(f t).1] by rw [List.take_add_one, ht, List.map_append]; rfl)
      obtain ⟨r, hr⟩ : ∃ r, f t = r := ⟨_, rfl⟩
      rw [hr] at HC HS HTk
      have HA := hideK (And.intro hown hb)
      clear hr hown hs hb ht
      have di : (i : Int) < (n : Int) := by omega
      have wk : IntKind.i64.wrap ((i : Int) + 1) = ((i + 1 : Nat) : Int) := by rw [show ((i + 1 : Nat) : Int) = (i : Int) + 1 by omega]; exact IntWalk.i64_in _ ⟨by omega, by omega⟩
      go_wp2_with fail
      refine (HC.out wq HA.out.2).mono ?_
      rintro e w2 ⟨rfl, b2⟩
      have HB := hideK b2
      clear b2 HC a0 a1
      go_upto_region 6 with fail
      obtain ⟨W, hW⟩ : ∃ W, w2.alloc (.cells #[.int .i64 r.1.N, .int .i64 r.1.D] 42) = W := ⟨_, rfl⟩
      have HW : Hid (Below wq.heap.size wq W ∧ Two W w2.heap.size (.int .i64 r.1.N) (.int .i64 r.1.D)) := hideK (by
        rw [← hW]
        exact ⟨bup HB.out (bel1 _ _), Two.new _ _ _ _⟩)
      rw [hW]
      clear hW
      by_cases hre : r.2 = 0
      · obtain ⟨_, k0, k1, _, _⟩ := HW.out.2
        have hownW := own_growK HA.out.1 HW.out.1
        have hzW := HW.out.1.size
        have hz9 := HA.out.2.size
        go_wp2_with (at_builtin; refine wpList_append_lies _ rfl _ _ 23 rfl w.heap.size 42 i0 _ 2 16 Try.underlying23 hI hz0 hz1 hz2 rfl (by decide) _ i (flatRt ((T.take i).map fun t => (f t).1)) rfl (hownW.alloc _) ⟨W.heap.size, 0, none⟩ 1 1 [.int .i64 r.1.N, .int .i64 r.1.D] rfl rfl (World.news_of_block (cs := #[.int .i64 r.1.N, .int .i64 r.1.D]) (t := 42) (fr := (0, 0)) (World.alloc_heap_new W _)) (by simp [Value.oneCell']) (by omega) (by unfold maxLen; omega) (by omega) (by simp; omega) (W.heap.size + 1) (by simp) ?_; intro gg cap2 w6 hown6 hgrow6 hat6 hlt6)
        go_roundw
        case rel =>
          refine ⟨i + 1, by first | rfl | simp, by omega, ?_, ?_, ?_⟩
          · rw [HTk.out, flatRt_app]
            exact hown6
          · rw [HS.out, if_pos hre]
          · exact Below.grown ((HA.out.2.trans (HW.out.1.mono hz9)).alloc (by omega) _) hgrow6 (by rw [World.size_alloc]; omega) (fun k hk => (hownW.lt k hk).1)
        case measure => simp [intOf]; omega
      · have hbb : allI f 0 T = ((i : Int), r.2) := by rw [HS.out, if_neg hre]
        have HBB := hideK hbb
        clear hbb
        go_wp2_with fail
        refine bodyPost_ret (v := .tuple #[.slice none 0 0, .int .i64 (i : Int), .int .i64 r.2]) (by simp [results, Try.results42, go_sem]) rfl ?_
        rw [← HP.out]
        refine ⟨.slice none 0 0, by rw [HBB.out], ?_, bup HA.out.2 HW.out.1⟩
        unfold allQ
        rw [HBB.out, if_neg hre]
        exact World.ownsRow_nil _ _ _ _
    · obtain rfl : i = n := by omega
      have d2 : ¬ (i : Int) < (i : Int) := by omega
      have hk : T.take i = T := List.take_of_length_le (by rw [HN.out]; exact Nat.le_refl _)
      have hk2 : T.drop i = [] := List.drop_eq_nil_of_le (by rw [HN.out]; exact Nat.le_refl _)
      rw [hk] at hown
      rw [hk2] at hs
      have hs : allI f 0 T = (0, 0) := hs
      have HA := hideK (And.intro hown (And.intro hs hb))
      clear hk hk2 hown hs hb
      go_wp2_with fail
      refine bodyPost_ret (v := .tuple #[_, .int .i64 0, .int .i64 0]) (by simp [results, Try.results42, go_sem]; rfl) rfl ?_
      rw [← HP.out]
      refine ⟨_, by rw [HA.out.2.1], ?_, HA.out.2.2⟩
      unfold allQ
      rw [HA.out.2.1, if_pos rfl, List.length_map, HN.out]
      exact HA.out.1
end Go.Proofs.Ytipnefaggpigfaa

/- The law's knots at two alike rows (chapter 6). -/
namespace Go.Proofs.Ytipnefaggpigfaa
open Go.RowKit Go.Shelf

set_option maxRecDepth 100000 in
@[local go_sem] theorem rt_equalN (n : Nat) (a b c d : Int) (w : World) : (Op.equalIn (n + 2) 42 (.agg #[.int .i64 a, .int .i64 b]) (.agg #[.int .i64 c, .int .i64 d])).run Try.prog w = .ok (a == c && b == d) w := by
  rw [run_equalIn_agg _ _ _ _ _ rt_underK rt_heldK]
  have hf := rt_fieldsK
  match h : (Try.prog.fieldsOf 42).toList, hf with
  | [f0, f1], hf =>
    clear h
    simp only [List.map_cons, List.map_nil, List.cons.injEq, Prod.mk.injEq, and_true] at hf
    obtain ⟨⟨n0, t0, o0⟩, ⟨n1, t1, o1⟩⟩ := hf
    have u3 : Try.prog.underlying 2 = some (.int .i64) := Try.underlying2
    simp [Op.eqFields, n0, n1, t0, t1, o0, o1, go_sem, u3]
    by_cases h0 : a = c
    · by_cases h1 : b = d <;> simp [h0, h1]
    · simp [h0]
  | [], hf => simp at hf
  | [_], hf => simp at hf
  | _ :: _ :: _ :: _, hf => simp at hf
theorem kn_under : Try.prog.underlying 45 = some (.struct (Try.prog.fieldsOf 45)) := by kernel_rfl
theorem kn_held : Try.prog.stoodInHeld 45 = false := by kernel_rfl
theorem kn_fields : (Try.prog.fieldsOf 45).toList.map (fun f => (f.name, f.type, f.offset)) = [("In", 42, 0), ("Out", 42, 2)] := by kernel_rfl
@[local go_sem] theorem rt_size : Try.prog.cellsOf 42 = 2 := by kernel_rfl
set_option maxRecDepth 100000 in
theorem kn_neq (a b c d : Int) (w : World) : (binOp .neq 45 (.agg #[.int .i64 a, .int .i64 b, .int .i64 c, .int .i64 d]) (.agg #[.int .i64 a, .int .i64 b, .int .i64 c, .int .i64 d])).run Try.prog w = .ok (.bool false) w := by
  rw [run_neq_struct, run_equalIn_agg _ _ _ _ _ kn_under kn_held]
  have hf := kn_fields
  match h : (Try.prog.fieldsOf 45).toList, hf with
  | [f0, f1], hf =>
    clear h
    simp only [List.map_cons, List.map_nil, List.cons.injEq, Prod.mk.injEq, and_true] at hf
    obtain ⟨⟨n0, t0, o0⟩, ⟨n1, t1, o1⟩⟩ := hf
    simp [Op.eqFields, n0, n1, t0, t1, o0, o1, go_sem, rt_equalN]
  | [], hf => simp at hf
  | [_], hf => simp at hf
  | _ :: _ :: _ :: _, hf => simp at hf
set_option maxRecDepth 100000 in
set_option maxHeartbeats 2000000 in
theorem knots6_true (Q : List Kn) (oa ob : Option Addr) (c1 c2 : Nat) (h1 : Q.length ≤ c1 ∧ c1 ≤ maxLen) (w : World) (hA : KnO w oa Q) (hB : KnO w ob Q) :
    Calls Try.prog 9 #[.slice oa Q.length c1, .slice ob Q.length c2] w fun e w' => e = .returned (.bool true) ∧ Below w.heap.size w w' := by
  have hmx : maxLen ≤ 9223372036854775807 := by decide
  obtain ⟨n, hn⟩ : ∃ n, Q.length = n := ⟨_, rfl⟩
  have HN := hideK hn
  have HA := hideK hA
  have HB := hideK hB
  rw [hn] at h1 ⊢
  clear hn hA hB
  obtain ⟨PO, hPO⟩ : ∃ PO : Ending → World → Prop, (fun e w' => e = .returned (.bool true) ∧ Below w.heap.size w w') = PO := ⟨_, rfl⟩
  have HP := hideK hPO
  rw [hPO]
  clear hPO
  go_enter Try.func9, Try.ntmps9
  go_wp2_with fail
  go_loopw [5] (fun iv wq => ∃ i : Nat, iv = .int .i64 (i : Nat) ∧ i ≤ n ∧ Below w.heap.size w wq) (fun iv _ => n - (intOf iv).toNat)
  case atStart => exact ⟨0, rfl, Nat.zero_le _, Below.refl _ _⟩
  case round =>
    obtain ⟨i, rfl, hi, hb⟩ := hrel
    obtain ⟨wq, rfl⟩ : ∃ wq, wq = wr := ⟨_, rfl⟩
    by_cases hlt : i < n
    · obtain ⟨x, hx⟩ : ∃ x, Q[i]? = some x := ⟨_, List.getElem?_eq_getElem (by rw [HN.out]; omega)⟩
      obtain ⟨A, rfl, -, a0, a1, a2, a3⟩ := (HA.out.keep hb).get hx
      obtain ⟨A', rfl, -, b0, b1, b2, b3⟩ := (HB.out.keep hb).get hx
      have HBe := hideK hb
      clear hb hx
      have di : (i : Int) < (n : Int) := by omega
      have wk : IntKind.i64.wrap ((i : Int) + 1) = ((i + 1 : Nat) : Int) := by rw [show ((i + 1 : Nat) : Int) = (i : Int) + 1 by omega]; exact IntWalk.i64_in _ ⟨by omega, by omega⟩
      have hq := kn_neq x.i.N x.i.D x.o.N x.o.D
      go_upto_region 6 with fail
      go_region
      go_wp2_with fail
      go_roundw
      case rel => exact ⟨i + 1, by first | rfl | simp, by omega, HBe.out.drew⟩
      case measure => simp [intOf]; omega
    · have d1 : ¬ (i : Int) < (n : Int) := by omega
      have HBe := hideK hb
      clear hb
      go_wp2_with fail
      rw [← HP.out]
      exact ⟨rfl, HBe.out⟩
end Go.Proofs.Ytipnefaggpigfaa

/- Both maps alike: the law's like, made (chapter 6). -/
namespace Go.Proofs.Ytipnefaggpigfaa
open Go.RowKit Go.Shelf

/-- What holds of a made map's own knots. -/
structure GdK (K : List Kn) : Prop where
  kin : ∀ x ∈ K, KnIn x
  sin : ∀ x ∈ slsK K, RtIn x
  len : (slsK K).length = K.length + 1
  le : K.length ≤ 1000
  two : 2 ≤ K.length
  ri : RisQ (·.i) K
  ro : RisQ (·.o) K
theorem new_gd {L : List Kn} (hL : ∀ x ∈ L, KnIn x) (hz : newE L = 0) : GdK (newK L) := by
  have hni := new_in L hL
  have hpi := pts_in (bndK L) (bnd_in L hL)
  have hbl := bnd_len L
  have h64 := (chk_ok (newE_zero hz).1).2.1
  have h2 : 2 ≤ (newK L).length := by
    rw [hni.2]
    show 2 ≤ (ptsA (bndK L)).length
    cases bndK L <;> simp [ptsA]
  obtain ⟨h, hm, -, ho⟩ := rises_line2 hz
  refine ⟨hni.1, sls_in _ hni.1, sls_len _ (by omega), ?_, h2, ho.ris, fun x hx => (ho.outs x hx).1, ?_⟩
  · rw [hni.2]
    show (ptsA (bndK L)).length ≤ _
    omega
  · refine List.Pairwise.imp_of_mem (fun {a b} ha hb hab => ?_) ho.ris.2
    have := hm _ _ hab
    rw [(ho.outs a ha).2, (ho.outs b hb).2] at this
    exact this
theorem knrG (K : List Kn) (hl : K.length ≤ 1000) (h1 : 1 ≤ K.length) (B : Nat) (w : World) (hM : MapAt w B K (slsK K)) :
    Calls Try.prog 18 #[.pointer (some ⟨B, 0, none⟩)] w fun e w' => ∃ o c, e = .returned (.slice o K.length c) ∧ (K.length ≤ c ∧ c ≤ maxLen) ∧ KnO w' o K ∧ Below w.heap.size w w' := by
  refine (knots_any6 K (slsK K) B hl h1 w hM).mono ?_
  rintro e w' ⟨v, rfl, hown, b⟩
  obtain ⟨o, c, rfl, hc, hk, -⟩ := own_kn hown
  exact ⟨o, c, rfl, hc, hk, b⟩
set_option maxRecDepth 100000 in
set_option maxHeartbeats 4000000 in
theorem like6_any (K : List Kn) (g : GdK K) (B B2 : Nat) (T : List Rt) (ot : Option Addr) (c : Nat) (hT : ∀ t ∈ T, RtIn t) (hc : T.length ≤ c ∧ c ≤ maxLen) (hn : T.length ≤ 2000) (w : World) (hM : MapAt w B K (slsK K)) (hR : RMapAt w B2 K (slL K)) (hO : RtO w ot T) :
    Calls Try.prog 14 #[.pointer (some ⟨B, 0, none⟩), .pointer (some ⟨B2, 0, none⟩), .slice ot T.length c] w fun e w' => e = .returned (.bool true) ∧ Below w.heap.size w w' := by
  have hmx : maxLen ≤ 9223372036854775807 := by decide
  have HM := hideK hM
  have HR := hideK hR
  have HO := hideK hO
  obtain ⟨ob, c1, os2, c2, hat, hc1, hc2, hkb, -⟩ := hR
  have hz2 : B2 < w.heap.size := (Array.getElem?_eq_some_iff.1 hat).1
  have HC2 : Hid (∀ W, Below w.heap.size w W → W.cell? ⟨B2, 0, none⟩ = some (.slice ob K.length c1)) := hideK (fun W q => (q.cell (p := ⟨B2, 0, none⟩) hz2).trans (by simp [World.cell?, hat]))
  have HKn := hideK (fun (W : World) (q : Below w.heap.size w W) => knrG K g.le (by have := g.two; omega) B W (HM.out.keep q))
  have HKs := hideK (fun (W : World) (oa : Option Addr) (ca : Nat) (h1 : K.length ≤ ca ∧ ca ≤ maxLen) (hA : KnO W oa K) (q : Below w.heap.size w W) => knots6_true K oa ob ca c1 h1 W hA (hkb.keep q))
  have HAp := hideK (fun (W : World) (t : Rt) (ht : RtIn t) (q : Below w.heap.size w W) => apply_fun K (slsK K) B t g.kin g.sin ht g.len g.le (by have := g.two; omega) g.ri W (HM.out.keep q))
  have HUn := hideK (fun (W : World) (t : Rt) (ht : RtIn t) (q : Below w.heap.size w W) => undo_fun K (slsK K) B t g.kin g.sin ht g.len g.le (by have := g.two; omega) g.ro W (HM.out.keep q))
  have HRa := hideK (fun (W : World) (t : Rt) (ht : RtIn t) (q : Below w.heap.size w W) => rapply_any K B2 t g.kin ht g.le g.two g.ri W (HR.out.keep q))
  have HRu := hideK (fun (W : World) (t : Rt) (ht : RtIn t) (q : Below w.heap.size w W) => rundo_any K B2 t g.kin ht g.le g.two g.ro W (HR.out.keep q))
  generalize appF K (slsK K) = F at *
  generalize undF K (slsK K) = U at *
  have HAl := hideK (fun (W : World) (q : Below w.heap.size w W) => all_any6 F B T ot c hc (by omega) W (HO.out.keep q) (fun t ht W' q' => HAp.out W' t (hT t ht) (bup q q')))
  have HRl := hideK (fun (W : World) (q : Below w.heap.size w W) => rall_any6 F B2 T ot c hc (by omega) W (HO.out.keep q) (fun t ht W' q' => HRa.out W' t (hT t ht) (bup q q')))
  have HT := hideK hT
  obtain ⟨n, hn'⟩ : ∃ n, T.length = n := ⟨_, rfl⟩
  have hq : (allQ F T).length ≤ n := by
    unfold allQ
    split
    · rw [List.length_map, hn']
      exact Nat.le_refl _
    · exact Nat.zero_le _
  have HN := hideK hn'
  rw [hn'] at hc hn HAl HRl ⊢
  generalize (allI F 0 T).1 = a1 at *
  generalize (allI F 0 T).2 = a2 at *
  generalize allQ F T = AQ at *
  obtain ⟨kk, hkk⟩ : ∃ kk, K.length = kk := ⟨_, rfl⟩
  have hk1 : kk ≤ 1000 := hkk ▸ g.le
  rw [hkk] at HKn HKs HC2
  clear hM hO hT hn' hkb hat hc1 hc2 hkk g
  obtain ⟨PO, hPO⟩ : ∃ PO : Ending → World → Prop, (fun e w' => e = .returned (.bool true) ∧ Below w.heap.size w w') = PO := ⟨_, rfl⟩
  have HP := hideK hPO
  rw [hPO]
  clear hPO
  have k0 := HC2.out w (Below.refl _ _)
  go_enter Try.func14, Try.ntmps14
  go_upto_region 1 with fail
  go_cut [30] (fun o wx => o = .bool false ∧ Below w.heap.size w wx)
  case first =>
    go_region_held3 (fun w' => w'.cell? ⟨B2, 0, none⟩ = some (.slice ob kk c1)) (first | assumption | exact HC2.out _ (Below.refl _ _).drew | exact HC2.out _ c5 | exact HC2.out _ c6 | go_keep) (first
      | (go_at_call 18; (with_reducible refine Calls.mono (HKn.out _ (by first | exact Below.refl _ _ | exact (Below.refl _ _).drew)) ?_); rintro e v5 ⟨o5, d5, rfl, hc5, hk5, b5⟩; have c5 : Below w.heap.size w v5 := by first | exact b5 | exact bup (Below.refl _ _).drew b5)
      | (go_at_call 9; (with_reducible refine Calls.mono (HKs.out _ _ _ hc5 hk5 c5) ?_); rintro e v6 ⟨rfl, b6⟩; have c6 : Below w.heap.size w v6 := bup c5 b6))
    all_goals
      have H6 := hideK c6
      first | go_wp2_with fail | skip
      go_meet
      case rel => exact ⟨rfl, H6.out⟩
  case rest =>
  obtain ⟨rfl, hb1⟩ := hcut
  generalize wc = w1 at *
  have H1 := hideK hb1
  clear hb1 k0
  have rne := fun (a b : Int) (V : World) => (rt_neqK a b a b V).trans (by simp : _ = Result.ok (Value.bool false) V)
  go_wp2_with fail
  go_loopw [7] (fun iv wq => ∃ i : Nat, iv = .int .i64 (i : Nat) ∧ i ≤ n ∧ Below w.heap.size w wq) (fun iv _ => n - (intOf iv).toNat)
  case atStart => exact ⟨0, rfl, Nat.zero_le _, H1.out⟩
  case round =>
    obtain ⟨i, rfl, hi, hb⟩ := hrel
    obtain ⟨wq, rfl⟩ : ∃ wq, wq = wr := ⟨_, rfl⟩
    by_cases hlt : i < n
    · obtain ⟨t, ht⟩ : ∃ t, T[i]? = some t := ⟨_, List.getElem?_eq_getElem (by rw [HN.out]; omega)⟩
      obtain ⟨A, rfl, hA, a0, a1'⟩ := HO.out.get ht
      have hA4 : (A.add (i * 2)).block < w.heap.size := by rw [addrN_block]; exact hA
      have HG : Hid (∀ W, Below w.heap.size w W → W.cell? (A.add (i * 2)) = some (.int .i64 t.N) ∧ W.cell? ⟨(A.add (i * 2)).block, (A.add (i * 2)).off + 1, none⟩ = some (.int .i64 t.D)) := hideK (fun W q => ⟨(q.cell hA4).trans a0, (q.cell (p := ⟨(A.add (i * 2)).block, (A.add (i * 2)).off + 1, none⟩) hA4).trans a1'⟩)
      have hti := HT.out t (List.mem_of_getElem? ht)
      have C1 := hideK (fun (W : World) (q : Below w.heap.size w W) => HAp.out W t hti q)
      have C2 := hideK (fun (W : World) (q : Below w.heap.size w W) => HRa.out W t hti q)
      have C3 := hideK (fun (W : World) (q : Below w.heap.size w W) => HUn.out W t hti q)
      have C4 := hideK (fun (W : World) (q : Below w.heap.size w W) => HRu.out W t hti q)
      obtain ⟨r, hr⟩ : ∃ r, F t = r := ⟨_, rfl⟩
      obtain ⟨u, hu⟩ : ∃ u, U t = u := ⟨_, rfl⟩
      rw [hr] at C1 C2
      rw [hu] at C3 C4
      have V0 := hideK hb
      clear hr hu hti ht a0 a1' hA hA4 hb
      have di : (i : Int) < (n : Int) := by omega
      have wk : IntKind.i64.wrap ((i : Int) + 1) = ((i + 1 : Nat) : Int) := by rw [show ((i + 1 : Nat) : Int) = (i : Int) + 1 by omega]; exact IntWalk.i64_in _ ⟨by omega, by omega⟩
      obtain ⟨e0, e1⟩ := HG.out wq V0.out
      go_wp2_with fail
      refine (C1.out wq V0.out).mono ?_
      rintro e w2 ⟨rfl, b2⟩
      clear e0 e1
      go_upto_region 7 with fail
      obtain ⟨p1, hp1⟩ : ∃ p, w2.heap.size = p := ⟨_, rfl⟩
      obtain ⟨W1, hW1⟩ : ∃ W, w2.alloc (.cells #[.int .i64 r.1.N, .int .i64 r.1.D] 42) = W := ⟨_, rfl⟩
      have V1 : Hid (Below w.heap.size w W1 ∧ Two W1 p1 (.int .i64 r.1.N) (.int .i64 r.1.D)) := hideK (by
        rw [← hW1, ← hp1]
        exact ⟨bup V0.out (bup b2 (bel1 _ _)), Two.new _ _ _ _⟩)
      rw [hW1, hp1]
      clear hW1 hp1 b2 C1 V0
      obtain ⟨e0, e1⟩ := HG.out W1 V1.out.1
      go_wp2_with fail
      refine (C2.out W1 V1.out.1).mono ?_
      rintro e w2 ⟨rfl, b2⟩
      clear e0 e1
      go_upto_region 8 with fail
      obtain ⟨p2, hp2⟩ : ∃ p, w2.heap.size = p := ⟨_, rfl⟩
      obtain ⟨W2, hW2⟩ : ∃ W, w2.alloc (.cells #[.int .i64 r.1.N, .int .i64 r.1.D] 42) = W := ⟨_, rfl⟩
      have V2 : Hid (Below w.heap.size w W2 ∧ Two W2 p1 (.int .i64 r.1.N) (.int .i64 r.1.D) ∧ Two W2 p2 (.int .i64 r.1.N) (.int .i64 r.1.D)) := hideK (by
        rw [← hW2, ← hp2]
        exact ⟨bup V1.out.1 (bup b2 (bel1 _ _)), (V1.out.2).keep (bup b2 (bel1 _ _)), Two.new _ _ _ _⟩)
      rw [hW2, hp2]
      clear hW2 hp2 b2 C2 V1
      obtain ⟨e0, e1⟩ := HG.out W2 V2.out.1
      go_wp2_with fail
      refine (C3.out W2 V2.out.1).mono ?_
      rintro e w2 ⟨rfl, b2⟩
      clear e0 e1
      go_upto_region 9 with fail
      obtain ⟨p3, hp3⟩ : ∃ p, w2.heap.size = p := ⟨_, rfl⟩
      obtain ⟨W3, hW3⟩ : ∃ W, w2.alloc (.cells #[.int .i64 u.1.N, .int .i64 u.1.D] 42) = W := ⟨_, rfl⟩
      have V3 : Hid (Below w.heap.size w W3 ∧ Two W3 p1 (.int .i64 r.1.N) (.int .i64 r.1.D) ∧ Two W3 p2 (.int .i64 r.1.N) (.int .i64 r.1.D) ∧ Two W3 p3 (.int .i64 u.1.N) (.int .i64 u.1.D)) := hideK (by
        rw [← hW3, ← hp3]
        exact ⟨bup V2.out.1 (bup b2 (bel1 _ _)), (V2.out.2.1).keep (bup b2 (bel1 _ _)), (V2.out.2.2).keep (bup b2 (bel1 _ _)), Two.new _ _ _ _⟩)
      rw [hW3, hp3]
      clear hW3 hp3 b2 C3 V2
      obtain ⟨e0, e1⟩ := HG.out W3 V3.out.1
      go_wp2_with fail
      refine (C4.out W3 V3.out.1).mono ?_
      rintro e w2 ⟨rfl, b2⟩
      clear e0 e1
      go_upto_region 10 with fail
      obtain ⟨p4, hp4⟩ : ∃ p, w2.heap.size = p := ⟨_, rfl⟩
      obtain ⟨W4, hW4⟩ : ∃ W, w2.alloc (.cells #[.int .i64 u.1.N, .int .i64 u.1.D] 42) = W := ⟨_, rfl⟩
      have V4 : Hid (Below w.heap.size w W4 ∧ Two W4 p1 (.int .i64 r.1.N) (.int .i64 r.1.D) ∧ Two W4 p2 (.int .i64 r.1.N) (.int .i64 r.1.D) ∧ Two W4 p3 (.int .i64 u.1.N) (.int .i64 u.1.D) ∧ Two W4 p4 (.int .i64 u.1.N) (.int .i64 u.1.D)) := hideK (by
        rw [← hW4, ← hp4]
        exact ⟨bup V3.out.1 (bup b2 (bel1 _ _)), (V3.out.2.1).keep (bup b2 (bel1 _ _)), (V3.out.2.2.1).keep (bup b2 (bel1 _ _)), (V3.out.2.2.2).keep (bup b2 (bel1 _ _)), Two.new _ _ _ _⟩)
      rw [hW4, hp4]
      clear hW4 hp4 b2 C4 V3
      obtain ⟨e0, e1⟩ := HG.out W4 V4.out.1
      clear e0 e1
      obtain ⟨⟨_, m0, m1, -, -⟩, ⟨_, m2, m3, -, -⟩, ⟨_, m4, m5, -, -⟩, ⟨_, m6, m7, -, -⟩⟩ := V4.out.2
      go_wp2_with fail
      go_roundw
      case rel => exact ⟨i + 1, by first | rfl | simp, by omega, V4.out.1⟩
      case measure => simp [intOf]; omega
    · obtain rfl : i = n := by omega
      have d2 : ¬ (i : Int) < (i : Int) := by omega
      have V0 := hideK hb
      clear hb HAp HUn HRa HRu HC2 HKn HKs
      go_wp2_with fail
      refine (HAl.out wq V0.out).mono ?_
      rintro e w2 ⟨vx, rfl, hox, b2⟩
      obtain ⟨ox, cx, rfl, -, hkx, -⟩ := own_rt hox
      have V2 := hideK (And.intro (bup V0.out b2) hkx)
      clear hox hkx b2 V0 HAl
      go_wp2_with fail
      refine (HRl.out w2 V2.out.1).mono ?_
      rintro e w3 ⟨vy, rfl, hoy, b3⟩
      obtain ⟨oy, cy, rfl, -, hky, -⟩ := own_rt hoy
      have V3 := hideK (And.intro (bup V2.out.1 b3) (And.intro (V2.out.2.keep b3) hky))
      clear hoy hky b3 V2 HRl
      obtain ⟨q, hql⟩ : ∃ q, AQ.length = q := ⟨_, rfl⟩
      have HQL := hideK hql
      rw [hql] at hq ⊢
      clear hql
      go_wp2_with fail
      go_loopw [22] (fun iv wq => ∃ j : Nat, iv = .int .i64 (j : Nat) ∧ j ≤ q ∧ Below w3.heap.size w3 wq) (fun iv _ => q - (intOf iv).toNat)
      case atStart => exact ⟨0, rfl, Nat.zero_le _, Below.refl _ _⟩
      case round =>
        obtain ⟨j, rfl, hj, hb⟩ := hrel
        obtain ⟨wz, rfl⟩ : ∃ wz, wz = wr := ⟨_, rfl⟩
        by_cases hlt2 : j < q
        · obtain ⟨x, hx⟩ : ∃ x, AQ[j]? = some x := ⟨_, List.getElem?_eq_getElem (by rw [HQL.out]; omega)⟩
          obtain ⟨A, rfl, -, a0, a1'⟩ := (V3.out.2.1.keep hb).get hx
          obtain ⟨A', rfl, -, b0, b1⟩ := (V3.out.2.2.keep hb).get hx
          have HBe := hideK hb
          clear hb hx
          have dj : (j : Int) < (q : Int) := by omega
          have wk : IntKind.i64.wrap ((j : Int) + 1) = ((j + 1 : Nat) : Int) := by rw [show ((j + 1 : Nat) : Int) = (j : Int) + 1 by omega]; exact IntWalk.i64_in _ ⟨by omega, by omega⟩
          have hqq := rne x.N x.D
          go_upto_region 19 with fail
          go_region
          go_wp2_with fail
          go_roundw
          case rel => exact ⟨j + 1, by first | rfl | simp, by omega, HBe.out.drew⟩
          case measure => simp [intOf]; omega
        · have d1 : ¬ (j : Int) < (q : Int) := by omega
          have HBe := hideK hb
          clear hb
          go_wp2_with fail
          rw [← HP.out]
          exact ⟨rfl, bup V3.out.1 HBe.out⟩
end Go.Proofs.Ytipnefaggpigfaa
