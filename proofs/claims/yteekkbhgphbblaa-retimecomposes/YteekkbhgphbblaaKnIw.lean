/- RetimeInverts: the walk (chapter 6). -/
import Derived.Test.YteekkbhgphbblaaGD
import Derived.Test.YteekkbhgphbblaaGA
import Derived.Test.YteekkbhgphbblaaKnW
import Derived.Deep.RegionHeld3
import Derived.Deep.QuietTactic
import Derived.BigQuiet
namespace Go.Proofs.Yteekkbhgphbblaa
open Go.RowKit Go.Shelf

set_option maxRecDepth 100000 in
theorem fineQI (n : Int) (w : World) : Calls Try.prog 8 #[.int .i64 n] w fun e w' => e = .returned (.bool (n == 0)) ∧ w' = w := by
  go_enter Try.func8, Try.ntmps8
  go_wp2_with fail
  go_ret
  exact ⟨rfl, rfl⟩
theorem fineZI {n : Int} {z : Bool} (h : (n == 0) = z) (w : World) : Calls Try.prog 8 #[.int .i64 n] w fun e w' => e = .returned (.bool z) ∧ w' = w := by
  rw [← h]
  exact fineQI n w
theorem ap6 {h : Rat → Rat} {L : List Kn} (m : Mp h L) (hL : ∀ x ∈ L, KnIn x) (B : Nat) (t : Rt) (ht : RtIn t) (w : World) (hM : MapAt w B (newK L) (slsK (newK L))) :
    Calls Try.prog 12 #[.pointer (some ⟨B, 0, none⟩), .agg #[.int .i64 t.N, .int .i64 t.D]] w fun e w' => e = .returned (.tuple #[.agg #[.int .i64 (appF (newK L) (slsK (newK L)) t).1.N, .int .i64 (appF (newK L) (slsK (newK L)) t).1.D], .int .i64 (appF (newK L) (slsK (newK L)) t).2]) ∧ Below w.heap.size w w' := by
  obtain ⟨h1, h2, h3, h4, h5, h6⟩ := m.mpk hL
  exact apply_fun _ _ B t h1 h6 ht h2 h3 h4 h5 w hM
theorem un6 {h : Rat → Rat} {L : List Kn} (m : Mp h L) (hL : ∀ x ∈ L, KnIn x) (B : Nat) (t : Rt) (ht : RtIn t) (w : World) (hM : MapAt w B (newK L) (slsK (newK L))) :
    Calls Try.prog 13 #[.pointer (some ⟨B, 0, none⟩), .agg #[.int .i64 t.N, .int .i64 t.D]] w fun e w' => e = .returned (.tuple #[.agg #[.int .i64 (undF (newK L) (slsK (newK L)) t).1.N, .int .i64 (undF (newK L) (slsK (newK L)) t).1.D], .int .i64 (undF (newK L) (slsK (newK L)) t).2]) ∧ Below w.heap.size w w' := by
  obtain ⟨h1, h2, h3, h4, h5, h6⟩ := m.mpk hL
  exact undo_fun _ _ B t h1 h6 ht h2 h3 h4 m.ro w hM
theorem sw_in {K : List Kn} (h : ∀ x ∈ K, KnIn x) : ∀ x ∈ swK K, KnIn x := fun x hx => by
  obtain ⟨y, hy, rfl⟩ := List.mem_map.1 hx
  exact ⟨(h y hy).2, (h y hy).1⟩
theorem kno_i6 (W : World) : KnO (W.alloc (.cells #[.int .i64 0, .int .i64 1, .int .i64 0, .int .i64 1, .int .i64 1, .int .i64 1, .int .i64 1, .int .i64 1] 41)) (some ⟨W.heap.size, 0, none⟩) I06 := by
  have h := World.ownsRow_lit (base := W.heap.size) (size := 4) (e := 41) W #[.int .i64 0, .int .i64 1, .int .i64 0, .int .i64 1, .int .i64 1, .int .i64 1, .int .i64 1, .int .i64 1] 2 (Nat.le_refl _) (by unfold maxLen; omega) rfl
  obtain ⟨o, c, e, -, hk, -⟩ := own_kn (Q := I06) h
  cases e
  exact hk
theorem knr6 (K : List Kn) (hl : K.length ≤ 1000) (h1 : 1 ≤ K.length) (B : Nat) (w : World) (hM : MapAt w B K (slsK K)) :
    Calls Try.prog 11 #[.pointer (some ⟨B, 0, none⟩)] w fun e w' => ∃ o c, e = .returned (.slice o K.length c) ∧ (K.length ≤ c ∧ c ≤ maxLen) ∧ KnO w' o K ∧ Below w.heap.size w w' := by
  refine (knots_any6 K (slsK K) B hl h1 w hM).mono ?_
  rintro e w' ⟨v, rfl, hown, b⟩
  obtain ⟨o, c, rfl, hc, hk, -⟩ := own_kn hown
  exact ⟨o, c, rfl, hc, hk, b⟩
set_option maxRecDepth 100000 in
set_option maxHeartbeats 4000000 in
theorem inverts6_walk (L : List Kn) (oa : Option Addr) (cl : Nat) (T : List Rt) (ot : Option Addr) (ct : Nat) (hL : ∀ x ∈ L, KnIn x) (hT : ∀ t ∈ T, RtIn t) (hcl : L.length ≤ cl ∧ cl ≤ maxLen) (w : World) (hO : KnO w oa L) (hR : RtO w ot T) :
    Calls Try.prog 4 #[.slice oa L.length cl, .slice ot T.length ct] w fun e w' => e = .returned (.bool true) ∧ Below w.heap.size w w' := by
  have hmx : maxLen ≤ 9223372036854775807 := by decide
  obtain ⟨n, hn⟩ : ∃ n, L.length = n := ⟨_, rfl⟩
  obtain ⟨m, hm⟩ : ∃ m, T.length = m := ⟨_, rfl⟩
  have HN := hideK hn
  have HM := hideK hm
  have HR := hideK hR
  have HL := hideK hL
  have HT := hideK hT
  have hnw := hideK (fun (W : World) (q : Below w.heap.size w W) => new_any6 L oa cl hL hcl W (hO.keep q))
  rw [hn] at hcl hnw ⊢
  rw [hm]
  clear hn hm hO hR hL hT
  obtain ⟨PO, hPO⟩ : ∃ PO : Ending → World → Prop, (fun e w' => e = .returned (.bool true) ∧ Below w.heap.size w w') = PO := ⟨_, rfl⟩
  have HP := hideK hPO
  rw [hPO]
  clear hPO
  go_enter Try.func4, Try.ntmps4
  go_wp2_with fail
  refine (known6_any w).mono ?_
  rintro e w1 ⟨rfl, b1⟩
  have H1 := hideK b1
  clear b1
  by_cases h300 : 2000 < m
  · have d3 : (2000 : Int) < (m : Int) := by omega
    go_wp2_with fail
    rw [← HP.out]
    exact ⟨rfl, H1.out⟩
  have d3 : ¬ (2000 : Int) < (m : Int) := by omega
  go_wp2_with fail
  refine (hnw.out w1 H1.out).mono ?_
  rintro e w2 ⟨b2, h2⟩
  have H2 := hideK (bup H1.out b2)
  clear b2 hnw H1
  rcases h2 with ⟨hE, B, rfl, -, hM⟩ | ⟨hE, rfl⟩
  case inr =>
    have hf : (newE L == 0) = false := by simpa using hE
    clear hE
    go_wp2_with fail
    refine (fine6 _ w2).mono ?_
    rintro e w3 ⟨rfl, b3⟩
    have H3 := hideK (bup H2.out b3)
    clear b3
    go_wp2_with fail
    rw [← HP.out]
    exact ⟨rfl, H3.out⟩
  case inl =>
  have HMA := hideK hM
  clear hM
  obtain ⟨h, hmp⟩ := Mp.of hE
  have Hmp := hideK hmp
  have hpk := hmp.mpk HL.out
  have HV := hideK (fun (W : World) (q : Below w2.heap.size w2 W) => inverse_any6 (newK L) B hpk.1 hpk.2.2.1 hpk.2.2.2.1 W (HMA.out.keep q))
  clear hmp hpk
  go_wp2_with fail
  refine (fine6 0 w2).mono ?_
  rintro e w3 ⟨rfl, b3⟩
  have H3 := hideK b3
  clear b3
  go_wp2_with fail
  refine (HV.out w3 H3.out).mono ?_
  rintro e w4 ⟨b4, h4⟩
  have H4 := hideK (bup H3.out b4)
  clear b4 HV H3
  rcases h4 with ⟨hE2, B2, rfl, -, hM2⟩ | ⟨hE2, rfl⟩
  case inr =>
    have hf : (newE (swK (newK L)) == 0) = false := by simpa using hE2
    clear hE2
    go_wp2_with fail
    refine (fine6 _ w4).mono ?_
    rintro e w5 ⟨rfl, b5⟩
    have H5 := hideK (bup H4.out b5)
    clear b5
    go_wp2_with fail
    rw [← HP.out]
    exact ⟨rfl, bup H2.out H5.out⟩
  case inl =>
  have HMB := hideK hM2
  clear hM2
  obtain ⟨F1, F2, F3⟩ := inverts_facts hE hE2
  obtain ⟨g, hmg, -, -⟩ := Hmp.out.inv hE2
  have hpk := Hmp.out.mpk HL.out
  have hsw := sw_in hpk.1
  have hpv := hmg.mpk hsw
  have hl2 := new_len2 L
  have hl2v := new_len2 (swK (newK L))
  have HIv : Hid (∀ W, Below w4.heap.size w4 W → Calls Try.prog 14 #[.pointer (some ⟨B2, 0, none⟩)] W fun e w' => ((∃ B', e = .returned (.tuple #[.pointer (some ⟨B', 0, none⟩), .int .i64 0]) ∧ MapAt w' B' (newK L) (slsK (newK L))) ∨ (∃ er : Int, (er == 0) = false ∧ e = .returned (.tuple #[.pointer none, .int .i64 er]))) ∧ Below W.heap.size W w') := hideK (fun W q => by
    refine (inverse_any6 (newK (swK (newK L))) B2 hpv.1 hpv.2.2.1 hpv.2.2.2.1 W (HMB.out.keep q)).mono ?_
    rintro e w' ⟨b, ⟨hz, B', rfl, -, hM⟩ | ⟨hz, rfl⟩⟩
    · rw [F1 hz] at hM
      exact ⟨.inl ⟨B', rfl, hM⟩, b⟩
    · exact ⟨.inr ⟨_, by simpa using hz, rfl⟩, b⟩)
  have HTh : Hid (∀ W, Below w4.heap.size w4 W → Calls Try.prog 9 #[.pointer (some ⟨B, 0, none⟩), .pointer (some ⟨B2, 0, none⟩)] W fun e w' => ((∃ B', e = .returned (.tuple #[.pointer (some ⟨B', 0, none⟩), .int .i64 0]) ∧ MapAt w' B' I06 (slsK I06)) ∨ (∃ er : Int, (er == 0) = false ∧ e = .returned (.tuple #[.pointer none, .int .i64 er]))) ∧ Below W.heap.size W w') := hideK (fun W q => by
    refine (then_any6 (newK L) (newK (swK (newK L))) B B2 hpk hpv Hmp.out.ro W (HMA.out.keep (bup H4.out q)) (HMB.out.keep q)).mono ?_
    rintro e w' ⟨b, ⟨hz, B', rfl, -, hM⟩ | ⟨hz, rfl⟩⟩
    · rw [F2 hz] at hM
      exact ⟨.inl ⟨B', rfl, hM⟩, b⟩
    · exact ⟨.inr ⟨_, by simpa using hz, rfl⟩, b⟩)
  have HKn := hideK (fun (W : World) (B' : Nat) (hM : MapAt W B' (newK L) (slsK (newK L))) => knr6 (newK L) hpk.2.2.1 hpk.2.2.2.1 B' W hM)
  have HKi := hideK (fun (W : World) (B' : Nat) (hM : MapAt W B' I06 (slsK I06)) => knr6 I06 (by decide) (by decide) B' W hM)
  have HKs := hideK (fun (W : World) (oa ob : Option Addr) (c1 c2 : Nat) (h1 : (newK L).length ≤ c1 ∧ c1 ≤ maxLen) (hA : KnO W oa (newK L)) (hB : KnO W ob (newK L)) => knots6_true (newK L) oa ob c1 c2 h1 W hA hB)
  have HAp := hideK (fun (W : World) (t : Rt) (ht : RtIn t) (q : Below w4.heap.size w4 W) => ap6 Hmp.out HL.out B t ht W (HMA.out.keep (bup H4.out q)))
  have HAv := hideK (fun (W : World) (t : Rt) (ht : RtIn t) (q : Below w4.heap.size w4 W) => ap6 hmg hsw B2 t ht W (HMB.out.keep q))
  have HUv := hideK (fun (W : World) (t : Rt) (ht : RtIn t) (q : Below w4.heap.size w4 W) => un6 hmg hsw B2 t ht W (HMB.out.keep q))
  have HF := hideK F3
  have HFi : Hid (∀ t : Rt, RtIn (appF (newK L) (slsK (newK L)) t).1 ∧ RtIn (appF (newK (swK (newK L))) (slsK (newK (swK (newK L)))) t).1 ∧ RtIn (undF (newK (swK (newK L))) (slsK (newK (swK (newK L)))) t).1) := hideK (fun t => ⟨appF_in _ _ _, appF_in _ _ _, undF_in _ _ _⟩)
  have HMA4 := hideK (HMA.out.keep H4.out)
  generalize appF (newK (swK (newK L))) (slsK (newK (swK (newK L)))) = G at *
  generalize undF (newK (swK (newK L))) (slsK (newK (swK (newK L)))) = U at *
  generalize appF (newK L) (slsK (newK L)) = F at *
  obtain ⟨kk, hkk⟩ : ∃ kk, (newK L).length = kk := ⟨_, rfl⟩
  rw [hkk] at HKn HKs
  clear F1 F2 F3 hmg hpk hsw hpv hl2 hl2v hkk HMB
  generalize newK L = K at *
  clear hE2 Hmp HMA hE
  go_wp2_with fail
  refine (fine6 0 w4).mono ?_
  rintro e w5 ⟨rfl, b5⟩
  have H5 := hideK b5
  clear b5
  go_upto_region 11 with fail
  go_cut [9, 10] (fun p e wx => ∃ er : Int, e = .int .i64 er ∧ Below w4.heap.size w4 wx ∧ ((er = 0 ∧ ∃ B', p = .pointer (some ⟨B', 0, none⟩) ∧ MapAt wx B' K (slsK K)) ∨ (er == 0) = false))
  case first =>
    go_wp2_with fail
    refine (HIv.out w5 H5.out).mono ?_
    rintro e w6 ⟨h6, b6⟩
    have H6 := hideK (bup H5.out b6)
    clear b6 HIv
    rcases h6 with ⟨B', rfl, hM6⟩ | ⟨er, hr, rfl⟩
    · have HM6 := hideK hM6
      clear hM6
      go_wp2_with fail
      go_meet
      case rel => exact ⟨0, rfl, H6.out, .inl ⟨rfl, B', rfl, HM6.out⟩⟩
    · have HR6 := hideK hr
      clear hr
      go_wp2_with fail
      go_meet
      case rel => exact ⟨er, rfl, H6.out, .inr HR6.out⟩
  case rest =>
  obtain ⟨er, rfl, hb6, h6⟩ := hcut
  obtain ⟨w6, rfl⟩ : ∃ X, X = wc := ⟨_, rfl⟩
  have H6 := hideK hb6
  have HQ6 := hideK h6
  clear hb6 h6 HIv H5
  go_upto_region 12 with fail
  go_cut [59] (fun o wx => o = .bool false ∧ Below w4.heap.size w4 wx)
  case first =>
    rcases HQ6.out with ⟨he, B', rfl, hM6⟩ | hr
    · subst he
      have HM6 := hideK hM6
      clear hM6 HQ6
      go_wp2_with fail
      refine (fine6 0 w6).mono ?_
      rintro e w7 ⟨rfl, b7⟩
      have H7 := hideK (bup H6.out b7)
      have HM7 := hideK (HM6.out.keep b7)
      clear b7 HM6
      go_wp2_with fail
      refine (HKn.out w7 B' HM7.out).mono ?_
      rintro e w8 ⟨o8, c8, rfl, hc8, hk8, b8⟩
      have H8 := hideK (bup H7.out b8)
      have HK8 := hideK (And.intro hc8 hk8)
      clear b8 hc8 hk8
      go_wp2_with fail
      refine (HKn.out w8 B (HMA4.out.keep H8.out)).mono ?_
      rintro e w9 ⟨o9, c9, rfl, hc9, hk9, b9⟩
      have H9 := hideK (bup H8.out b9)
      have HK9 := hideK (And.intro hk9 (HK8.out.2.keep b9))
      clear b9 hc9 hk9
      go_wp2_with fail
      refine (HKs.out w9 o8 o9 c8 c9 HK8.out.1 HK9.out.2 HK9.out.1).mono ?_
      rintro e w10 ⟨rfl, b10⟩
      have H10 := hideK (bup H9.out b10)
      clear b10
      go_wp2_with fail
      go_meet
      case rel => exact ⟨rfl, H10.out⟩
    · have HR := hideK hr
      have hr' := hr
      clear hr HQ6
      go_wp2_with fail
      refine (fine6 er w6).mono ?_
      rintro e w7 ⟨rfl, b7⟩
      have H7 := hideK (bup H6.out b7)
      clear b7
      go_wp2_with fail
      go_meet
      case rel => exact ⟨rfl, H7.out⟩
  case rest =>
  obtain ⟨rfl, hb7⟩ := hcut
  obtain ⟨w7, rfl⟩ : ∃ X, X = wc := ⟨_, rfl⟩
  have H7 := hideK hb7
  clear hb7 HQ6 H6
  go_upto_region 14 with fail
  go_cut [11, 12] (fun p e wx => ∃ er : Int, e = .int .i64 er ∧ Below w4.heap.size w4 wx ∧ ((er = 0 ∧ ∃ B', p = .pointer (some ⟨B', 0, none⟩) ∧ MapAt wx B' I06 (slsK I06)) ∨ (er == 0) = false))
  case first =>
    go_wp2_with fail
    refine (HTh.out w7 H7.out).mono ?_
    rintro e w8 ⟨h8, b8⟩
    have H8 := hideK (bup H7.out b8)
    clear b8 HTh
    rcases h8 with ⟨B', rfl, hM8⟩ | ⟨er, hr, rfl⟩
    · have HM8 := hideK hM8
      clear hM8
      go_wp2_with fail
      go_meet
      case rel => exact ⟨0, rfl, H8.out, .inl ⟨rfl, B', rfl, HM8.out⟩⟩
    · have HR8 := hideK hr
      clear hr
      go_wp2_with fail
      go_meet
      case rel => exact ⟨er, rfl, H8.out, .inr HR8.out⟩
  case rest =>
  obtain ⟨er, rfl, hb8, h8⟩ := hcut
  obtain ⟨w8, rfl⟩ : ∃ X, X = wc := ⟨_, rfl⟩
  have H8 := hideK hb8
  have HQ8 := hideK h8
  clear hb8 h8 HTh H7
  go_upto_region 15 with fail
  go_cut [80] (fun o wx => o = .bool false ∧ Below w4.heap.size w4 wx)
  case first =>
    rcases HQ8.out with ⟨he, B', rfl, hM8⟩ | hr
    · subst he
      have HM8 := hideK hM8
      clear hM8 HQ8
      go_wp2_with fail
      refine (fine6 0 w8).mono ?_
      rintro e w9 ⟨rfl, b9⟩
      have H9 := hideK (bup H8.out b9)
      have HM9 := hideK (HM8.out.keep b9)
      clear b9 HM8
      go_wp2_with fail
      refine (HKi.out w9 B' HM9.out).mono ?_
      rintro e w10 ⟨o8, c8, rfl, hc8, hk8, b10⟩
      have H10 := hideK (bup H9.out b10)
      have HC8 := hideK hc8
      have HK10 := hideK hk8
      clear b10 hc8 hk8
      go_wp2_with fail
      refine (whole6L 0 w10).mono ?_
      rintro e w11 ⟨rfl, b11⟩
      have H11 := hideK (bup H10.out b11)
      have HK11 := hideK (HK10.out.keep b11)
      clear b11 HK10
      go_wp2_with fail
      refine (whole6L 0 w11).mono ?_
      rintro e w12 ⟨rfl, b12⟩
      have H12 := hideK (bup H11.out b12)
      have HK12 := hideK (HK11.out.keep b12)
      clear b12 HK11
      go_wp2_with fail
      refine (whole6L 1 w12).mono ?_
      rintro e w13 ⟨rfl, b13⟩
      have H13 := hideK (bup H12.out b13)
      have HK13 := hideK (HK12.out.keep b13)
      clear b13 HK12
      go_wp2_with fail
      refine (whole6L 1 w13).mono ?_
      rintro e w14 ⟨rfl, b14⟩
      have H14 := hideK (bup H13.out b14)
      have HK14 := hideK (HK13.out.keep b14)
      clear b14 HK13
      go_wp2_with fail
      have hi6 : I06.length = 2 := rfl
      refine (knots6_true I06 o8 (some ⟨w14.heap.size, 0, none⟩) c8 2 HC8.out _ (HK14.out.keep (bel1 _ _)) (kno_i6 w14)).mono ?_
      rintro e w15 ⟨rfl, b15⟩
      have H15 := hideK (bup (bup H14.out (bel1 _ _)) b15)
      clear b15
      go_wp2_with fail
      go_meet
      case rel => exact ⟨rfl, H15.out⟩
    · have hr' := hr
      clear hr HQ8
      go_wp2_with fail
      refine (fine6 er w8).mono ?_
      rintro e w9 ⟨rfl, b9⟩
      have H9 := hideK (bup H8.out b9)
      clear b9
      go_wp2_with fail
      go_meet
      case rel => exact ⟨rfl, H9.out⟩
  case rest =>
  obtain ⟨rfl, hb9⟩ := hcut
  obtain ⟨w9, rfl⟩ : ∃ X, X = wc := ⟨_, rfl⟩
  have H9 := hideK hb9
  clear hb9 HQ8 H8
  go_wp2_with fail
  go_loopw [13] (fun iv wq => ∃ i : Nat, iv = .int .i64 (i : Nat) ∧ i ≤ m ∧ Below w4.heap.size w4 wq) (fun iv _ => m - (intOf iv).toNat)
  case atStart => exact ⟨0, rfl, Nat.zero_le _, H9.out⟩
  case round =>
    obtain ⟨i, rfl, hi, hb⟩ := hrel
    obtain ⟨wq, rfl⟩ : ∃ wq, wq = wr := ⟨_, rfl⟩
    by_cases hlt : i < m
    · obtain ⟨t, ht⟩ : ∃ x, T[i]? = some x := ⟨_, List.getElem?_eq_getElem (by rw [HM.out]; omega)⟩
      have hti := HT.out t (List.mem_of_getElem? ht)
      obtain ⟨A, rfl, hA, a0, a1⟩ := (HR.out.keep (bup H2.out (bup H4.out hb))).get ht
      have kA : (A.add (i * 2)).block < wq.heap.size := by rw [addrN_block]; exact hA
      generalize hPA : A.add (i * 2) = PA at *
      have HK : Hid (∀ W : World, Below wq.heap.size wq W → (W.cell? PA = some (.int .i64 t.N) ∧ W.cell? ⟨PA.block, PA.off + 1, none⟩ = some (.int .i64 t.D))) := hideK (fun W q => ⟨(q.cell kA).trans a0, (q.cell (p := ⟨PA.block, PA.off + 1, none⟩) kA).trans a1⟩)
      have Hap := hideK (HAp.out wq t hti hb)
      have HUt := hideK (fun (W : World) (q : Below wq.heap.size wq W) => HUv.out W t hti (bup hb q))
      obtain ⟨hri, -, hui⟩ := HFi.out t
      have hFt := HF.out t
      obtain ⟨r, hr⟩ : ∃ r, F t = r := ⟨_, rfl⟩
      obtain ⟨u, hu⟩ : ∃ r, U t = r := ⟨_, rfl⟩
      rw [hr] at Hap hri hFt
      rw [hu] at HUt hFt hui
      have HGr := hideK (fun (W : World) (q : Below wq.heap.size wq W) => HAv.out W r.1 hri (bup hb q))
      obtain ⟨y, hy⟩ : ∃ r', G r.1 = r' := ⟨_, rfl⟩
      rw [hy] at HGr hFt
      have HFt := hideK hFt
      have HB := hideK hb
      clear hr hu hy hFt hb ht hti hri hui hA
      have di : (i : Int) < (m : Int) := by omega
      have wk : IntKind.i64.wrap ((i : Int) + 1) = ((i + 1 : Nat) : Int) := by rw [show ((i + 1 : Nat) : Int) = (i : Int) + 1 by omega]; exact IntWalk.i64_in _ ⟨by omega, by omega⟩
      go_wp2_with fail
      refine Hap.out.mono ?_
      rintro e w10 ⟨rfl, b10⟩
      have H10 := hideK b10
      clear b10 a0 a1 Hap
      go_upto_region 21 with fail
      obtain ⟨X, hX⟩ : ∃ X, w10.alloc (.cells #[.int .i64 r.1.N, .int .i64 r.1.D] 34) = X := ⟨_, rfl⟩
      have HX : Hid (Below wq.heap.size wq X ∧ Two X w10.heap.size (.int .i64 r.1.N) (.int .i64 r.1.D)) := hideK (by
        rw [← hX]
        exact ⟨bup H10.out (bel1 _ _), Two.new _ _ _ _⟩)
      rw [hX]
      clear hX H10
      generalize w10.heap.size = Bx at *
      obtain ⟨z, hz⟩ : ∃ z, (r.2 == 0) = z := ⟨_, rfl⟩
      have HZ := hideK hz
      have HFi1 := hideK (fun W => fineZI hz W)
      clear hz
      cases z
      case false =>
        go_wp2_with fail
        refine (HFi1.out X).mono ?_
        rintro e w11 ⟨rfl, e11⟩
        rw [e11]
        clear e11
        go_wp2_with fail
        go_roundw
        case rel => exact ⟨i + 1, by first | rfl | simp, by omega, bup HB.out HX.out.1⟩
        case measure => simp [intOf]; omega
      case true =>
      go_wp2_with fail
      refine (HFi1.out X).mono ?_
      rintro e w11 ⟨rfl, e11⟩
      rw [e11]
      clear e11
      obtain ⟨_, x0, x1, _, _⟩ := HX.out.2
      go_wp2_with fail
      refine (HGr.out X HX.out.1).mono ?_
      rintro e w12 ⟨rfl, b12⟩
      have H12 := hideK b12
      clear b12 x0 x1 HGr
      go_upto_region 23 with fail
      obtain ⟨Y, hY⟩ : ∃ X, w12.alloc (.cells #[.int .i64 y.1.N, .int .i64 y.1.D] 34) = X := ⟨_, rfl⟩
      have HY : Hid (Below X.heap.size X Y ∧ Two Y w12.heap.size (.int .i64 y.1.N) (.int .i64 y.1.D)) := hideK (by
        rw [← hY]
        exact ⟨bup H12.out (bel1 _ _), Two.new _ _ _ _⟩)
      rw [hY]
      clear hY H12
      generalize w12.heap.size = By at *
      have HK2 : Hid (∀ W, Below Y.heap.size Y W → (W.cell? ⟨By, 0, none⟩ = some (.int .i64 y.1.N) ∧ W.cell? ⟨By, 1, none⟩ = some (.int .i64 y.1.D) ∧ W.cell? PA = some (.int .i64 t.N) ∧ W.cell? ⟨PA.block, PA.off + 1, none⟩ = some (.int .i64 t.D))) := hideK (fun W q => ⟨(HY.out.2.keep q).2.1, (HY.out.2.keep q).2.2.1, HK.out W (bup HX.out.1 (bup HY.out.1 q))⟩)
      obtain ⟨c0, c1, c2, c3⟩ := HK2.out Y (Below.refl _ _)
      have hnq : ∀ W, (binOp .neq 34 (.agg #[.int .i64 y.1.N, .int .i64 y.1.D]) (.agg #[.int .i64 t.N, .int .i64 t.D])).run Try.prog W = .ok (.bool (!(y.1.N == t.N && y.1.D == t.D))) W := fun W => rt_neqK _ _ _ _ W
      have hz : ∃ z : Bool, (y.2 == 0) = z ∧ (z = true → (!(y.1.N == t.N && y.1.D == t.D)) = false) := ⟨_, rfl, fun e => by
        rw [(HFt.out (by simpa using HZ.out)).1 (by simpa using e)]
        simp⟩
      obtain ⟨z, hz1, hz2⟩ := hz
      have HFi2 := hideK (fun W => fineZI hz1 W)
      clear hz1
      generalize (!(y.1.N == t.N && y.1.D == t.D)) = nb at *
      go_cut [114] (fun o wx => o = .bool false ∧ Below Y.heap.size Y wx)
      case first =>
        cases z
        case false =>
          clear hz2
          go_quiet ((go_at_call 8; exact Calls.quiet_of_same (HFi2.out _)))
          go_wp2_with fail
          go_meet
          case rel => exact ⟨rfl, below_drewN (Below.refl _ _) _⟩
        case true =>
          obtain rfl := hz2 rfl
          clear hz2
          go_region_held3 (fun W => W.cell? ⟨By, 0, none⟩ = some (.int .i64 y.1.N) ∧ W.cell? ⟨By, 1, none⟩ = some (.int .i64 y.1.D) ∧ W.cell? PA = some (.int .i64 t.N) ∧ W.cell? ⟨PA.block, PA.off + 1, none⟩ = some (.int .i64 t.D)) (first | go_keep | assumption) (first
            | (go_at_call 8; (with_reducible refine Calls.mono (HFi2.out _) ?_); rintro e v1 ⟨rfl, b1⟩; have k1 : Below Y.heap.size Y v1 := (by rw [b1]; exact (Below.refl Y.heap.size Y).drew); clear b1; obtain ⟨e0, e1, e2, e3⟩ := HK2.out _ k1))
          all_goals
            go_wp2_with fail
            go_meet
            case rel => exact ⟨rfl, k1⟩
      case rest =>
      obtain ⟨rfl, hb13⟩ := hcut
      obtain ⟨w13, rfl⟩ : ∃ X, X = wc := ⟨_, rfl⟩
      have H13 := hideK (bup HY.out.1 hb13)
      clear hb13 c0 c1 c2 c3 hnq hz2 HFi2 HK2 HY
      obtain ⟨c0, c1⟩ := HK.out w13 (bup HX.out.1 H13.out)
      go_wp2_with fail
      refine (HUt.out w13 (bup HX.out.1 H13.out)).mono ?_
      rintro e w14 ⟨rfl, b14⟩
      have H14 := hideK (bup H13.out b14)
      clear b14 c0 c1 HUt H13
      go_upto_region 26 with fail
      obtain ⟨Y, hY⟩ : ∃ X, w14.alloc (.cells #[.int .i64 u.1.N, .int .i64 u.1.D] 34) = X := ⟨_, rfl⟩
      have HY : Hid (Below X.heap.size X Y ∧ Two Y w14.heap.size (.int .i64 u.1.N) (.int .i64 u.1.D)) := hideK (by
        rw [← hY]
        exact ⟨bup H14.out (bel1 _ _), Two.new _ _ _ _⟩)
      rw [hY]
      clear hY H14
      generalize w14.heap.size = Bu at *
      obtain ⟨_, c0, c1, _, _⟩ := HY.out.2
      obtain ⟨_, x0, x1, _, _⟩ := HX.out.2.keep HY.out.1
      have hnq : ∀ W, (binOp .neq 34 (.agg #[.int .i64 u.1.N, .int .i64 u.1.D]) (.agg #[.int .i64 r.1.N, .int .i64 r.1.D])).run Try.prog W = .ok (.bool (!(u.1.N == r.1.N && u.1.D == r.1.D))) W := fun W => rt_neqK _ _ _ _ W
      have hz : ∃ z : Bool, (u.2 == 0) = z ∧ (z = true → (!(u.1.N == r.1.N && u.1.D == r.1.D)) = false) := ⟨_, rfl, fun e => by
        rw [(HFt.out (by simpa using HZ.out)).2 (by simpa using e)]
        simp⟩
      obtain ⟨z, hz1, hz2⟩ := hz
      have HFi2 := hideK (fun W => fineZI hz1 W)
      clear hz1
      generalize (!(u.1.N == r.1.N && u.1.D == r.1.D)) = nb at *
      cases z
      case false =>
        clear hz2
        go_wp2_with fail
        refine (HFi2.out Y).mono ?_
        rintro e w15 ⟨rfl, e15⟩
        rw [e15]
        clear e15
        go_wp2_with fail
        go_roundw
        case rel => exact ⟨i + 1, by first | rfl | simp, by omega, bup HB.out (bup HX.out.1 HY.out.1)⟩
        case measure => simp [intOf]; omega
      case true =>
        obtain rfl := hz2 rfl
        clear hz2
        go_wp2_with fail
        refine (HFi2.out Y).mono ?_
        rintro e w15 ⟨rfl, e15⟩
        rw [e15]
        clear e15
        go_wp2_with fail
        go_roundw
        case rel => exact ⟨i + 1, by first | rfl | simp, by omega, bup HB.out (bup HX.out.1 HY.out.1)⟩
        case measure => simp [intOf]; omega
    · obtain rfl : i = m := by omega
      have d1 : ¬ (i : Int) < (i : Int) := by omega
      have HBe := hideK hb
      clear hb
      go_wp2_with fail
      rw [← HP.out]
      exact ⟨rfl, bup H2.out (bup H4.out HBe.out)⟩
end Go.Proofs.Yteekkbhgphbblaa
