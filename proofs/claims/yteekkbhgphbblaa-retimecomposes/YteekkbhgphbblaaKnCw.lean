/- RetimeComposes: the walk (chapter 6). -/
import Derived.Test.YteekkbhgphbblaaKnIw
namespace Go.Proofs.Yteekkbhgphbblaa
open Go.RowKit Go.Shelf

theorem th6 {f g : Rat → Rat} {A B : List Kn} (ma : Mp f A) (mb : Mp g B) (hA : ∀ x ∈ A, KnIn x) (hB : ∀ x ∈ B, KnIn x) (B1 B2 : Nat) (w : World) (hM1 : MapAt w B1 (newK A) (slsK (newK A))) (hM2 : MapAt w B2 (newK B) (slsK (newK B))) :
    Calls Try.prog 9 #[.pointer (some ⟨B1, 0, none⟩), .pointer (some ⟨B2, 0, none⟩)] w fun e w' => ((∃ B', e = .returned (.tuple #[.pointer (some ⟨B', 0, none⟩), .int .i64 0]) ∧ thnE (newK A) (newK B) = 0 ∧ MapAt w' B' (newK (thnL (newK A) (newK B))) (slsK (newK (thnL (newK A) (newK B))))) ∨ (∃ er : Int, (er == 0) = false ∧ e = .returned (.tuple #[.pointer none, .int .i64 er]))) ∧ Below w.heap.size w w' := by
  refine (then_any6 (newK A) (newK B) B1 B2 (ma.mpk hA) (mb.mpk hB) ma.ro w hM1 hM2).mono ?_
  rintro e w' ⟨b, ⟨hz, B', rfl, -, hM⟩ | ⟨hz, rfl⟩⟩
  · exact ⟨.inl ⟨B', rfl, hz, hM⟩, b⟩
  · exact ⟨.inr ⟨_, by simpa using hz, rfl⟩, b⟩
theorem thl_in {f : Rat → Rat} {A : List Kn} (ma : Mp f A) (hA : ∀ x ∈ A, KnIn x) (K2 : List Kn) : ∀ x ∈ thnL (newK A) K2, KnIn x := (thn_in (newK A) K2 (ma.mpk hA).1).2.1
theorem nw6 (L : List Kn) (oa : Option Addr) (c : Nat) (hL : ∀ x ∈ L, KnIn x) (hc : L.length ≤ c ∧ c ≤ maxLen) (w : World) (hO : KnO w oa L) :
    Calls Try.prog 7 #[.slice oa L.length c] w fun e w' => ((∃ B', e = .returned (.tuple #[.pointer (some ⟨B', 0, none⟩), .int .i64 0]) ∧ newE L = 0 ∧ MapAt w' B' (newK L) (slsK (newK L))) ∨ (∃ er : Int, (er == 0) = false ∧ e = .returned (.tuple #[.pointer none, .int .i64 er]))) ∧ Below w.heap.size w w' := by
  refine (new_any6 L oa c hL hc w hO).mono ?_
  rintro e w' ⟨b, ⟨hz, B', rfl, -, hM⟩ | ⟨hz, rfl⟩⟩
  · exact ⟨.inl ⟨B', rfl, hz, hM⟩, b⟩
  · exact ⟨.inr ⟨_, by simpa using hz, rfl⟩, b⟩
/-- What New or Then tells: a map of what was asked, or an error. -/
def MkS (z : Prop) (L : List Kn) (p e : Value) (W : World) : Prop := ∃ er : Int, e = .int .i64 er ∧ ((er = 0 ∧ z ∧ ∃ B', p = .pointer (some ⟨B', 0, none⟩) ∧ MapAt W B' (newK L) (slsK (newK L))) ∨ (er == 0) = false)
theorem MkS.keep {z : Prop} {L : List Kn} {p e : Value} {V W : World} (h : MkS z L p e V) (b : Below V.heap.size V W) : MkS z L p e W := by
  obtain ⟨er, h1, ⟨h2, h3, B', h4, h5⟩ | h2⟩ := h
  · exact ⟨er, h1, .inl ⟨h2, h3, B', h4, h5.keep b⟩⟩
  · exact ⟨er, h1, .inr h2⟩
set_option maxRecDepth 100000 in
set_option maxHeartbeats 4000000 in
theorem composes6_walk (A B C : List Kn) (oa ob oc : Option Addr) (ca cb cc : Nat) (T : List Rt) (ot : Option Addr) (ct : Nat) (hA : ∀ x ∈ A, KnIn x) (hB : ∀ x ∈ B, KnIn x) (hC : ∀ x ∈ C, KnIn x) (hT : ∀ t ∈ T, RtIn t) (hca : A.length ≤ ca ∧ ca ≤ maxLen) (hcb : B.length ≤ cb ∧ cb ≤ maxLen) (hcc : C.length ≤ cc ∧ cc ≤ maxLen) (w : World) (hOA : KnO w oa A) (hOB : KnO w ob B) (hOC : KnO w oc C) (hR : RtO w ot T) :
    Calls Try.prog 3 #[.slice oa A.length ca, .slice ob B.length cb, .slice oc C.length cc, .slice ot T.length ct] w fun e w' => e = .returned (.bool true) ∧ Below w.heap.size w w' := by
  have hmx : maxLen ≤ 9223372036854775807 := by decide
  obtain ⟨m, hm⟩ : ∃ m, T.length = m := ⟨_, rfl⟩
  have HM := hideK hm
  have HR := hideK hR
  have HT := hideK hT
  have HIn := hideK (And.intro hA (And.intro hB hC))
  have HnA := hideK (fun (W : World) (q : Below w.heap.size w W) => nw6 A oa ca hA hca W (hOA.keep q))
  have HnB := hideK (fun (W : World) (q : Below w.heap.size w W) => nw6 B ob cb hB hcb W (hOB.keep q))
  have HnC := hideK (fun (W : World) (q : Below w.heap.size w W) => nw6 C oc cc hC hcc W (hOC.keep q))
  generalize A.length = na at *
  generalize B.length = nb at *
  generalize C.length = nc at *
  rw [hm]
  clear hm hOA hOB hOC hR hT hA hB hC
  obtain ⟨PO, hPO⟩ : ∃ PO : Ending → World → Prop, (fun e w' => e = .returned (.bool true) ∧ Below w.heap.size w w') = PO := ⟨_, rfl⟩
  have HP := hideK hPO
  rw [hPO]
  clear hPO
  go_enter Try.func3, Try.ntmps3
  go_wp2_with fail
  refine (known6_any w).mono ?_
  rintro e w1 ⟨rfl, b1⟩
  have H1 := hideK b1
  clear b1
  by_cases h300 : 2000 < m
  · have d3 : (2000 : Int) < (m : Int) := by omega
    go_wp2_with fail
    rw [← HP.out]
    exact ⟨rfl, H1.out⟩
  have d3 : ¬ (2000 : Int) < (m : Int) := by omega
  go_upto_region 5 with fail
  go_cut [9, 10] (fun p e wx => Below w.heap.size w wx ∧ MkS (newE A = 0) A p e wx)
  case first => as_aux_lemma =>
    go_wp2_with fail
    refine (HnA.out w1 H1.out).mono ?_
    rintro e w2 ⟨h2, b2⟩
    have H2 := hideK (bup H1.out b2)
    clear b2 HnA
    rcases h2 with ⟨B', rfl, hz, hM2⟩ | ⟨er, hr, rfl⟩
    · have HM2 := hideK (And.intro hz hM2)
      clear hM2 hz
      go_wp2_with fail
      go_meet
      case rel => exact ⟨H2.out, 0, rfl, .inl ⟨rfl, HM2.out.1, B', rfl, HM2.out.2⟩⟩
    · have HR2 := hideK hr
      clear hr
      go_wp2_with fail
      go_meet
      case rel => exact ⟨H2.out, er, rfl, .inr HR2.out⟩
  case rest =>
  obtain ⟨hb2, h2⟩ := hcut
  obtain ⟨w2, rfl⟩ : ∃ X, X = wc := ⟨_, rfl⟩
  obtain ⟨e1, rfl, q1⟩ := h2
  have H2 := hideK hb2
  have HQ1 := hideK q1
  clear hb2 q1 HnA H1
  go_upto_region 6 with fail
  go_cut [11, 12] (fun p e wx => Below w2.heap.size w2 wx ∧ MkS (newE B = 0) B p e wx)
  case first => as_aux_lemma =>
    go_wp2_with fail
    refine (HnB.out w2 H2.out).mono ?_
    rintro e v2 ⟨h2, b2⟩
    have HB2 := hideK b2
    clear b2 HnB
    rcases h2 with ⟨B', rfl, hz, hM2⟩ | ⟨er, hr, rfl⟩
    · have HM2 := hideK (And.intro hz hM2)
      clear hM2 hz
      go_wp2_with fail
      go_meet
      case rel => exact ⟨HB2.out, 0, rfl, .inl ⟨rfl, HM2.out.1, B', rfl, HM2.out.2⟩⟩
    · have HR2 := hideK hr
      clear hr
      go_wp2_with fail
      go_meet
      case rel => exact ⟨HB2.out, er, rfl, .inr HR2.out⟩
  case rest =>
  obtain ⟨hb2, h2⟩ := hcut
  obtain ⟨w3, rfl⟩ : ∃ X, X = wc := ⟨_, rfl⟩
  have H3 := hideK (bup H2.out hb2)
  obtain ⟨e2, rfl, q2⟩ := h2
  have HQ2 := hideK q2
  have HS3 := hideK hb2
  clear hb2 q2 HnB
  go_upto_region 7 with fail
  go_cut [13, 14] (fun p e wx => Below w3.heap.size w3 wx ∧ MkS (newE C = 0) C p e wx)
  case first => as_aux_lemma =>
    go_wp2_with fail
    refine (HnC.out w3 H3.out).mono ?_
    rintro e v2 ⟨h2, b2⟩
    have HB2 := hideK b2
    clear b2 HnC
    rcases h2 with ⟨B', rfl, hz, hM2⟩ | ⟨er, hr, rfl⟩
    · have HM2 := hideK (And.intro hz hM2)
      clear hM2 hz
      go_wp2_with fail
      go_meet
      case rel => exact ⟨HB2.out, 0, rfl, .inl ⟨rfl, HM2.out.1, B', rfl, HM2.out.2⟩⟩
    · have HR2 := hideK hr
      clear hr
      go_wp2_with fail
      go_meet
      case rel => exact ⟨HB2.out, er, rfl, .inr HR2.out⟩
  case rest =>
  obtain ⟨hb2, h2⟩ := hcut
  obtain ⟨w4, rfl⟩ : ∃ X, X = wc := ⟨_, rfl⟩
  have H4 := hideK (bup H3.out hb2)
  obtain ⟨e3, rfl, q3⟩ := h2
  have HQ3 := hideK q3
  have HS4 := hideK hb2
  clear hb2 q3 HnC
  rcases HQ1.out with ⟨he, hz1, B1, rfl, hM1⟩ | hr
  case inr => as_aux_lemma =>
    clear HQ1 HQ2 HQ3
    go_wp2_with fail
    refine (fine6 e1 w4).mono ?_
    rintro e w5 ⟨rfl, b5⟩
    have H5 := hideK (bup H4.out b5)
    clear b5
    go_wp2_with fail
    rw [← HP.out]
    exact ⟨rfl, H5.out⟩
  case inl =>
  subst he
  rcases HQ2.out with ⟨he, hz2, B2, rfl, hM2⟩ | hr
  case inr => as_aux_lemma =>
    clear HQ1 HQ2 HQ3 hz1 hM1
    go_wp2_with fail
    refine (fine6 0 w4).mono ?_
    rintro e w5 ⟨rfl, b5⟩
    have H5 := hideK (bup H4.out b5)
    clear b5
    go_wp2_with fail
    refine (fine6 e2 w5).mono ?_
    rintro e w6 ⟨rfl, b6⟩
    have H6 := hideK (bup H5.out b6)
    clear b6
    go_wp2_with fail
    rw [← HP.out]
    exact ⟨rfl, H6.out⟩
  case inl =>
  subst he
  rcases HQ3.out with ⟨he, hz3, B3, rfl, hM3⟩ | hr
  case inr => as_aux_lemma =>
    clear HQ1 HQ2 HQ3 hz1 hM1 hz2 hM2
    go_wp2_with fail
    refine (fine6 0 w4).mono ?_
    rintro e w5 ⟨rfl, b5⟩
    have H5 := hideK (bup H4.out b5)
    clear b5
    go_wp2_with fail
    refine (fine6 0 w5).mono ?_
    rintro e w6 ⟨rfl, b6⟩
    have H6 := hideK (bup H5.out b6)
    clear b6
    go_wp2_with fail
    refine (fine6 e3 w6).mono ?_
    rintro e w7 ⟨rfl, b7⟩
    have H7 := hideK (bup H6.out b7)
    clear b7
    go_wp2_with fail
    rw [← HP.out]
    exact ⟨rfl, H7.out⟩
  case inl =>
  subst he
  obtain ⟨f, hf⟩ := Mp.of hz1
  obtain ⟨g, hg⟩ := Mp.of hz2
  obtain ⟨k, hk⟩ := Mp.of hz3
  have Hf := hideK hf
  have Hg := hideK hg
  have Hk := hideK hk
  have HZ := hideK (And.intro hz1 (And.intro hz2 hz3))
  have HMA := hideK (hM1.keep (bup HS3.out HS4.out))
  have HMB := hideK (hM2.keep HS4.out)
  have HMC := hideK hM3
  clear HQ1 HQ2 HQ3 hM1 hM2 hM3 hz1 hz2 hz3 hf hg hk HS3 HS4 H2 H3
  go_wp2_with fail
  refine (fine6 0 w4).mono ?_
  rintro e w5 ⟨rfl, b5⟩
  have H5 := hideK b5
  clear b5
  go_wp2_with fail
  refine (fine6 0 w5).mono ?_
  rintro e w6 ⟨rfl, b6⟩
  have H6 := hideK (bup H5.out b6)
  clear b6
  go_wp2_with fail
  refine (fine6 0 w6).mono ?_
  rintro e w7 ⟨rfl, b7⟩
  have H7 := hideK (bup H6.out b7)
  clear b7 H5 H6
  have HT1 := hideK (fun (W : World) (q : Below w4.heap.size w4 W) => th6 Hf.out Hg.out HIn.out.1 HIn.out.2.1 B1 B2 W (HMA.out.keep q) (HMB.out.keep q))
  have HT2 := hideK (fun (W : World) (q : Below w4.heap.size w4 W) => th6 Hg.out Hk.out HIn.out.2.1 HIn.out.2.2 B2 B3 W (HMB.out.keep q) (HMC.out.keep q))
  go_upto_region 10 with fail
  go_cut [15, 10] (fun p e wx => Below w7.heap.size w7 wx ∧ MkS (thnE (newK A) (newK B) = 0) (thnL (newK A) (newK B)) p e wx)
  case first => as_aux_lemma =>
    go_wp2_with fail
    refine (HT1.out w7 H7.out).mono ?_
    rintro e v2 ⟨h2, b2⟩
    have HB2 := hideK b2
    clear b2
    rcases h2 with ⟨B', rfl, hz, hM2⟩ | ⟨er, hr, rfl⟩
    · have HM2 := hideK (And.intro hz hM2)
      clear hM2 hz
      go_wp2_with fail
      go_meet
      case rel => exact ⟨HB2.out, 0, rfl, .inl ⟨rfl, HM2.out.1, B', rfl, HM2.out.2⟩⟩
    · have HR2 := hideK hr
      clear hr
      go_wp2_with fail
      go_meet
      case rel => exact ⟨HB2.out, er, rfl, .inr HR2.out⟩
  case rest =>
  obtain ⟨hb2, h2⟩ := hcut
  obtain ⟨w8, rfl⟩ : ∃ X, X = wc := ⟨_, rfl⟩
  have H8 := hideK (bup H7.out hb2)
  obtain ⟨e4, rfl, q4⟩ := h2
  have HQ4 := hideK q4
  clear hb2 q4 HT1
  go_upto_region 11 with fail
  go_cut [16, 12] (fun p e wx => Below w8.heap.size w8 wx ∧ MkS (thnE (newK B) (newK C) = 0) (thnL (newK B) (newK C)) p e wx)
  case first => as_aux_lemma =>
    go_wp2_with fail
    refine (HT2.out w8 H8.out).mono ?_
    rintro e v2 ⟨h2, b2⟩
    have HB2 := hideK b2
    clear b2
    rcases h2 with ⟨B', rfl, hz, hM2⟩ | ⟨er, hr, rfl⟩
    · have HM2 := hideK (And.intro hz hM2)
      clear hM2 hz
      go_wp2_with fail
      go_meet
      case rel => exact ⟨HB2.out, 0, rfl, .inl ⟨rfl, HM2.out.1, B', rfl, HM2.out.2⟩⟩
    · have HR2 := hideK hr
      clear hr
      go_wp2_with fail
      go_meet
      case rel => exact ⟨HB2.out, er, rfl, .inr HR2.out⟩
  case rest =>
  obtain ⟨hb2, h2⟩ := hcut
  obtain ⟨w9, rfl⟩ : ∃ X, X = wc := ⟨_, rfl⟩
  have H9 := hideK (bup H8.out hb2)
  obtain ⟨e5, rfl, q5⟩ := h2
  have HQ5 := hideK q5
  have HS9 := hideK hb2
  clear hb2 q5 HT2 H7
  have HQ4' : Hid ((e4 = 0 ∧ thnE (newK A) (newK B) = 0 ∧ ∃ B', u15 = .pointer (some ⟨B', 0, none⟩) ∧ MapAt w9 B' (newK (thnL (newK A) (newK B))) (slsK (newK (thnL (newK A) (newK B))))) ∨ (e4 == 0) = false) := hideK (by
    rcases HQ4.out with ⟨a, b, B', c, d⟩ | h
    · exact .inl ⟨a, b, B', c, d.keep HS9.out⟩
    · exact .inr h)
  clear HQ4 HS9 H8
  go_upto_region 12 with fail
  go_cut [81] (fun o wx => ∃ z : Bool, o = .bool z ∧ Below w9.heap.size w9 wx ∧ (z = true → (thnE (newK A) (newK B) = 0 ∧ ∃ B', u15 = .pointer (some ⟨B', 0, none⟩) ∧ MapAt w9 B' (newK (thnL (newK A) (newK B))) (slsK (newK (thnL (newK A) (newK B))))) ∧ (thnE (newK B) (newK C) = 0 ∧ ∃ B', u16 = .pointer (some ⟨B', 0, none⟩) ∧ MapAt w9 B' (newK (thnL (newK B) (newK C))) (slsK (newK (thnL (newK B) (newK C)))))))
  case first => as_aux_lemma =>
    rcases HQ4'.out with ⟨rfl, h4⟩ | h4
    · rcases HQ5.out with ⟨rfl, h5⟩ | h5
      · have HH := hideK (And.intro h4 h5)
        clear h4 h5
        go_wp2_with fail
        refine (fine6 0 w9).mono ?_
        rintro e v1 ⟨rfl, b1⟩
        have HB1 := hideK b1
        clear b1
        go_wp2_with fail
        refine (fine6 0 v1).mono ?_
        rintro e v2 ⟨rfl, b2⟩
        have HB2 := hideK (bup HB1.out b2)
        clear b2
        go_wp2_with fail
        go_meet
        case rel => exact ⟨true, rfl, HB2.out, fun _ => HH.out⟩
      · have HH := hideK h4
        clear h4
        go_wp2_with fail
        refine (fine6 0 w9).mono ?_
        rintro e v1 ⟨rfl, b1⟩
        have HB1 := hideK b1
        clear b1
        go_wp2_with fail
        refine (fine6 e5 v1).mono ?_
        rintro e v2 ⟨rfl, b2⟩
        have HB2 := hideK (bup HB1.out b2)
        clear b2
        go_wp2_with fail
        go_meet
        case rel => exact ⟨false, rfl, HB2.out, fun h => by cases h⟩
    · go_wp2_with fail
      refine (fine6 e4 w9).mono ?_
      rintro e v1 ⟨rfl, b1⟩
      have HB1 := hideK b1
      clear b1
      go_wp2_with fail
      go_meet
      case rel => exact ⟨false, rfl, HB1.out, fun h => by cases h⟩
  case rest =>
  obtain ⟨z, rfl, hb10, hz10⟩ := hcut
  obtain ⟨w10, rfl⟩ : ∃ X, X = wc := ⟨_, rfl⟩
  have HS10 := hideK hb10
  have HZ10 := hideK hz10
  clear hb10 hz10
  go_upto_if 81 with fail
  go_cut [] (fun wx => Below w9.heap.size w9 wx)
  case first => as_aux_lemma =>
    cases z
    case false =>
      go_wp2_with fail
      go_meet
      case rel => exact HS10.out
    case true =>
      obtain ⟨⟨g4, P15, rfl, hM15⟩, g5, P16, rfl, hM16⟩ := HZ10.out rfl
      have h15 := Hf.out.thn Hg.out g4
      have h16 := Hg.out.thn Hk.out g5
      have i15 := thl_in Hf.out HIn.out.1 (newK B)
      have i16 := thl_in Hg.out HIn.out.2.1 (newK C)
      have HG := hideK (And.intro g4 g5)
      have HMp := hideK (And.intro h15 h16)
      have HTX := hideK (fun (W : World) (q : Below w9.heap.size w9 W) => th6 h15 Hk.out i15 HIn.out.2.2 P15 B3 W (hM15.keep q) (HMC.out.keep (bup H9.out q)))
      have HTY := hideK (fun (W : World) (q : Below w9.heap.size w9 W) => th6 Hf.out h16 HIn.out.1 i16 B1 P16 W (HMA.out.keep (bup H9.out q)) (hM16.keep q))
      have HKX : Hid (thnE (newK (thnL (newK A) (newK B))) (newK C) = 0 → ∀ (W : World) (B' : Nat), MapAt W B' (newK (thnL (newK (thnL (newK A) (newK B))) (newK C))) (slsK (newK (thnL (newK (thnL (newK A) (newK B))) (newK C)))) → Calls Try.prog 11 #[.pointer (some ⟨B', 0, none⟩)] W fun e w' => ∃ o c, e = .returned (.slice o (newK (thnL (newK (thnL (newK A) (newK B))) (newK C))).length c) ∧ ((newK (thnL (newK (thnL (newK A) (newK B))) (newK C))).length ≤ c ∧ c ≤ maxLen) ∧ KnO w' o (newK (thnL (newK (thnL (newK A) (newK B))) (newK C))) ∧ Below W.heap.size W w') := hideK (fun hz W B' hM => by
        have hmk := (h15.thn Hk.out hz).mpk (thl_in h15 i15 (newK C))
        exact knr6 _ hmk.2.2.1 hmk.2.2.2.1 B' W hM)
      have HSame : Hid (thnE (newK (thnL (newK A) (newK B))) (newK C) = 0 → thnE (newK A) (newK (thnL (newK B) (newK C))) = 0 → newK (thnL (newK A) (newK (thnL (newK B) (newK C)))) = newK (thnL (newK (thnL (newK A) (newK B))) (newK C))) := hideK (fun a b => (comp_same HZ.out.1 HZ.out.2.1 HZ.out.2.2 g4 g5 a b).symm)
      clear hM15 hM16 h15 h16 i15 i16 g4 g5 HZ10
      have HS11 := HS10
      go_upto_region 13 with fail
      go_cut [17, 18] (fun p e wx => Below w10.heap.size w10 wx ∧ MkS (thnE (newK (thnL (newK A) (newK B))) (newK C) = 0) (thnL (newK (thnL (newK A) (newK B))) (newK C)) p e wx)
      case first =>
        go_wp2_with fail
        refine (HTX.out w10 HS10.out).mono ?_
        rintro e v2 ⟨h2, b2⟩
        have HB2 := hideK b2
        clear b2
        rcases h2 with ⟨B', rfl, hz, hM2⟩ | ⟨er, hr, rfl⟩
        · have HM2 := hideK (And.intro hz hM2)
          clear hM2 hz
          go_wp2_with fail
          go_meet
          case rel => exact ⟨HB2.out, 0, rfl, .inl ⟨rfl, HM2.out.1, B', rfl, HM2.out.2⟩⟩
        · have HR2 := hideK hr
          clear hr
          go_wp2_with fail
          go_meet
          case rel => exact ⟨HB2.out, er, rfl, .inr HR2.out⟩
      case rest =>
      obtain ⟨hb2, h2⟩ := hcut
      obtain ⟨w11, rfl⟩ : ∃ X, X = wc := ⟨_, rfl⟩
      have H11 := hideK (bup HS10.out hb2)
      obtain ⟨e6, rfl, q6⟩ := h2
      have HQ6 := hideK q6
      clear q6 HTX hb2
      go_upto_region 14 with fail
      go_cut [19, 20] (fun p e wx => Below w11.heap.size w11 wx ∧ MkS (thnE (newK A) (newK (thnL (newK B) (newK C))) = 0) (thnL (newK A) (newK (thnL (newK B) (newK C)))) p e wx)
      case first =>
        go_wp2_with fail
        refine (HTY.out w11 H11.out).mono ?_
        rintro e v2 ⟨h2, b2⟩
        have HB2 := hideK b2
        clear b2
        rcases h2 with ⟨B', rfl, hz, hM2⟩ | ⟨er, hr, rfl⟩
        · have HM2 := hideK (And.intro hz hM2)
          clear hM2 hz
          go_wp2_with fail
          go_meet
          case rel => exact ⟨HB2.out, 0, rfl, .inl ⟨rfl, HM2.out.1, B', rfl, HM2.out.2⟩⟩
        · have HR2 := hideK hr
          clear hr
          go_wp2_with fail
          go_meet
          case rel => exact ⟨HB2.out, er, rfl, .inr HR2.out⟩
      case rest =>
      obtain ⟨hb2, h2⟩ := hcut
      obtain ⟨w12, rfl⟩ : ∃ X, X = wc := ⟨_, rfl⟩
      have H12 := hideK (bup H11.out hb2)
      obtain ⟨e7, rfl, q7⟩ := h2
      have HQ7 := hideK q7
      have HS12 := hideK hb2
      clear q7 HTY hb2
      rcases HQ6.out with ⟨rfl, z6, P6, rfl, hM6⟩ | h6
      · rcases HQ7.out with ⟨rfl, z7, P7, rfl, hM7⟩ | h7
        · have hsame := HSame.out z6 z7
          rw [hsame] at hM7
          have HM6 := hideK (hM6.keep HS12.out)
          have HM7 := hideK hM7
          have HKn := hideK (HKX.out z6)
          clear hsame hM6 hM7 z6 z7 HQ6 HQ7 HSame HKX
          generalize newK (thnL (newK (thnL (newK A) (newK B))) (newK C)) = Q at *
          go_wp2_with fail
          refine (fine6 0 w12).mono ?_
          rintro e v1 ⟨rfl, b1⟩
          have HB1 := hideK b1
          clear b1
          go_wp2_with fail
          refine (fine6 0 v1).mono ?_
          rintro e v2 ⟨rfl, b2⟩
          have HB2 := hideK (bup HB1.out b2)
          clear b2
          go_wp2_with fail
          refine (HKn.out v2 P6 (HM6.out.keep HB2.out)).mono ?_
          rintro e v3 ⟨o3, c3, rfl, hc3, hk3, b3⟩
          have HB3 := hideK (bup HB2.out b3)
          have HK3 := hideK (And.intro hc3 hk3)
          clear b3 hc3 hk3
          go_wp2_with fail
          refine (HKn.out v3 P7 (HM7.out.keep HB3.out)).mono ?_
          rintro e v4 ⟨o4, c4, rfl, hc4, hk4, b4⟩
          have HB4 := hideK (bup HB3.out b4)
          have HK4 := hideK (And.intro hk4 (HK3.out.2.keep b4))
          clear b4 hc4 hk4
          have HKs := hideK (knots6_true Q o3 o4 c3 c4 HK3.out.1 v4 HK4.out.2 HK4.out.1)
          generalize Q.length = nq at *
          go_wp2_with fail
          refine HKs.out.mono ?_
          rintro e v5 ⟨rfl, b5⟩
          have HB5 := hideK (bup HB4.out b5)
          clear b5
          go_wp2_with fail
          go_meet
          case rel => exact bup H12.out HB5.out
        · clear z6 hM6 HQ6 HQ7 HSame HKX
          go_wp2_with fail
          refine (fine6 0 w12).mono ?_
          rintro e v1 ⟨rfl, b1⟩
          have HB1 := hideK b1
          clear b1
          go_wp2_with fail
          refine (fine6 e7 v1).mono ?_
          rintro e v2 ⟨rfl, b2⟩
          have HB2 := hideK (bup HB1.out b2)
          clear b2
          go_wp2_with fail
          go_meet
          case rel => exact bup H12.out HB2.out
      · clear HQ6 HQ7 HSame HKX
        go_wp2_with fail
        refine (fine6 e6 w12).mono ?_
        rintro e v1 ⟨rfl, b1⟩
        have HB1 := hideK b1
        clear b1
        go_wp2_with fail
        go_meet
        case rel => exact bup H12.out HB1.out
  case rest =>
  obtain ⟨w13, rfl⟩ : ∃ X, X = wc := ⟨_, rfl⟩
  have H13 := hideK hcut
  clear hcut HZ10 HS10 HQ5
  obtain ⟨z4, hz4⟩ : ∃ z, (e4 == 0) = z := ⟨_, rfl⟩
  have HA1 := hideK (fun (W : World) (t : Rt) (ht : RtIn t) (q : Below w9.heap.size w9 W) => ap6 Hf.out HIn.out.1 B1 t ht W (HMA.out.keep (bup H9.out q)))
  have HU1 := hideK (fun (W : World) (t : Rt) (ht : RtIn t) (q : Below w9.heap.size w9 W) => un6 Hf.out HIn.out.1 B1 t ht W (HMA.out.keep (bup H9.out q)))
  have HA2 := hideK (fun (W : World) (t : Rt) (ht : RtIn t) (q : Below w9.heap.size w9 W) => ap6 Hg.out HIn.out.2.1 B2 t ht W (HMB.out.keep (bup H9.out q)))
  have HMm : Hid (z4 = true → ∃ P15, u15 = .pointer (some ⟨P15, 0, none⟩) ∧ (∀ (W : World) (t : Rt), RtIn t → Below w9.heap.size w9 W → Calls Try.prog 12 #[.pointer (some ⟨P15, 0, none⟩), .agg #[.int .i64 t.N, .int .i64 t.D]] W fun e w' => e = .returned (.tuple #[.agg #[.int .i64 (appF (newK (thnL (newK A) (newK B))) (slsK (newK (thnL (newK A) (newK B)))) t).1.N, .int .i64 (appF (newK (thnL (newK A) (newK B))) (slsK (newK (thnL (newK A) (newK B)))) t).1.D], .int .i64 (appF (newK (thnL (newK A) (newK B))) (slsK (newK (thnL (newK A) (newK B)))) t).2]) ∧ Below W.heap.size W w') ∧
      (∀ (W : World) (t : Rt), RtIn t → Below w9.heap.size w9 W → Calls Try.prog 13 #[.pointer (some ⟨P15, 0, none⟩), .agg #[.int .i64 t.N, .int .i64 t.D]] W fun e w' => e = .returned (.tuple #[.agg #[.int .i64 (undF (newK (thnL (newK A) (newK B))) (slsK (newK (thnL (newK A) (newK B)))) t).1.N, .int .i64 (undF (newK (thnL (newK A) (newK B))) (slsK (newK (thnL (newK A) (newK B)))) t).1.D], .int .i64 (undF (newK (thnL (newK A) (newK B))) (slsK (newK (thnL (newK A) (newK B)))) t).2]) ∧ Below W.heap.size W w')) := hideK (fun hz => by
    rcases HQ4'.out with ⟨-, g4, P15, h15, hM15⟩ | h
    · have hmp := Hf.out.thn Hg.out g4
      have hin := thl_in Hf.out HIn.out.1 (newK B)
      exact ⟨P15, h15, fun W t ht q => ap6 hmp hin P15 t ht W (hM15.keep q), fun W t ht q => un6 hmp hin P15 t ht W (hM15.keep q)⟩
    · rw [h] at hz4
      rw [← hz4] at hz
      cases hz)
  have HFt : Hid (∀ t : Rt, (appF (newK A) (slsK (newK A)) t).2 = 0 → ((undF (newK A) (slsK (newK A)) (appF (newK A) (slsK (newK A)) t).1).2 = 0 → (undF (newK A) (slsK (newK A)) (appF (newK A) (slsK (newK A)) t).1).1 = t) ∧
      (z4 = true → (appF (newK B) (slsK (newK B)) (appF (newK A) (slsK (newK A)) t).1).2 = 0 → ((appF (newK (thnL (newK A) (newK B))) (slsK (newK (thnL (newK A) (newK B)))) t).2 = 0 → (appF (newK (thnL (newK A) (newK B))) (slsK (newK (thnL (newK A) (newK B)))) t).1 = (appF (newK B) (slsK (newK B)) (appF (newK A) (slsK (newK A)) t).1).1) ∧
        ((undF (newK (thnL (newK A) (newK B))) (slsK (newK (thnL (newK A) (newK B)))) (appF (newK B) (slsK (newK B)) (appF (newK A) (slsK (newK A)) t).1).1).2 = 0 → (undF (newK (thnL (newK A) (newK B))) (slsK (newK (thnL (newK A) (newK B)))) (appF (newK B) (slsK (newK B)) (appF (newK A) (slsK (newK A)) t).1).1).1 = t))) := hideK (fun t h0 => by
    obtain ⟨c1, c2⟩ := comp_times HZ.out.1 HZ.out.2.1 t h0
    refine ⟨c1, fun hz => c2 ?_⟩
    rcases HQ4'.out with ⟨-, g4, -⟩ | h
    · exact g4
    · rw [h] at hz4
      rw [← hz4] at hz
      cases hz)
  have HF4 := hideK (fun W => fineZI hz4 W)
  have HRi : Hid (∀ t : Rt, RtIn (appF (newK A) (slsK (newK A)) t).1 ∧ RtIn (undF (newK A) (slsK (newK A)) t).1 ∧ RtIn (appF (newK B) (slsK (newK B)) t).1 ∧ RtIn (appF (newK (thnL (newK A) (newK B))) (slsK (newK (thnL (newK A) (newK B)))) t).1 ∧ RtIn (undF (newK (thnL (newK A) (newK B))) (slsK (newK (thnL (newK A) (newK B)))) t).1) := hideK (fun t => ⟨appF_in _ _ _, undF_in _ _ _, appF_in _ _ _, appF_in _ _ _, undF_in _ _ _⟩)
  generalize appF (newK (thnL (newK A) (newK B))) (slsK (newK (thnL (newK A) (newK B)))) = FM at *
  generalize undF (newK (thnL (newK A) (newK B))) (slsK (newK (thnL (newK A) (newK B)))) = UM at *
  generalize appF (newK A) (slsK (newK A)) = F1 at *
  generalize undF (newK A) (slsK (newK A)) = U1 at *
  generalize appF (newK B) (slsK (newK B)) = F2 at *
  clear hz4 HQ4' HMA HMB HMC Hf Hg Hk HZ HIn
  go_wp2_with fail
  go_loopw [21] (fun iv wq => ∃ i : Nat, iv = .int .i64 (i : Nat) ∧ i ≤ m ∧ Below w9.heap.size w9 wq) (fun iv _ => m - (intOf iv).toNat)
  case atStart => exact ⟨0, rfl, Nat.zero_le _, H13.out⟩
  case round => as_aux_lemma =>
    obtain ⟨i, rfl, hi, hb⟩ := hrel
    obtain ⟨wq, rfl⟩ : ∃ wq, wq = wr := ⟨_, rfl⟩
    by_cases hlt : i < m
    · obtain ⟨t, ht⟩ : ∃ x, T[i]? = some x := ⟨_, List.getElem?_eq_getElem (by rw [HM.out]; omega)⟩
      have hti := HT.out t (List.mem_of_getElem? ht)
      obtain ⟨A', rfl, hA, a0, a1⟩ := (HR.out.keep (bup H4.out (bup H9.out hb))).get ht
      have Hap := hideK (fun (W : World) (q : Below wq.heap.size wq W) => HA1.out W t hti (bup hb q))
      obtain ⟨hri, -⟩ := HRi.out t
      have hFt := HFt.out t
      obtain ⟨r, hr⟩ : ∃ r, F1 t = r := ⟨_, rfl⟩
      rw [hr] at Hap hri hFt
      have HUr := hideK (fun (W : World) (q : Below wq.heap.size wq W) => HU1.out W r.1 hri (bup hb q))
      have HGr := hideK (fun (W : World) (q : Below wq.heap.size wq W) => HA2.out W r.1 hri (bup hb q))
      obtain ⟨-, -, hyi, -⟩ := HRi.out r.1
      obtain ⟨u, hu⟩ : ∃ r', U1 r.1 = r' := ⟨_, rfl⟩
      obtain ⟨y, hy⟩ : ∃ r', F2 r.1 = r' := ⟨_, rfl⟩
      rw [hu] at HUr hFt
      rw [hy] at HGr hFt hyi
      have HMt : Hid (z4 = true → ∃ P15, u15 = .pointer (some ⟨P15, 0, none⟩) ∧ (∀ W : World, Below wq.heap.size wq W → Calls Try.prog 12 #[.pointer (some ⟨P15, 0, none⟩), .agg #[.int .i64 t.N, .int .i64 t.D]] W fun e w' => e = .returned (.tuple #[.agg #[.int .i64 (FM t).1.N, .int .i64 (FM t).1.D], .int .i64 (FM t).2]) ∧ Below W.heap.size W w') ∧
          (∀ W : World, Below wq.heap.size wq W → Calls Try.prog 13 #[.pointer (some ⟨P15, 0, none⟩), .agg #[.int .i64 y.1.N, .int .i64 y.1.D]] W fun e w' => e = .returned (.tuple #[.agg #[.int .i64 (UM y.1).1.N, .int .i64 (UM y.1).1.D], .int .i64 (UM y.1).2]) ∧ Below W.heap.size W w')) := hideK (fun hz => by
        obtain ⟨P15, h1, h2, h3⟩ := HMm.out hz
        exact ⟨P15, h1, fun W q => h2 W t hti (bup hb q), fun W q => h3 W y.1 hyi (bup hb q)⟩)
      obtain ⟨q, hq⟩ : ∃ r', FM t = r' := ⟨_, rfl⟩
      obtain ⟨v, hv⟩ : ∃ r', UM y.1 = r' := ⟨_, rfl⟩
      rw [hq, hv] at HMt
      rw [hq, hv] at hFt
      have HFt := hideK hFt
      have HB := hideK hb
      clear hr hu hy hq hv hFt hb ht hti hri hyi hA
      have di : (i : Int) < (m : Int) := by omega
      have wk : IntKind.i64.wrap ((i : Int) + 1) = ((i + 1 : Nat) : Int) := by rw [show ((i + 1 : Nat) : Int) = (i : Int) + 1 by omega]; exact IntWalk.i64_in _ ⟨by omega, by omega⟩
      go_upto_region 21 with fail
      have hbq := Below.refl wq.heap.size wq
      obtain ⟨X0, hX⟩ : ∃ X, wq.alloc (.cells #[.int .i64 t.N, .int .i64 t.D] 34) = X := ⟨_, rfl⟩
      have HX0 : Hid (Below wq.heap.size wq X0 ∧ Two X0 wq.heap.size (.int .i64 t.N) (.int .i64 t.D) ∧ wq.heap.size ≤ wq.heap.size) := hideK (by
        rw [← hX]
        exact ⟨bup hbq (bel1 _ _), Two.new _ _ _ _, (hbq).size⟩)
      rw [hX]
      clear hX
      clear hbq a0 a1
      obtain ⟨_, x0, x1, _, _⟩ := HX0.out.2.1
      go_wp2_with fail
      refine (Hap.out X0 HX0.out.1).mono ?_
      rintro e v1 ⟨rfl, b1⟩
      have HV1 := hideK (bup HX0.out.1 b1)
      have HT1 := hideK (HX0.out.2.1.keep b1)
      clear b1 x0 x1 Hap
      go_upto_region 22 with fail
      obtain ⟨X1, hX⟩ : ∃ X, v1.alloc (.cells #[.int .i64 r.1.N, .int .i64 r.1.D] 34) = X := ⟨_, rfl⟩
      have HX1 : Hid (Below wq.heap.size wq X1 ∧ Two X1 v1.heap.size (.int .i64 r.1.N) (.int .i64 r.1.D) ∧ wq.heap.size ≤ v1.heap.size ∧ Two X1 wq.heap.size (.int .i64 t.N) (.int .i64 t.D)) := hideK (by
        rw [← hX]
        exact ⟨bup HV1.out (bel1 _ _), Two.new _ _ _ _, (HV1.out).size, (HT1.out).keep (bel1 _ _)⟩)
      rw [hX]
      clear hX
      generalize v1.heap.size = Bx at *
      clear HT1 HV1 HX0
      obtain ⟨z1, hz1⟩ : ∃ z, (r.2 == 0) = z := ⟨_, rfl⟩
      have HF1 := hideK (fun W => fineZI hz1 W)
      have HZz1 := hideK hz1
      clear hz1
      cases z1
      case false =>
        go_wp2_with fail
        refine (HF1.out X1).mono ?_
        rintro e vf ⟨rfl, ef⟩
        rw [ef]
        clear ef
        go_wp2_with fail
        go_roundw
        case rel => exact ⟨i + 1, by first | rfl | simp, by omega, bup HB.out HX1.out.1⟩
        case measure => simp [intOf]; omega
      case true =>
      go_wp2_with fail
      refine (HF1.out X1).mono ?_
      rintro e vf ⟨rfl, ef⟩
      rw [ef]
      clear ef
      obtain ⟨_, x0, x1, _, _⟩ := HX1.out.2.1
      go_wp2_with fail
      refine (HUr.out X1 HX1.out.1).mono ?_
      rintro e v2 ⟨rfl, b1⟩
      have HV2 := hideK (bup HX1.out.1 b1)
      have HR2 := hideK (HX1.out.2.1.keep b1)
      have HT2 := hideK (HX1.out.2.2.2.keep b1)
      have hz2 := HX1.out.2.2.1
      clear b1 x0 x1 HUr HX1
      go_upto_region 24 with fail
      have HNe := hideK (show v2.heap.size ≠ wq.heap.size from fun e => by have := HT2.out.1; omega)
      obtain ⟨X2, hX⟩ : ∃ X, v2.alloc (.cells #[.int .i64 u.1.N, .int .i64 u.1.D] 34) = X := ⟨_, rfl⟩
      have HX2 : Hid (Below wq.heap.size wq X2 ∧ Two X2 v2.heap.size (.int .i64 u.1.N) (.int .i64 u.1.D) ∧ wq.heap.size ≤ v2.heap.size ∧ Two X2 Bx (.int .i64 r.1.N) (.int .i64 r.1.D) ∧ Two X2 wq.heap.size (.int .i64 t.N) (.int .i64 t.D)) := hideK (by
        rw [← hX]
        exact ⟨bup HV2.out (bel1 _ _), Two.new _ _ _ _, (HV2.out).size, (HR2.out).keep (bel1 _ _), (HT2.out).keep (bel1 _ _)⟩)
      rw [hX]
      clear hX
      generalize v2.heap.size = Bb at *
      clear HV2 HR2 HT2
      obtain ⟨_, c0, c1, _, _⟩ := HX2.out.2.1
      obtain ⟨_, t0, t1, _, _⟩ := HX2.out.2.2.2.2
      clear hz2
      have hnq : ∀ W, (binOp .neq 34 (.agg #[.int .i64 u.1.N, .int .i64 u.1.D]) (.agg #[.int .i64 t.N, .int .i64 t.D])).run Try.prog W = .ok (.bool (!(u.1.N == t.N && u.1.D == t.D))) W := fun W => rt_neqK _ _ _ _ W
      have hz : ∃ z : Bool, (u.2 == 0) = z ∧ (z = true → (!(u.1.N == t.N && u.1.D == t.D)) = false) := ⟨_, rfl, fun e => by
        rw [(HFt.out (by simpa using HZz1.out)).1 (by simpa using e)]
        simp⟩
      obtain ⟨zu, hz1, hz2⟩ := hz
      have HFzu := hideK (fun W => fineZI hz1 W)
      clear hz1
      generalize (!(u.1.N == t.N && u.1.D == t.D)) = nb at *
      go_cut [139] (fun o wx => o = .bool false ∧ wx = X2)
      case first => as_aux_lemma =>
        cases zu
        case false =>
          clear hz2
          go_wp2_with fail
          refine (HFzu.out X2).mono ?_
          rintro e vf ⟨rfl, ef⟩
          rw [ef]
          clear ef
          go_wp2_with fail
          go_meet
          case rel => exact ⟨rfl, rfl⟩
        case true =>
          obtain rfl := hz2 rfl
          clear hz2
          go_wp2_with fail
          refine (HFzu.out X2).mono ?_
          rintro e vf ⟨rfl, ef⟩
          rw [ef]
          clear ef
          go_wp2_with fail
          go_meet
          case rel => exact ⟨rfl, rfl⟩
      case rest =>
      obtain ⟨rfl, hwc⟩ := hcut
      rw [hwc]
      clear hwc hz2 HFzu hnq
      clear c0 c1 t0 t1
      obtain ⟨_, x0, x1, _, _⟩ := HX2.out.2.2.2.1
      go_wp2_with fail
      refine (HGr.out X2 HX2.out.1).mono ?_
      rintro e v3 ⟨rfl, b1⟩
      have HV3 := hideK (bup HX2.out.1 b1)
      have HU3 := hideK (HX2.out.2.1.keep b1)
      have HT3 := hideK (HX2.out.2.2.2.2.keep b1)
      have HB3 := hideK HX2.out.2.2.1
      clear b1 x0 x1 HGr HX2
      go_upto_region 27 with fail
      obtain ⟨X3, hX⟩ : ∃ X, v3.alloc (.cells #[.int .i64 y.1.N, .int .i64 y.1.D] 34) = X := ⟨_, rfl⟩
      have HX3 : Hid (Below wq.heap.size wq X3 ∧ Two X3 v3.heap.size (.int .i64 y.1.N) (.int .i64 y.1.D) ∧ wq.heap.size ≤ v3.heap.size ∧ Two X3 Bb (.int .i64 u.1.N) (.int .i64 u.1.D) ∧ Two X3 wq.heap.size (.int .i64 t.N) (.int .i64 t.D)) := hideK (by
        rw [← hX]
        exact ⟨bup HV3.out (bel1 _ _), Two.new _ _ _ _, (HV3.out).size, (HU3.out).keep (bel1 _ _), (HT3.out).keep (bel1 _ _)⟩)
      rw [hX]
      clear hX
      generalize v3.heap.size = By at *
      clear HV3 HU3 HT3
      obtain ⟨z3, hz3⟩ : ∃ z, (y.2 == 0) = z := ⟨_, rfl⟩
      have HF3 := hideK (fun W => fineZI hz3 W)
      have HZz3 := hideK hz3
      clear hz3
      cases z4
      case false =>
        go_wp2_with fail
        refine (HF4.out X3).mono ?_
        rintro e vf ⟨rfl, ef⟩
        rw [ef]
        clear ef
        go_wp2_with fail
        go_roundw
        case rel => exact ⟨i + 1, by first | rfl | simp, by omega, bup HB.out HX3.out.1⟩
        case measure => simp [intOf]; omega
      case true =>
      cases z3
      case false =>
        go_wp2_with fail
        refine (HF4.out X3).mono ?_
        rintro e vf ⟨rfl, ef⟩
        rw [ef]
        clear ef
        go_wp2_with fail
        refine (HF3.out X3).mono ?_
        rintro e vf ⟨rfl, ef⟩
        rw [ef]
        clear ef
        go_wp2_with fail
        go_roundw
        case rel => exact ⟨i + 1, by first | rfl | simp, by omega, bup HB.out HX3.out.1⟩
        case measure => simp [intOf]; omega
      case true =>
      obtain ⟨P15, rfl, hPa, hPu⟩ := HMt.out rfl
      have HPa := hideK hPa
      have HPu := hideK hPu
      clear hPa hPu HMt HMm
      go_wp2_with fail
      refine (HF4.out X3).mono ?_
      rintro e vf ⟨rfl, ef⟩
      rw [ef]
      clear ef
      go_wp2_with fail
      refine (HF3.out X3).mono ?_
      rintro e vf ⟨rfl, ef⟩
      rw [ef]
      clear ef
      obtain ⟨_, t0, t1, _, _⟩ := HX3.out.2.2.2.2
      go_wp2_with fail
      refine (HPa.out X3 HX3.out.1).mono ?_
      rintro e v4 ⟨rfl, b1⟩
      have HV4 := hideK (bup HX3.out.1 b1)
      have HY4 := hideK (HX3.out.2.1.keep b1)
      have HU4 := hideK (HX3.out.2.2.2.1.keep b1)
      have HT4 := hideK (HX3.out.2.2.2.2.keep b1)
      clear b1 t0 t1 HPa HX3
      go_upto_region 29 with fail
      obtain ⟨X4, hX⟩ : ∃ X, v4.alloc (.cells #[.int .i64 q.1.N, .int .i64 q.1.D] 34) = X := ⟨_, rfl⟩
      have HX4 : Hid (Below wq.heap.size wq X4 ∧ Two X4 v4.heap.size (.int .i64 q.1.N) (.int .i64 q.1.D) ∧ wq.heap.size ≤ v4.heap.size ∧ Two X4 By (.int .i64 y.1.N) (.int .i64 y.1.D) ∧ Two X4 Bb (.int .i64 u.1.N) (.int .i64 u.1.D) ∧ Two X4 wq.heap.size (.int .i64 t.N) (.int .i64 t.D)) := hideK (by
        rw [← hX]
        exact ⟨bup HV4.out (bel1 _ _), Two.new _ _ _ _, (HV4.out).size, (HY4.out).keep (bel1 _ _), (HU4.out).keep (bel1 _ _), (HT4.out).keep (bel1 _ _)⟩)
      rw [hX]
      clear hX
      generalize v4.heap.size = Bq at *
      clear HV4 HY4 HU4 HT4
      obtain ⟨_, c0, c1, _, _⟩ := HX4.out.2.1
      obtain ⟨_, y0, y1, _, _⟩ := HX4.out.2.2.2.1
      have hnq : ∀ W, (binOp .neq 34 (.agg #[.int .i64 q.1.N, .int .i64 q.1.D]) (.agg #[.int .i64 y.1.N, .int .i64 y.1.D])).run Try.prog W = .ok (.bool (!(q.1.N == y.1.N && q.1.D == y.1.D))) W := fun W => rt_neqK _ _ _ _ W
      have hz : ∃ z : Bool, (q.2 == 0) = z ∧ (z = true → (!(q.1.N == y.1.N && q.1.D == y.1.D)) = false) := ⟨_, rfl, fun e => by
        rw [((HFt.out (by simpa using HZz1.out)).2 (by first | trivial | rfl) (by simpa using HZz3.out)).1 (by simpa using e)]
        simp⟩
      obtain ⟨zq, hz1, hz2⟩ := hz
      have HFzq := hideK (fun W => fineZI hz1 W)
      clear hz1
      generalize (!(q.1.N == y.1.N && q.1.D == y.1.D)) = nb at *
      go_cut [166] (fun o wx => o = .bool false ∧ wx = X4)
      case first => as_aux_lemma =>
        cases zq
        case false =>
          clear hz2
          go_wp2_with fail
          refine (HFzq.out X4).mono ?_
          rintro e vf ⟨rfl, ef⟩
          rw [ef]
          clear ef
          go_wp2_with fail
          go_meet
          case rel => exact ⟨rfl, rfl⟩
        case true =>
          obtain rfl := hz2 rfl
          clear hz2
          go_wp2_with fail
          refine (HFzq.out X4).mono ?_
          rintro e vf ⟨rfl, ef⟩
          rw [ef]
          clear ef
          go_wp2_with fail
          go_meet
          case rel => exact ⟨rfl, rfl⟩
      case rest =>
      obtain ⟨rfl, hwc⟩ := hcut
      rw [hwc]
      clear hwc hz2 HFzq hnq
      clear c0 c1 y0 y1
      obtain ⟨_, y0, y1, _, _⟩ := HX4.out.2.2.2.1
      go_wp2_with fail
      refine (HPu.out X4 HX4.out.1).mono ?_
      rintro e v5 ⟨rfl, b1⟩
      have HV5 := hideK (bup HX4.out.1 b1)
      have HU5 := hideK (HX4.out.2.2.2.2.1.keep b1)
      have HT5 := hideK (HX4.out.2.2.2.2.2.keep b1)
      clear b1 y0 y1 HPu HX4
      obtain ⟨_, c0, c1, f0, f1⟩ := HU5.out
      go_upto_region 32 with fail
      obtain ⟨X5, hX⟩ : ∃ X, (v5.setCell ⟨Bb, 0, none⟩ (.int .i64 v.1.N)).setCell ⟨Bb, 1, none⟩ (.int .i64 v.1.D) = X := ⟨_, rfl⟩
      have HX5 : Hid (Below wq.heap.size wq X5 ∧ Two X5 Bb (.int .i64 v.1.N) (.int .i64 v.1.D) ∧ Two X5 wq.heap.size (.int .i64 t.N) (.int .i64 t.D)) := hideK (by
        rw [← hX]
        exact ⟨(HV5.out.setCell HB3.out _).setCell HB3.out _, HU5.out.set, HT5.out.other HNe.out⟩)
      rw [hX]
      clear hX c0 c1 f0 f1 HV5 HU5 HT5
      obtain ⟨_, c0, c1, _, _⟩ := HX5.out.2.1
      obtain ⟨_, t0, t1, _, _⟩ := HX5.out.2.2
      have hnq : ∀ W, (binOp .neq 34 (.agg #[.int .i64 v.1.N, .int .i64 v.1.D]) (.agg #[.int .i64 t.N, .int .i64 t.D])).run Try.prog W = .ok (.bool (!(v.1.N == t.N && v.1.D == t.D))) W := fun W => rt_neqK _ _ _ _ W
      have hz : ∃ z : Bool, (v.2 == 0) = z ∧ (z = true → (!(v.1.N == t.N && v.1.D == t.D)) = false) := ⟨_, rfl, fun e => by
        rw [((HFt.out (by simpa using HZz1.out)).2 (by first | trivial | rfl) (by simpa using HZz3.out)).2 (by simpa using e)]
        simp⟩
      obtain ⟨zv, hz1, hz2⟩ := hz
      have HFv := hideK (fun W => fineZI hz1 W)
      clear hz1
      generalize (!(v.1.N == t.N && v.1.D == t.D)) = nb at *
      cases zv
      case false =>
        clear hz2
        go_wp2_with fail
        refine (HFv.out X5).mono ?_
        rintro e vf ⟨rfl, ef⟩
        rw [ef]
        clear ef
        go_wp2_with fail
        go_roundw
        case rel => exact ⟨i + 1, by first | rfl | simp, by omega, bup HB.out HX5.out.1⟩
        case measure => simp [intOf]; omega
      case true =>
        obtain rfl := hz2 rfl
        clear hz2
        go_wp2_with fail
        refine (HFv.out X5).mono ?_
        rintro e vf ⟨rfl, ef⟩
        rw [ef]
        clear ef
        go_wp2_with fail
        go_roundw
        case rel => exact ⟨i + 1, by first | rfl | simp, by omega, bup HB.out HX5.out.1⟩
        case measure => simp [intOf]; omega
    · obtain rfl : i = m := by omega
      have d1 : ¬ (i : Int) < (i : Int) := by omega
      have HBe := hideK hb
      clear hb
      go_wp2_with fail
      rw [← HP.out]
      exact ⟨rfl, bup H4.out (bup H9.out HBe.out)⟩
end Go.Proofs.Yteekkbhgphbblaa
