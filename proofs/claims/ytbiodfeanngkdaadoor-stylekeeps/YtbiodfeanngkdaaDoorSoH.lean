/- slices.symMergeCmpFunc over spans: both halves of two or more. -/
import Derived.Test.YtbiodfeanngkdaaDoorSoG
namespace Go.Proofs.YtbiodfeanngkdaaDoor
open Go.RowKit Go.Shelf
attribute [local go_sem] Oper.semAt_some
variable {κ : Nat}

/-- symMerge merges, where the halves hold at most k together. -/
def SymOK (κ G cap ln k : Nat) : Prop := ∀ (P L R Q : List Sp) (a m b : Nat), P.length = a → a + L.length = m → m + R.length = b → b + Q.length = ln → 0 < L.length → 0 < R.length → L.length + R.length ≤ k → Srt ltS L → Srt ltS R → ∀ w, SC κ w G (P ++ (L ++ (R ++ Q))) →
    Calls Tryd.prog 58 #[.slice (some ⟨G, 0, none⟩) ln cap, .int .i64 a, .int .i64 m, .int .i64 b, .func (.func 43) #[] #[]] w fun e w' => e = .returned (.tuple #[]) ∧ SC κ w' G (P ++ (mg ltS L R ++ Q)) ∧ But (fun k => k = G) w w'
theorem row_l {α : Type} (P L R Q : List α) (i : Nat) (x : α) (hx : L[i]? = some x) : (P ++ (L ++ (R ++ Q)))[P.length + i]? = some x := by
  have hp := (List.getElem?_eq_some_iff.1 hx).1
  rw [List.getElem?_append_right (by omega), Nat.add_sub_cancel_left, List.getElem?_append_left hp, hx]
theorem row_r {α : Type} (P L R Q : List α) (i : Nat) (x : α) (hx : R[i]? = some x) : (P ++ (L ++ (R ++ Q)))[P.length + L.length + i]? = some x := by
  have hp := (List.getElem?_eq_some_iff.1 hx).1
  rw [List.getElem?_append_right (by omega), show P.length + L.length + i - P.length = L.length + i by omega, List.getElem?_append_right (by omega), Nat.add_sub_cancel_left, List.getElem?_append_left hp, hx]
set_option maxRecDepth 100000 in
set_option maxHeartbeats 4000000 in
theorem sym_gen (G cap ln k : Nat) (hl : ln ≤ 5000) (IH : SymOK κ G cap ln k) (P L R Q : List Sp) (a m b : Nat) (ha : P.length = a) (hm : a + L.length = m) (hb : m + R.length = b) (hln : b + Q.length = ln) (hL : 2 ≤ L.length) (hR : 2 ≤ R.length) (hk : L.length + R.length ≤ k + 1) (hsl : Srt ltS L) (hsr : Srt ltS R) (w : World) (hS : SC κ w G (P ++ (L ++ (R ++ Q)))) :
    Calls Tryd.prog 58 #[.slice (some ⟨G, 0, none⟩) ln cap, .int .i64 a, .int .i64 m, .int .i64 b, .func (.func 43) #[] #[]] w fun e w' => e = .returned (.tuple #[]) ∧ SC κ w' G (P ++ (mg ltS L R ++ Q)) ∧ But (fun k => k = G) w w' := by
  have HS := hideS hS
  have HSr := hideS (And.intro hsl hsr)
  have HIH := hideS IH
  clear hS hsr hsl IH
  obtain ⟨l, hll⟩ : ∃ l, L.length = l := ⟨_, rfl⟩
  obtain ⟨r, hrr⟩ : ∃ r, R.length = r := ⟨_, rfl⟩
  rw [hll] at hm hL hk
  rw [hrr] at hb hR hk
  have n1 : (m : Int) - (a : Int) = (l : Int) := by omega
  have n2 : IntKind.i64.wrap (l : Int) = (l : Int) := IntWalk.i64_in _ ⟨by omega, by omega⟩
  have n5 : ((l : Int) == 1) = false := by rw [beq_eq_false_iff_ne]; omega
  have n3 : (b : Int) - (m : Int) = (r : Int) := by omega
  have n4 : IntKind.i64.wrap (r : Int) = (r : Int) := IntWalk.i64_in _ ⟨by omega, by omega⟩
  have n6 : ((r : Int) == 1) = false := by rw [beq_eq_false_iff_ne]; omega
  obtain ⟨T, hT⟩ : ∃ T, a + b = T := ⟨_, rfl⟩
  obtain ⟨mi, hmi⟩ : ∃ mi, T / 2 = mi := ⟨_, rfl⟩
  obtain ⟨nn, hnn⟩ : ∃ nn, mi + m = nn := ⟨_, rfl⟩
  obtain ⟨pp, hpp⟩ : ∃ pp, nn - 1 = pp := ⟨_, rfl⟩
  have t1 : (a : Int) + (b : Int) = (T : Int) := by omega
  have t2 : IntKind.i64.wrap (T : Int) = (T : Int) := IntWalk.i64_in _ ⟨by omega, by omega⟩
  have t3 : (T : Int) / 2 = (mi : Int) := by omega
  have u1 : (mi : Int) + (m : Int) = (nn : Int) := by omega
  have u2 : IntKind.i64.wrap (nn : Int) = (nn : Int) := IntWalk.i64_in _ ⟨by omega, by omega⟩
  have q1 : (nn : Int) - 1 = (pp : Int) := by omega
  have q2 : IntKind.i64.wrap (pp : Int) = (pp : Int) := IntWalk.i64_in _ ⟨by omega, by omega⟩
  obtain ⟨S0, E0, b1, b2, b3, b4, b5, hpos, hneg⟩ : ∃ S0 E0 : Nat, a ≤ S0 ∧ nn ≤ S0 + b ∧ S0 ≤ E0 ∧ E0 ≤ m ∧ E0 ≤ mi ∧ (mi < m → S0 + b = nn ∧ E0 = mi) ∧ (¬ mi < m → S0 = a ∧ E0 = m) := by
    by_cases h : mi < m
    · exact ⟨nn - b, mi, by omega, by omega, by omega, by omega, by omega, fun _ => ⟨by omega, rfl⟩, fun h2 => absurd h h2⟩
    · exact ⟨a, m, by omega, by omega, by omega, by omega, by omega, fun h2 => absurd h2 h, fun _ => ⟨rfl, rfl⟩⟩
  have HLo : Hid (∀ x y, a < S0 → L[S0 - a - 1]? = some x → R[mi - S0]? = some y → ltS y x = false) := hideS (fun x y h0 hx hy => by
    have := (List.getElem?_eq_some_iff.1 hy).1
    by_cases h : mi < m
    · have := hpos h; omega
    · have := hneg h; omega)
  have HHi : Hid (∀ x y, E0 < mi → L[E0 - a]? = some x → R[mi - E0 - 1]? = some y → ltS y x = true) := hideS (fun x y h0 hx hy => by
    have := (List.getElem?_eq_some_iff.1 hx).1
    by_cases h : mi < m
    · have := hpos h; omega
    · have := hneg h; omega)
  go_enter Tryd.func58, Tryd.ntmps58
  go_upto_if 140 with fail
  go_cut [20, 21] (fun sv ev wx => sv = .int .i64 (S0 : Nat) ∧ ev = .int .i64 (E0 : Nat) ∧ w = wx)
  case first =>
    as_aux_lemma =>
      by_cases h : mi < m
      · have d : (mi : Int) < (m : Int) := by omega
        have x1 : (nn : Int) - (b : Int) = (S0 : Int) := by have := hpos h; omega
        have x2 : IntKind.i64.wrap (S0 : Int) = (S0 : Int) := IntWalk.i64_in _ ⟨by omega, by omega⟩
        have hE := (hpos h).2
        go_wp2_with fail
        go_meet
        case rel => exact ⟨rfl, by rw [hE], rfl⟩
      · have d : ¬ (mi : Int) < (m : Int) := by omega
        have hE := hneg h
        go_wp2_with fail
        go_meet
        case rel => exact ⟨by rw [hE.1], by rw [hE.2], rfl⟩
  case rest =>
    as_aux_lemma =>
      obtain ⟨rfl, rfl, rfl⟩ := hcut
      clear hpos hneg
      go_wp2_with fail
      go_loopw [20, 21] (fun sv ev wq => ∃ s e : Nat, sv = .int .i64 (s : Nat) ∧ ev = .int .i64 (e : Nat) ∧ S0 ≤ s ∧ s ≤ e ∧ e ≤ E0 ∧ (∀ x y, a < s → L[s - a - 1]? = some x → R[mi - s]? = some y → ltS y x = false) ∧ (∀ x y, e < mi → L[e - a]? = some x → R[mi - e - 1]? = some y → ltS y x = true) ∧ SC κ wq G (P ++ (L ++ (R ++ Q))) ∧ Below w.heap.size w wq) (fun sv ev _ => (intOf ev).toNat - (intOf sv).toNat)
      case atStart => exact ⟨S0, E0, rfl, rfl, Nat.le_refl _, b3, Nat.le_refl _, HLo.out, HHi.out, HS.out, Below.refl _ _⟩
      case round =>
        obtain ⟨s, e, rfl, rfl, hSs, hse, heE, hlo, hhi, hSC, hBw⟩ := hrel
        clear HS HLo HHi
        obtain ⟨wq, rfl⟩ : ∃ wq, wq = wr := ⟨_, rfl⟩
        by_cases hlt : s < e
        · have HI := hideS (And.intro hlo hhi)
          clear hlo hhi
          have d1 : (s : Int) < (e : Int) := by omega
          obtain ⟨T2, hT2⟩ : ∃ T2, s + e = T2 := ⟨_, rfl⟩
          obtain ⟨c, hc⟩ : ∃ c, T2 / 2 = c := ⟨_, rfl⟩
          obtain ⟨q, hq⟩ : ∃ q, pp - c = q := ⟨_, rfl⟩
          have v1 : (s : Int) + (e : Int) = (T2 : Int) := by omega
          have v2 : IntKind.i64.wrap (T2 : Int) = (T2 : Int) := IntWalk.i64_in _ ⟨by omega, by omega⟩
          have v3 : (T2 : Int) / 2 = (c : Int) := by omega
          have v4 : (pp : Int) - (c : Int) = (q : Int) := by omega
          have v5 : IntKind.i64.wrap (q : Int) = (q : Int) := IntWalk.i64_in _ ⟨by omega, by omega⟩
          obtain ⟨x, hx⟩ : ∃ x, L[c - a]? = some x := ⟨_, List.getElem?_eq_getElem (by omega)⟩
          obtain ⟨y, hy⟩ : ∃ y, R[mi - c - 1]? = some y := ⟨_, List.getElem?_eq_getElem (by omega)⟩
          have px := row_l P L R Q (c - a) x hx
          have py := row_r P L R Q (mi - c - 1) y hy
          rw [ha, show a + (c - a) = c by omega] at px
          rw [ha, hll, show a + l + (mi - c - 1) = q by omega] at py
          obtain ⟨⟨c0, c1, c2, c3⟩, _⟩ := hSC.at py
          obtain ⟨⟨e0, e1, e2, e3⟩, _⟩ := hSC.at px
          have hGl := hSC.lt
          have j4 : (c : Int) < (ln : Int) := by omega
          have j5 : (q : Int) < (ln : Int) := by omega
          have wh : IntKind.i64.wrap ((c : Int) + 1) = (c : Int) + 1 := IntWalk.i64_in _ ⟨by omega, by omega⟩
          have HCm := hideS (stretch_any y x)
          unfold Sp.val at HCm
          obtain ⟨cv, hcv⟩ : ∃ cv, csI y x = cv := ⟨_, rfl⟩
          have hls : ltS y x = decide (cv < 0) := by unfold ltS; rw [hcv]
          rw [hcv] at HCm
          have HW := hideS (And.intro hSC hBw)
          have HX := hideS (And.intro hx hy)
          clear hSC hBw px py hx hy hcv
          cases hlt2 : ltS y x with
          | false =>
            have hc0 : decide (cv < 0) = false := hls ▸ hlt2
            have hc1 : ¬ cv < 0 := of_decide_eq_false hc0
            have hc2 : 0 ≤ cv := by omega
            clear hls
            go_upto_region 35 with fail
            go_region_held3 (fun w' => w'.cell? ⟨G, q * 4, none⟩ = some (.int .i64 y.fr) ∧ w'.cell? ⟨G, q * 4 + 1, none⟩ = some (.int .i64 y.tt) ∧ w'.cell? ⟨G, q * 4 + 2, none⟩ = some (.int .i64 y.kd) ∧ w'.cell? ⟨G, q * 4 + 3, none⟩ = some (.int .i64 y.vl) ∧ w'.cell? ⟨G, c * 4, none⟩ = some (.int .i64 x.fr) ∧ w'.cell? ⟨G, c * 4 + 1, none⟩ = some (.int .i64 x.tt) ∧ w'.cell? ⟨G, c * 4 + 2, none⟩ = some (.int .i64 x.kd) ∧ w'.cell? ⟨G, c * 4 + 3, none⟩ = some (.int .i64 x.vl)) (first | go_keep | assumption | exact k9) (first | (go_at_call 43; (with_reducible refine (HCm.out _).mono ?_); rintro e w5 ⟨rfl, b5⟩; have b5 : Below wq.heap.size wq w5 := (by first | exact ⟨b5.os, b5.tape, b5.output, b5.size, b5.block⟩ | exact b5); have k9 : w5.cell? ⟨G, q * 4, none⟩ = some (.int .i64 y.fr) ∧ w5.cell? ⟨G, q * 4 + 1, none⟩ = some (.int .i64 y.tt) ∧ w5.cell? ⟨G, q * 4 + 2, none⟩ = some (.int .i64 y.kd) ∧ w5.cell? ⟨G, q * 4 + 3, none⟩ = some (.int .i64 y.vl) ∧ w5.cell? ⟨G, c * 4, none⟩ = some (.int .i64 x.fr) ∧ w5.cell? ⟨G, c * 4 + 1, none⟩ = some (.int .i64 x.tt) ∧ w5.cell? ⟨G, c * 4 + 2, none⟩ = some (.int .i64 x.kd) ∧ w5.cell? ⟨G, c * 4 + 3, none⟩ = some (.int .i64 x.vl) := ⟨(b5.cell (p := ⟨G, q * 4, none⟩) hGl).trans c0, (b5.cell (p := ⟨G, q * 4 + 1, none⟩) hGl).trans c1, (b5.cell (p := ⟨G, q * 4 + 2, none⟩) hGl).trans c2, (b5.cell (p := ⟨G, q * 4 + 3, none⟩) hGl).trans c3, (b5.cell (p := ⟨G, c * 4, none⟩) hGl).trans e0, (b5.cell (p := ⟨G, c * 4 + 1, none⟩) hGl).trans e1, (b5.cell (p := ⟨G, c * 4 + 2, none⟩) hGl).trans e2, (b5.cell (p := ⟨G, c * 4 + 3, none⟩) hGl).trans e3⟩; have H5 := hideS b5; clear b5))
            go_wp2_with fail
            go_roundw
            case rel => exact ⟨c + 1, e, by simp, rfl, by omega, by omega, heE, fun x' y' _ hx' hy' => by rw [show c + 1 - a - 1 = c - a by omega, HX.out.1] at hx'; rw [show mi - (c + 1) = mi - c - 1 by omega, HX.out.2] at hy'; obtain rfl := Option.some.inj hx'; obtain rfl := Option.some.inj hy'; exact hlt2, HI.out.2, HW.out.1.keep H5.out, bupS HW.out.2 H5.out⟩
            case measure => simp [intOf]; omega
          | true =>
            have hc0 : cv < 0 := of_decide_eq_true (hls ▸ hlt2)
            clear hls
            go_upto_region 35 with fail
            go_region_held3 (fun w' => w'.cell? ⟨G, q * 4, none⟩ = some (.int .i64 y.fr) ∧ w'.cell? ⟨G, q * 4 + 1, none⟩ = some (.int .i64 y.tt) ∧ w'.cell? ⟨G, q * 4 + 2, none⟩ = some (.int .i64 y.kd) ∧ w'.cell? ⟨G, q * 4 + 3, none⟩ = some (.int .i64 y.vl) ∧ w'.cell? ⟨G, c * 4, none⟩ = some (.int .i64 x.fr) ∧ w'.cell? ⟨G, c * 4 + 1, none⟩ = some (.int .i64 x.tt) ∧ w'.cell? ⟨G, c * 4 + 2, none⟩ = some (.int .i64 x.kd) ∧ w'.cell? ⟨G, c * 4 + 3, none⟩ = some (.int .i64 x.vl)) (first | go_keep | assumption | exact k9) (first | (go_at_call 43; (with_reducible refine (HCm.out _).mono ?_); rintro e w5 ⟨rfl, b5⟩; have b5 : Below wq.heap.size wq w5 := (by first | exact ⟨b5.os, b5.tape, b5.output, b5.size, b5.block⟩ | exact b5); have k9 : w5.cell? ⟨G, q * 4, none⟩ = some (.int .i64 y.fr) ∧ w5.cell? ⟨G, q * 4 + 1, none⟩ = some (.int .i64 y.tt) ∧ w5.cell? ⟨G, q * 4 + 2, none⟩ = some (.int .i64 y.kd) ∧ w5.cell? ⟨G, q * 4 + 3, none⟩ = some (.int .i64 y.vl) ∧ w5.cell? ⟨G, c * 4, none⟩ = some (.int .i64 x.fr) ∧ w5.cell? ⟨G, c * 4 + 1, none⟩ = some (.int .i64 x.tt) ∧ w5.cell? ⟨G, c * 4 + 2, none⟩ = some (.int .i64 x.kd) ∧ w5.cell? ⟨G, c * 4 + 3, none⟩ = some (.int .i64 x.vl) := ⟨(b5.cell (p := ⟨G, q * 4, none⟩) hGl).trans c0, (b5.cell (p := ⟨G, q * 4 + 1, none⟩) hGl).trans c1, (b5.cell (p := ⟨G, q * 4 + 2, none⟩) hGl).trans c2, (b5.cell (p := ⟨G, q * 4 + 3, none⟩) hGl).trans c3, (b5.cell (p := ⟨G, c * 4, none⟩) hGl).trans e0, (b5.cell (p := ⟨G, c * 4 + 1, none⟩) hGl).trans e1, (b5.cell (p := ⟨G, c * 4 + 2, none⟩) hGl).trans e2, (b5.cell (p := ⟨G, c * 4 + 3, none⟩) hGl).trans e3⟩; have H5 := hideS b5; clear b5))
            go_wp2_with fail
            go_roundw
            case rel => exact ⟨s, c, rfl, rfl, hSs, by omega, by omega, HI.out.1, fun x' y' _ hx' hy' => by rw [HX.out.1] at hx'; rw [HX.out.2] at hy'; obtain rfl := Option.some.inj hx'; obtain rfl := Option.some.inj hy'; exact hlt2, HW.out.1.keep H5.out, bupS HW.out.2 H5.out⟩
            case measure => simp [intOf]; omega
        · obtain rfl : s = e := by omega
          have d1 : ¬ (s : Int) < (s : Int) := by omega
          obtain ⟨E, hE⟩ : ∃ E, nn - s = E := ⟨_, rfl⟩
          have e1 : (nn : Int) - (s : Int) = (E : Int) := by omega
          have e2 : IntKind.i64.wrap (E : Int) = (E : Int) := IntWalk.i64_in _ ⟨by omega, by omega⟩
          obtain ⟨L1, L2, R1, R2, rfl, rfl, y1, y2, y3, y4, HM, s1, s2, s3, s4⟩ : ∃ L1 L2 R1 R2 : List Sp, L = L1 ++ L2 ∧ R = R1 ++ R2 ∧ a + L1.length = s ∧ s + L2.length = m ∧ s + R1.length = mi ∧ E + R2.length = b ∧ Hid (mg ltS L R = mg ltS L1 R1 ++ mg ltS L2 R2) ∧ Hid (Srt ltS L1) ∧ Hid (Srt ltS L2) ∧ Hid (Srt ltS R1) ∧ Hid (Srt ltS R2) := by
            have hp := mg_parted swoS L R HSr.out.1 HSr.out.2 (s - a) (mi - s) (by omega) (by omega) (fun x y h0 => hlo x y (by omega)) (fun x y h0 => hhi x y (by omega))
            have z1 : Srt ltS (L.take (s - a) ++ L.drop (s - a)) := by rw [List.take_append_drop]; exact HSr.out.1
            have z2 : Srt ltS (R.take (mi - s) ++ R.drop (mi - s)) := by rw [List.take_append_drop]; exact HSr.out.2
            exact ⟨L.take (s - a), L.drop (s - a), R.take (mi - s), R.drop (mi - s), (List.take_append_drop _ _).symm, (List.take_append_drop _ _).symm, by rw [List.length_take]; omega, by rw [List.length_drop]; omega, by rw [List.length_take]; omega, by rw [List.length_drop]; omega, hp, (srt_append z1).1, (srt_append z1).2, (srt_append z2).1, (srt_append z2).2⟩
          have HW : Hid (SC κ wq G (P ++ (L1 ++ (L2 ++ (R1 ++ (R2 ++ Q))))) ∧ But (fun k => k = G) w wq) := hideS ⟨by simpa only [List.append_assoc] using hSC, But.grown hBw⟩
          clear hlo hhi hSC hBw
          obtain ⟨B1, hB1⟩ : ∃ B1, decide (s < m ∧ m < E) = B1 := ⟨_, rfl⟩
          obtain ⟨B2, hB2⟩ : ∃ B2, decide (a < s ∧ s < mi) = B2 := ⟨_, rfl⟩
          obtain ⟨B3, hB3⟩ : ∃ B3, decide (mi < E ∧ E < b) = B3 := ⟨_, rfl⟩
          have HB1 := hideS hB1
          have HB2 := hideS hB2
          have HB3 := hideS hB3
          clear hB1 hB2 hB3
          go_upto_region 39 with fail
          go_cut [185] (fun tv wx => tv = .bool B1 ∧ wq = wx)
          case first =>
            as_aux_lemma =>
              by_cases h1 : s < m
              · have g1 : (s : Int) < (m : Int) := by omega
                by_cases h2 : m < E
                · have g2 : (m : Int) < (E : Int) := by omega
                  go_wp2_with fail
                  go_meet
                  case rel => exact ⟨by rw [← HB1.out]; simp [h1, h2], rfl⟩
                · have g2 : ¬ (m : Int) < (E : Int) := by omega
                  go_wp2_with fail
                  go_meet
                  case rel => exact ⟨by rw [← HB1.out]; simp [h2], rfl⟩
              · have g1 : ¬ (s : Int) < (m : Int) := by omega
                go_wp2_with fail
                go_meet
                case rel => exact ⟨by rw [← HB1.out]; simp [h1], rfl⟩
          case rest =>
            as_aux_lemma =>
              obtain ⟨rfl, rfl⟩ := hcut
              go_upto_if 185 with fail
              go_cut [] (fun wx => SC κ wx G (P ++ (L1 ++ (R1 ++ (L2 ++ (R2 ++ Q))))) ∧ But (fun k => k = G) w wx)
              case first =>
                as_aux_lemma =>
                  cases B1 with
                  | true =>
                    have hh := of_decide_eq_true HB1.out
                    have HR := hideS (rot_walk (P ++ L1) L2 R1 (R2 ++ Q) G cap s m E ln (.func (.func 43) #[] #[]) (by rw [List.length_append]; omega) y2 (by omega) (by rw [List.length_append]; omega) hl (by omega) (by omega) wq (by simpa only [List.append_assoc] using HW.out.1))
                    go_wp2_with (first | (go_at_call 63; (with_reducible refine HR.out.mono ?_); rintro e w5 ⟨rfl, s5, b5⟩; have H5 := hideS (And.intro s5 b5); clear s5 b5))
                    go_meet
                    case rel => exact ⟨by simpa only [List.append_assoc] using H5.out.1, HW.out.2.trans H5.out.2⟩
                  | false =>
                    have hh := of_decide_eq_false HB1.out
                    have eq : L2 ++ (R1 ++ (R2 ++ Q)) = R1 ++ (L2 ++ (R2 ++ Q)) := by
                      by_cases h1 : s < m
                      · have : R1 = [] := List.eq_nil_of_length_eq_zero (by omega)
                        subst this; rfl
                      · have : L2 = [] := List.eq_nil_of_length_eq_zero (by omega)
                        subst this; rfl
                    have HE := hideS eq
                    clear eq
                    go_wp2_with fail
                    go_meet
                    case rel => exact ⟨by rw [← HE.out]; exact HW.out.1, HW.out.2⟩
              case rest =>
                as_aux_lemma =>
                  clear HW
                  have HW := hideS hcut
                  clear hcut
                  go_upto_region 41 with fail
                  go_cut [199] (fun tv wx => tv = .bool B2 ∧ wc = wx)
                  case first =>
                    as_aux_lemma =>
                      by_cases h1 : a < s
                      · have g1 : (a : Int) < (s : Int) := by omega
                        by_cases h2 : s < mi
                        · have g2 : (s : Int) < (mi : Int) := by omega
                          go_wp2_with fail
                          go_meet
                          case rel => exact ⟨by rw [← HB2.out]; simp [h1, h2], rfl⟩
                        · have g2 : ¬ (s : Int) < (mi : Int) := by omega
                          go_wp2_with fail
                          go_meet
                          case rel => exact ⟨by rw [← HB2.out]; simp [h2], rfl⟩
                      · have g1 : ¬ (a : Int) < (s : Int) := by omega
                        go_wp2_with fail
                        go_meet
                        case rel => exact ⟨by rw [← HB2.out]; simp [h1], rfl⟩
                  case rest =>
                    as_aux_lemma =>
                      obtain ⟨rfl, rfl⟩ := hcut
                      obtain ⟨wz, rfl⟩ : ∃ wz, wz = wc := ⟨_, rfl⟩
                      go_upto_if 199 with fail
                      go_cut [] (fun wx => SC κ wx G (P ++ (mg ltS L1 R1 ++ (L2 ++ (R2 ++ Q)))) ∧ But (fun k => k = G) w wx)
                      case first =>
                        as_aux_lemma =>
                          cases B2 with
                          | true =>
                            have hh := of_decide_eq_true HB2.out
                            have HR := hideS (HIH.out P L1 R1 (L2 ++ (R2 ++ Q)) a s mi ha y1 y3 (by simp only [List.length_append]; omega) (by omega) (by omega) (by omega) s1.out s3.out wz HW.out.1)
                            go_wp2_with (first | (go_at_call 58; (with_reducible refine HR.out.mono ?_); rintro e w5 ⟨rfl, s5, b5⟩; have H5 := hideS (And.intro s5 b5); clear s5 b5))
                            go_meet
                            case rel => exact ⟨H5.out.1, HW.out.2.trans H5.out.2⟩
                          | false =>
                            have hh := of_decide_eq_false HB2.out
                            have eq : mg ltS L1 R1 = L1 ++ R1 := by
                              by_cases h1 : a < s
                              · have : R1 = [] := List.eq_nil_of_length_eq_zero (by omega)
                                subst this; rw [mg_nil, List.append_nil]
                              · have : L1 = [] := List.eq_nil_of_length_eq_zero (by omega)
                                subst this; rw [mg_left]; rfl
                            have HE := hideS eq
                            clear eq
                            go_wp2_with fail
                            go_meet
                            case rel => exact ⟨by rw [HE.out, List.append_assoc]; exact HW.out.1, HW.out.2⟩
                      case rest =>
                        as_aux_lemma =>
                          clear HW
                          have HW := hideS hcut
                          clear hcut
                          go_upto_region 43 with fail
                          go_cut [213] (fun tv wx => tv = .bool B3 ∧ wc = wx)
                          case first =>
                            as_aux_lemma =>
                              by_cases h1 : mi < E
                              · have g1 : (mi : Int) < (E : Int) := by omega
                                by_cases h2 : E < b
                                · have g2 : (E : Int) < (b : Int) := by omega
                                  go_wp2_with fail
                                  go_meet
                                  case rel => exact ⟨by rw [← HB3.out]; simp [h1, h2], rfl⟩
                                · have g2 : ¬ (E : Int) < (b : Int) := by omega
                                  go_wp2_with fail
                                  go_meet
                                  case rel => exact ⟨by rw [← HB3.out]; simp [h2], rfl⟩
                              · have g1 : ¬ (mi : Int) < (E : Int) := by omega
                                go_wp2_with fail
                                go_meet
                                case rel => exact ⟨by rw [← HB3.out]; simp [h1], rfl⟩
                          case rest =>
                            as_aux_lemma =>
                              obtain ⟨rfl, rfl⟩ := hcut
                              obtain ⟨wy, rfl⟩ : ∃ wy, wy = wc := ⟨_, rfl⟩
                              cases B3 with
                              | true =>
                                have hh := of_decide_eq_true HB3.out
                                have HR := hideS (HIH.out (P ++ mg ltS L1 R1) L2 R2 Q mi E b (by rw [List.length_append, mg_len]; omega) (by omega) (by omega) hln (by omega) (by omega) (by omega) s2.out s4.out wy (by simpa only [List.append_assoc] using HW.out.1))
                                go_wp2_with (first | (go_at_call 58; (with_reducible refine HR.out.mono ?_); rintro e w5 ⟨rfl, s5, b5⟩; have H5 := hideS (And.intro s5 b5); clear s5 b5))
                                exact bodyPost_end (v := .tuple #[]) (by simp [results, Tryd.f58]) rfl ⟨rfl, by rw [HM.out]; simpa only [List.append_assoc] using H5.out.1, HW.out.2.trans H5.out.2⟩
                              | false =>
                                have hh := of_decide_eq_false HB3.out
                                have eq : mg ltS L2 R2 = L2 ++ R2 := by
                                  by_cases h1 : mi < E
                                  · have : R2 = [] := List.eq_nil_of_length_eq_zero (by omega)
                                    subst this; rw [mg_nil, List.append_nil]
                                  · have : L2 = [] := List.eq_nil_of_length_eq_zero (by omega)
                                    subst this; rw [mg_left]; rfl
                                have HE := hideS eq
                                clear eq
                                go_wp2_with fail
                                exact bodyPost_end (v := .tuple #[]) (by simp [results, Tryd.f58]) rfl ⟨rfl, by rw [HM.out, HE.out]; simpa only [List.append_assoc] using HW.out.1, HW.out.2⟩
end Go.Proofs.YtbiodfeanngkdaaDoor
