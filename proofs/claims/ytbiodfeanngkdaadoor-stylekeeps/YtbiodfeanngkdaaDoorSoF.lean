/- slices.symMergeCmpFunc over spans, where the right half is one. -/
import Derived.Test.YtbiodfeanngkdaaDoorSoE
namespace Go.Proofs.YtbiodfeanngkdaaDoor
open Go.RowKit Go.Shelf
attribute [local go_sem] Oper.semAt_some
variable {κ : Nat}

theorem rowI_low (pre S post : List Sp) (x y : Sp) (p c : Nat) (hc : c < p) (hy : S[c]? = some y) : (rowI pre S post x p)[pre.length + c]? = some y := by
  have hp := (List.getElem?_eq_some_iff.1 hy).1
  unfold rowI
  rw [List.append_assoc, List.getElem?_append_right (by omega), Nat.add_sub_cancel_left, List.append_assoc, List.getElem?_append_left (by rw [List.length_take]; omega), List.getElem?_take, if_pos hc, hy]
set_option maxRecDepth 100000 in
set_option maxHeartbeats 2000000 in
theorem sym_last (P L Q : List Sp) (y : Sp) (G cap a m b ln : Nat) (ha : P.length = a) (hm : a + L.length = m) (hb : m + 1 = b) (hln : b + Q.length = ln) (hl : ln ≤ 5000) (hL : 2 ≤ L.length) (hsr : Srt ltS L) (w : World) (hS : SC κ w G (rowI P L Q y L.length)) :
    Calls Tryd.prog 58 #[.slice (some ⟨G, 0, none⟩) ln cap, .int .i64 a, .int .i64 m, .int .i64 b, .func (.func 43) #[] #[]] w fun e w' => e = .returned (.tuple #[]) ∧ SC κ w' G (P ++ (mg ltS L [y] ++ Q)) ∧ But (fun k => k = G) w w' := by
  have HS := hideS hS
  have HSr := hideS hsr
  clear hS hsr
  obtain ⟨ll, hll⟩ : ∃ ll, L.length = ll := ⟨_, rfl⟩
  rw [hll] at HS hL hm
  have n1 : (m : Int) - (a : Int) = (ll : Int) := by omega
  have n2 : IntKind.i64.wrap (ll : Int) = (ll : Int) := IntWalk.i64_in _ ⟨by omega, by omega⟩
  have n5 : ((ll : Int) == 1) = false := by rw [beq_eq_false_iff_ne]; omega
  have n3 : (b : Int) - (m : Int) = 1 := by omega
  go_enter Tryd.func58, Tryd.ntmps58
  go_wp2_with fail
  go_loopw [14, 15] (fun iv jv wq => ∃ s e : Nat, iv = .int .i64 ((a + s : Nat) : Int) ∧ jv = .int .i64 ((a + e : Nat) : Int) ∧ s ≤ e ∧ e ≤ ll ∧ (∀ x, 0 < s → L[s - 1]? = some x → ltS y x = false) ∧ (∀ x, L[e]? = some x → ltS y x = true) ∧ SC κ wq G (rowI P L Q y ll) ∧ Below w.heap.size w wq) (fun iv jv _ => (intOf jv).toNat - (intOf iv).toNat)
  case atStart => exact ⟨0, ll, by rw [Nat.add_zero], by rw [hm], Nat.zero_le _, Nat.le_refl _, fun x h0 => by omega, fun x hx => by have := (List.getElem?_eq_some_iff.1 hx).1; omega, HS.out, Below.refl _ _⟩
  case round =>
    obtain ⟨s, e, rfl, rfl, hse, hel, hlo, hhi, hSC, hBw⟩ := hrel
    clear HS
    by_cases hlt : s < e
    · have HI := hideS (And.intro hlo hhi)
      clear hlo hhi
      obtain ⟨i, hi⟩ : ∃ i, a + s = i := ⟨_, rfl⟩
      obtain ⟨j, hj⟩ : ∃ j, a + e = j := ⟨_, rfl⟩
      rw [hi, hj]
      have d1 : (i : Int) < (j : Int) := by omega
      obtain ⟨T, hT⟩ : ∃ T, i + j = T := ⟨_, rfl⟩
      have t1 : (i : Int) + (j : Int) = (T : Int) := by omega
      have t2 : IntKind.i64.wrap (T : Int) = (T : Int) := IntWalk.i64_in _ ⟨by omega, by omega⟩
      obtain ⟨c, hc⟩ : ∃ c, (s + e) / 2 = c := ⟨_, rfl⟩
      obtain ⟨h, hh⟩ : ∃ h, a + c = h := ⟨_, rfl⟩
      have t3 : (T : Int) / 2 = (h : Int) := by omega
      obtain ⟨x, hx⟩ : ∃ x, L[c]? = some x := ⟨_, List.getElem?_eq_getElem (by omega)⟩
      have py := rowI_at P L Q y ll (by omega)
      have px := rowI_low P L Q y x ll c (by omega) hx
      rw [ha, hm] at py
      rw [ha, hh] at px
      obtain ⟨⟨c0, c1, c2, c3⟩, _⟩ := hSC.at py
      obtain ⟨⟨e0, e1, e2, e3⟩, _⟩ := hSC.at px
      have hGl := hSC.lt
      have j4 : (m : Int) < (ln : Int) := by omega
      have j5 : (h : Int) < (ln : Int) := by omega
      have wh : IntKind.i64.wrap ((h : Int) + 1) = (h : Int) + 1 := IntWalk.i64_in _ ⟨by omega, by omega⟩
      have HCm := hideS (stretch_any y x)
      unfold Sp.val at HCm
      obtain ⟨cv, hcv⟩ : ∃ cv, csI y x = cv := ⟨_, rfl⟩
      have hls : ltS y x = decide (cv < 0) := by unfold ltS; rw [hcv]
      rw [hcv] at HCm
      have HW := hideS (And.intro hSC hBw)
      have HX := hideS hx
      clear hSC hBw px py hx hcv
      obtain ⟨wq, rfl⟩ : ∃ wq, wq = wr := ⟨_, rfl⟩
      cases hlt2 : ltS y x with
      | false =>
        have hc0 : decide (cv < 0) = false := hls ▸ hlt2
        have hc1 : ¬ cv < 0 := of_decide_eq_false hc0
        have hc2 : 0 ≤ cv := by omega
        clear hls
        go_upto_region 17 with fail
        go_region_held3 (fun w' => w'.cell? ⟨G, m * 4, none⟩ = some (.int .i64 y.fr) ∧ w'.cell? ⟨G, m * 4 + 1, none⟩ = some (.int .i64 y.tt) ∧ w'.cell? ⟨G, m * 4 + 2, none⟩ = some (.int .i64 y.kd) ∧ w'.cell? ⟨G, m * 4 + 3, none⟩ = some (.int .i64 y.vl) ∧ w'.cell? ⟨G, h * 4, none⟩ = some (.int .i64 x.fr) ∧ w'.cell? ⟨G, h * 4 + 1, none⟩ = some (.int .i64 x.tt) ∧ w'.cell? ⟨G, h * 4 + 2, none⟩ = some (.int .i64 x.kd) ∧ w'.cell? ⟨G, h * 4 + 3, none⟩ = some (.int .i64 x.vl)) (first | go_keep | assumption | exact k9) (first | (go_at_call 43; (with_reducible refine (HCm.out _).mono ?_); rintro e w5 ⟨rfl, b5⟩; have b5 : Below wq.heap.size wq w5 := (by first | exact ⟨b5.os, b5.tape, b5.output, b5.size, b5.block⟩ | exact b5); have k9 : w5.cell? ⟨G, m * 4, none⟩ = some (.int .i64 y.fr) ∧ w5.cell? ⟨G, m * 4 + 1, none⟩ = some (.int .i64 y.tt) ∧ w5.cell? ⟨G, m * 4 + 2, none⟩ = some (.int .i64 y.kd) ∧ w5.cell? ⟨G, m * 4 + 3, none⟩ = some (.int .i64 y.vl) ∧ w5.cell? ⟨G, h * 4, none⟩ = some (.int .i64 x.fr) ∧ w5.cell? ⟨G, h * 4 + 1, none⟩ = some (.int .i64 x.tt) ∧ w5.cell? ⟨G, h * 4 + 2, none⟩ = some (.int .i64 x.kd) ∧ w5.cell? ⟨G, h * 4 + 3, none⟩ = some (.int .i64 x.vl) := ⟨(b5.cell (p := ⟨G, m * 4, none⟩) hGl).trans c0, (b5.cell (p := ⟨G, m * 4 + 1, none⟩) hGl).trans c1, (b5.cell (p := ⟨G, m * 4 + 2, none⟩) hGl).trans c2, (b5.cell (p := ⟨G, m * 4 + 3, none⟩) hGl).trans c3, (b5.cell (p := ⟨G, h * 4, none⟩) hGl).trans e0, (b5.cell (p := ⟨G, h * 4 + 1, none⟩) hGl).trans e1, (b5.cell (p := ⟨G, h * 4 + 2, none⟩) hGl).trans e2, (b5.cell (p := ⟨G, h * 4 + 3, none⟩) hGl).trans e3⟩; have H5 := hideS b5; clear b5))
        go_wp2_with fail
        go_roundw
        case rel => exact ⟨c + 1, e, by rw [show a + (c + 1) = h + 1 by omega]; simp, by rw [hj], by omega, hel, fun z _ hz => by rw [Nat.add_sub_cancel, HX.out] at hz; obtain rfl := Option.some.inj hz; exact hlt2, HI.out.2, HW.out.1.keep H5.out, bupS HW.out.2 H5.out⟩
        case measure => simp [intOf]; omega
      | true =>
        have hc0 : cv < 0 := of_decide_eq_true (hls ▸ hlt2)
        clear hls
        go_upto_region 17 with fail
        go_region_held3 (fun w' => w'.cell? ⟨G, m * 4, none⟩ = some (.int .i64 y.fr) ∧ w'.cell? ⟨G, m * 4 + 1, none⟩ = some (.int .i64 y.tt) ∧ w'.cell? ⟨G, m * 4 + 2, none⟩ = some (.int .i64 y.kd) ∧ w'.cell? ⟨G, m * 4 + 3, none⟩ = some (.int .i64 y.vl) ∧ w'.cell? ⟨G, h * 4, none⟩ = some (.int .i64 x.fr) ∧ w'.cell? ⟨G, h * 4 + 1, none⟩ = some (.int .i64 x.tt) ∧ w'.cell? ⟨G, h * 4 + 2, none⟩ = some (.int .i64 x.kd) ∧ w'.cell? ⟨G, h * 4 + 3, none⟩ = some (.int .i64 x.vl)) (first | go_keep | assumption | exact k9) (first | (go_at_call 43; (with_reducible refine (HCm.out _).mono ?_); rintro e w5 ⟨rfl, b5⟩; have b5 : Below wq.heap.size wq w5 := (by first | exact ⟨b5.os, b5.tape, b5.output, b5.size, b5.block⟩ | exact b5); have k9 : w5.cell? ⟨G, m * 4, none⟩ = some (.int .i64 y.fr) ∧ w5.cell? ⟨G, m * 4 + 1, none⟩ = some (.int .i64 y.tt) ∧ w5.cell? ⟨G, m * 4 + 2, none⟩ = some (.int .i64 y.kd) ∧ w5.cell? ⟨G, m * 4 + 3, none⟩ = some (.int .i64 y.vl) ∧ w5.cell? ⟨G, h * 4, none⟩ = some (.int .i64 x.fr) ∧ w5.cell? ⟨G, h * 4 + 1, none⟩ = some (.int .i64 x.tt) ∧ w5.cell? ⟨G, h * 4 + 2, none⟩ = some (.int .i64 x.kd) ∧ w5.cell? ⟨G, h * 4 + 3, none⟩ = some (.int .i64 x.vl) := ⟨(b5.cell (p := ⟨G, m * 4, none⟩) hGl).trans c0, (b5.cell (p := ⟨G, m * 4 + 1, none⟩) hGl).trans c1, (b5.cell (p := ⟨G, m * 4 + 2, none⟩) hGl).trans c2, (b5.cell (p := ⟨G, m * 4 + 3, none⟩) hGl).trans c3, (b5.cell (p := ⟨G, h * 4, none⟩) hGl).trans e0, (b5.cell (p := ⟨G, h * 4 + 1, none⟩) hGl).trans e1, (b5.cell (p := ⟨G, h * 4 + 2, none⟩) hGl).trans e2, (b5.cell (p := ⟨G, h * 4 + 3, none⟩) hGl).trans e3⟩; have H5 := hideS b5; clear b5))
        go_wp2_with fail
        go_roundw
        case rel => exact ⟨s, c, by rw [hi], by rw [hh], by omega, by omega, HI.out.1, fun z hz => by rw [HX.out] at hz; obtain rfl := Option.some.inj hz; exact hlt2, HW.out.1.keep H5.out, bupS HW.out.2 H5.out⟩
        case measure => simp [intOf]; omega
    · obtain rfl : s = e := by omega
      have em := mg_last_srt swoS y L HSr.out s (by omega) hlo hhi
      have HE := hideS em
      have HW := hideS (And.intro hSC (show But (fun k => k = G) w wr from But.grown hBw))
      clear hlo hhi hSC hBw em
      obtain ⟨i, hi⟩ : ∃ i, a + s = i := ⟨_, rfl⟩
      rw [hi]
      go_wp2_with fail
      go_loopw [17] (fun kv wx => ∃ t : Nat, kv = .int .i64 ((a + t : Nat) : Int) ∧ s ≤ t ∧ t ≤ ll ∧ SC κ wx G (rowI P L Q y t) ∧ But (fun k => k = G) w wx) (fun kv _ => (intOf kv).toNat)
      case atStart => exact ⟨ll, by rw [hm], hel, Nat.le_refl _, HW.out.1, HW.out.2⟩
      case round =>
        clear HW
        obtain ⟨t, rfl, hst, htl, hSC, hBt⟩ := hrel
        obtain ⟨wq, rfl⟩ : ∃ wq, wq = wr := ⟨_, rfl⟩
        by_cases hlt : s < t
        · obtain ⟨p, rfl⟩ : ∃ p, t = p + 1 := ⟨t - 1, by omega⟩
          obtain ⟨x, hx⟩ : ∃ x, L[p]? = some x := ⟨_, List.getElem?_eq_getElem (by omega)⟩
          have py := rowI_at P L Q y (p + 1) (by omega)
          have px := rowI_before P L Q y x p hx
          have psw := rowI_swap P L Q y x p hx
          rw [ha] at px py psw
          obtain ⟨K, hK⟩ : ∃ K, a + p = K := ⟨_, rfl⟩
          obtain ⟨J, hJ⟩ : ∃ J, K + 1 = J := ⟨_, rfl⟩
          rw [show a + (p + 1) = J by omega] at py ⊢
          rw [hK] at px psw
          rw [hJ] at psw
          obtain ⟨⟨c0, c1, c2, c3⟩, f0, f1, f2, f3⟩ := hSC.at py
          obtain ⟨⟨e0, e1, e2, e3⟩, g0, g1, g2, g3⟩ := hSC.at px
          have j1 : (J : Int) - 1 = (K : Int) := by omega
          have j2 : IntKind.i64.wrap (K : Int) = (K : Int) := IntWalk.i64_in _ ⟨by omega, by omega⟩
          have j3 : (i : Int) < (J : Int) := by omega
          have j4 : (J : Int) < (ln : Int) := by omega
          have j5 : (K : Int) < (ln : Int) := by omega
          have HN : Hid (SC κ (put4 (put4 wq G J x) G K y).drew G (rowI P L Q y p) ∧ But (fun k => k = G) w (put4 (put4 wq G J x) G K y).drew) := hideS ⟨SC.keep (by rw [← psw]; exact (hSC.set J x).set K y) (show Below (put4 (put4 wq G J x) G K y).heap.size (put4 (put4 wq G J x) G K y) (put4 (put4 wq G J x) G K y).drew from below_dnS (Below.refl _ _) 1), ((hBt.trans (put4_but _ _ _ _)).trans (put4_but _ _ _ _)).trans (But.grown (show Below (put4 (put4 wq G J x) G K y).heap.size (put4 (put4 wq G J x) G K y) (put4 (put4 wq G J x) G K y).drew from below_dnS (Below.refl _ _) 1))⟩
          unfold put4 at HN
          clear hSC hBt psw px py hx
          go_upto_region 23 with fail
          go_big_region
          all_goals
            go_wp2_with fail
            go_roundw
            case rel => exact ⟨p, by first | rfl | (rw [hK]), by omega, by omega, HN.out.1, HN.out.2⟩
            case measure => simp [intOf]; omega
        · obtain rfl : s = t := by omega
          have d1 : ¬ (i : Int) < (i : Int) := by omega
          have HF : Hid (SC κ wq G (P ++ (mg ltS L [y] ++ Q)) ∧ But (fun k => k = G) w wq) := hideS ⟨by rw [HE.out, ← List.append_assoc]; exact hSC, hBt⟩
          clear hSC hBt
          rw [hi]
          go_wp2_with fail
          exact bodyPost_ret (v := .tuple #[]) (by simp [results, Tryd.f58]) rfl ⟨rfl, HF.out.1, HF.out.2⟩
end Go.Proofs.YtbiodfeanngkdaaDoor
