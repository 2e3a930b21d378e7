/- slices.symMergeCmpFunc over spans, where the left half is one. -/
import Derived.Test.YtbiodfeanngkdaaDoorSoF
namespace Go.Proofs.YtbiodfeanngkdaaDoor
open Go.RowKit Go.Shelf
attribute [local go_sem] Oper.semAt_some
variable {κ : Nat}

theorem swap_up {α : Type} (A B : List α) (x y : α) (n : Nat) (hn : A.length = n) : ((A ++ x :: y :: B).set n y).set (n + 1) x = A ++ y :: x :: B := by
  subst hn
  rw [List.set_append_right _ _ (by omega), Nat.sub_self]
  rw [List.set_append_right _ _ (by omega), show A.length + 1 - A.length = 1 by omega]
  rfl
theorem rowI_up (pre S post : List Sp) (x y : Sp) (p : Nat) (hy : S[p]? = some y) : ((rowI pre S post x p).set (pre.length + p) y).set (pre.length + p + 1) x = rowI pre S post x (p + 1) := by
  have hp := (List.getElem?_eq_some_iff.1 hy).1
  have e1 : S.take (p + 1) = S.take p ++ [y] := by rw [List.take_add_one, hy]; rfl
  have e2 : S.drop p = y :: S.drop (p + 1) := by rw [← (List.getElem?_eq_some_iff.1 hy).2]; exact List.drop_eq_getElem_cons hp
  unfold rowI
  rw [e1, e2]
  have h := swap_up (pre ++ S.take p) (S.drop (p + 1) ++ post) x y (pre.length + p) (by rw [List.length_append, List.length_take]; omega)
  simp only [List.append_assoc, List.cons_append, List.nil_append] at h ⊢
  exact h
theorem rowI_high (pre S post : List Sp) (x y : Sp) (p c : Nat) (hc : p ≤ c) (hy : S[c]? = some y) : (rowI pre S post x p)[pre.length + c + 1]? = some y := by
  have hp := (List.getElem?_eq_some_iff.1 hy).1
  unfold rowI
  rw [List.append_assoc, List.getElem?_append_right (by omega), show pre.length + c + 1 - pre.length = c + 1 by omega, List.append_assoc, List.getElem?_append_right (by rw [List.length_take]; omega), List.length_take, show c + 1 - min p S.length = (c - p) + 1 by omega, List.cons_append, List.getElem?_cons_succ, List.getElem?_append_left (by rw [List.length_drop]; omega), List.getElem?_drop, show p + (c - p) = c by omega, hy]
set_option maxRecDepth 100000 in
set_option maxHeartbeats 2000000 in
theorem sym_one (P R Q : List Sp) (x : Sp) (G cap a m b ln : Nat) (ha : P.length = a) (hm : a + 1 = m) (hb : m + R.length = b) (hln : b + Q.length = ln) (hl : ln ≤ 5000) (hsr : Srt ltS R) (w : World) (hS : SC κ w G (rowI P R Q x 0)) :
    Calls Tryd.prog 58 #[.slice (some ⟨G, 0, none⟩) ln cap, .int .i64 a, .int .i64 m, .int .i64 b, .func (.func 43) #[] #[]] w fun e w' => e = .returned (.tuple #[]) ∧ SC κ w' G (P ++ (mg ltS [x] R ++ Q)) ∧ But (fun k => k = G) w w' := by
  have HS := hideS hS
  have HSr := hideS hsr
  clear hS hsr
  obtain ⟨ll, hll⟩ : ∃ ll, R.length = ll := ⟨_, rfl⟩
  rw [hll] at hb
  have n1 : (m : Int) - (a : Int) = 1 := by omega
  go_enter Tryd.func58, Tryd.ntmps58
  go_wp2_with fail
  go_loopw [10, 11] (fun iv jv wq => ∃ s e : Nat, iv = .int .i64 ((m + s : Nat) : Int) ∧ jv = .int .i64 ((m + e : Nat) : Int) ∧ s ≤ e ∧ e ≤ ll ∧ (∀ y, 0 < s → R[s - 1]? = some y → ltS y x = true) ∧ (∀ y, R[e]? = some y → ltS y x = false) ∧ SC κ wq G (rowI P R Q x 0) ∧ Below w.heap.size w wq) (fun iv jv _ => (intOf jv).toNat - (intOf iv).toNat)
  case atStart => exact ⟨0, ll, by rw [Nat.add_zero], by rw [hb], Nat.zero_le _, Nat.le_refl _, fun x h0 => by omega, fun x hx => by have := (List.getElem?_eq_some_iff.1 hx).1; omega, HS.out, Below.refl _ _⟩
  case round =>
    obtain ⟨s, e, rfl, rfl, hse, hel, hlo, hhi, hSC, hBw⟩ := hrel
    clear HS
    by_cases hlt : s < e
    · have HI := hideS (And.intro hlo hhi)
      clear hlo hhi
      obtain ⟨i, hi⟩ : ∃ i, m + s = i := ⟨_, rfl⟩
      obtain ⟨j, hj⟩ : ∃ j, m + e = j := ⟨_, rfl⟩
      rw [hi, hj]
      have d1 : (i : Int) < (j : Int) := by omega
      obtain ⟨T, hT⟩ : ∃ T, i + j = T := ⟨_, rfl⟩
      have t1 : (i : Int) + (j : Int) = (T : Int) := by omega
      have t2 : IntKind.i64.wrap (T : Int) = (T : Int) := IntWalk.i64_in _ ⟨by omega, by omega⟩
      obtain ⟨c, hc⟩ : ∃ c, (s + e) / 2 = c := ⟨_, rfl⟩
      obtain ⟨h, hh⟩ : ∃ h, m + c = h := ⟨_, rfl⟩
      have t3 : (T : Int) / 2 = (h : Int) := by omega
      obtain ⟨y, hy⟩ : ∃ y, R[c]? = some y := ⟨_, List.getElem?_eq_getElem (by omega)⟩
      have px := rowI_at P R Q x 0 (by omega)
      have py := rowI_high P R Q x y 0 c (by omega) hy
      rw [ha, Nat.add_zero] at px
      rw [ha, show a + c + 1 = h by omega] at py
      obtain ⟨⟨c0, c1, c2, c3⟩, _⟩ := hSC.at py
      obtain ⟨⟨e0, e1, e2, e3⟩, _⟩ := hSC.at px
      have hGl := hSC.lt
      have j4 : (a : Int) < (ln : Int) := by omega
      have j5 : (h : Int) < (ln : Int) := by omega
      have wh : IntKind.i64.wrap ((h : Int) + 1) = (h : Int) + 1 := IntWalk.i64_in _ ⟨by omega, by omega⟩
      have HCm := hideS (stretch_any y x)
      unfold Sp.val at HCm
      obtain ⟨cv, hcv⟩ : ∃ cv, csI y x = cv := ⟨_, rfl⟩
      have hls : ltS y x = decide (cv < 0) := by unfold ltS; rw [hcv]
      rw [hcv] at HCm
      have HW := hideS (And.intro hSC hBw)
      have HX := hideS hy
      clear hSC hBw px py hy hcv
      obtain ⟨wq, rfl⟩ : ∃ wq, wq = wr := ⟨_, rfl⟩
      cases hlt2 : ltS y x with
      | true =>
        have hc0 : cv < 0 := of_decide_eq_true (hls ▸ hlt2)
        clear hls
        go_upto_region 5 with fail
        go_region_held3 (fun w' => w'.cell? ⟨G, h * 4, none⟩ = some (.int .i64 y.fr) ∧ w'.cell? ⟨G, h * 4 + 1, none⟩ = some (.int .i64 y.tt) ∧ w'.cell? ⟨G, h * 4 + 2, none⟩ = some (.int .i64 y.kd) ∧ w'.cell? ⟨G, h * 4 + 3, none⟩ = some (.int .i64 y.vl) ∧ w'.cell? ⟨G, a * 4, none⟩ = some (.int .i64 x.fr) ∧ w'.cell? ⟨G, a * 4 + 1, none⟩ = some (.int .i64 x.tt) ∧ w'.cell? ⟨G, a * 4 + 2, none⟩ = some (.int .i64 x.kd) ∧ w'.cell? ⟨G, a * 4 + 3, none⟩ = some (.int .i64 x.vl)) (first | go_keep | assumption | exact k9) (first | (go_at_call 43; (with_reducible refine (HCm.out _).mono ?_); rintro e w5 ⟨rfl, b5⟩; have b5 : Below wq.heap.size wq w5 := (by first | exact ⟨b5.os, b5.tape, b5.output, b5.size, b5.block⟩ | exact b5); have k9 : w5.cell? ⟨G, h * 4, none⟩ = some (.int .i64 y.fr) ∧ w5.cell? ⟨G, h * 4 + 1, none⟩ = some (.int .i64 y.tt) ∧ w5.cell? ⟨G, h * 4 + 2, none⟩ = some (.int .i64 y.kd) ∧ w5.cell? ⟨G, h * 4 + 3, none⟩ = some (.int .i64 y.vl) ∧ w5.cell? ⟨G, a * 4, none⟩ = some (.int .i64 x.fr) ∧ w5.cell? ⟨G, a * 4 + 1, none⟩ = some (.int .i64 x.tt) ∧ w5.cell? ⟨G, a * 4 + 2, none⟩ = some (.int .i64 x.kd) ∧ w5.cell? ⟨G, a * 4 + 3, none⟩ = some (.int .i64 x.vl) := ⟨(b5.cell (p := ⟨G, h * 4, none⟩) hGl).trans c0, (b5.cell (p := ⟨G, h * 4 + 1, none⟩) hGl).trans c1, (b5.cell (p := ⟨G, h * 4 + 2, none⟩) hGl).trans c2, (b5.cell (p := ⟨G, h * 4 + 3, none⟩) hGl).trans c3, (b5.cell (p := ⟨G, a * 4, none⟩) hGl).trans e0, (b5.cell (p := ⟨G, a * 4 + 1, none⟩) hGl).trans e1, (b5.cell (p := ⟨G, a * 4 + 2, none⟩) hGl).trans e2, (b5.cell (p := ⟨G, a * 4 + 3, none⟩) hGl).trans e3⟩; have H5 := hideS b5; clear b5))
        go_wp2_with fail
        go_roundw
        case rel => exact ⟨c + 1, e, by rw [show m + (c + 1) = h + 1 by omega]; simp, by rw [hj], by omega, hel, fun z _ hz => by rw [Nat.add_sub_cancel, HX.out] at hz; obtain rfl := Option.some.inj hz; exact hlt2, HI.out.2, HW.out.1.keep H5.out, bupS HW.out.2 H5.out⟩
        case measure => simp [intOf]; omega
      | false =>
        have hc0 : decide (cv < 0) = false := hls ▸ hlt2
        have hc1 : ¬ cv < 0 := of_decide_eq_false hc0
        have hc2 : 0 ≤ cv := by omega
        clear hls
        go_upto_region 5 with fail
        go_region_held3 (fun w' => w'.cell? ⟨G, h * 4, none⟩ = some (.int .i64 y.fr) ∧ w'.cell? ⟨G, h * 4 + 1, none⟩ = some (.int .i64 y.tt) ∧ w'.cell? ⟨G, h * 4 + 2, none⟩ = some (.int .i64 y.kd) ∧ w'.cell? ⟨G, h * 4 + 3, none⟩ = some (.int .i64 y.vl) ∧ w'.cell? ⟨G, a * 4, none⟩ = some (.int .i64 x.fr) ∧ w'.cell? ⟨G, a * 4 + 1, none⟩ = some (.int .i64 x.tt) ∧ w'.cell? ⟨G, a * 4 + 2, none⟩ = some (.int .i64 x.kd) ∧ w'.cell? ⟨G, a * 4 + 3, none⟩ = some (.int .i64 x.vl)) (first | go_keep | assumption | exact k9) (first | (go_at_call 43; (with_reducible refine (HCm.out _).mono ?_); rintro e w5 ⟨rfl, b5⟩; have b5 : Below wq.heap.size wq w5 := (by first | exact ⟨b5.os, b5.tape, b5.output, b5.size, b5.block⟩ | exact b5); have k9 : w5.cell? ⟨G, h * 4, none⟩ = some (.int .i64 y.fr) ∧ w5.cell? ⟨G, h * 4 + 1, none⟩ = some (.int .i64 y.tt) ∧ w5.cell? ⟨G, h * 4 + 2, none⟩ = some (.int .i64 y.kd) ∧ w5.cell? ⟨G, h * 4 + 3, none⟩ = some (.int .i64 y.vl) ∧ w5.cell? ⟨G, a * 4, none⟩ = some (.int .i64 x.fr) ∧ w5.cell? ⟨G, a * 4 + 1, none⟩ = some (.int .i64 x.tt) ∧ w5.cell? ⟨G, a * 4 + 2, none⟩ = some (.int .i64 x.kd) ∧ w5.cell? ⟨G, a * 4 + 3, none⟩ = some (.int .i64 x.vl) := ⟨(b5.cell (p := ⟨G, h * 4, none⟩) hGl).trans c0, (b5.cell (p := ⟨G, h * 4 + 1, none⟩) hGl).trans c1, (b5.cell (p := ⟨G, h * 4 + 2, none⟩) hGl).trans c2, (b5.cell (p := ⟨G, h * 4 + 3, none⟩) hGl).trans c3, (b5.cell (p := ⟨G, a * 4, none⟩) hGl).trans e0, (b5.cell (p := ⟨G, a * 4 + 1, none⟩) hGl).trans e1, (b5.cell (p := ⟨G, a * 4 + 2, none⟩) hGl).trans e2, (b5.cell (p := ⟨G, a * 4 + 3, none⟩) hGl).trans e3⟩; have H5 := hideS b5; clear b5))
        go_wp2_with fail
        go_roundw
        case rel => exact ⟨s, c, by rw [hi], by rw [hh], by omega, by omega, HI.out.1, fun z hz => by rw [HX.out] at hz; obtain rfl := Option.some.inj hz; exact hlt2, HW.out.1.keep H5.out, bupS HW.out.2 H5.out⟩
        case measure => simp [intOf]; omega
    · obtain rfl : s = e := by omega
      have em := mg_one_srt swoS x R HSr.out s (by omega) hlo hhi
      have HE := hideS em
      have HW := hideS (And.intro hSC (show But (fun k => k = G) w wr from But.grown hBw))
      clear hlo hhi hSC hBw em
      obtain ⟨i, hi⟩ : ∃ i, m + s = i := ⟨_, rfl⟩
      obtain ⟨i1, hi1⟩ : ∃ i1, a + s = i1 := ⟨_, rfl⟩
      have k1 : (i : Int) - 1 = (i1 : Int) := by omega
      have k2 : IntKind.i64.wrap (i1 : Int) = (i1 : Int) := IntWalk.i64_in _ ⟨by omega, by omega⟩
      rw [hi]
      go_wp2_with fail
      go_loopw [13] (fun kv wx => ∃ t : Nat, kv = .int .i64 ((a + t : Nat) : Int) ∧ t ≤ s ∧ SC κ wx G (rowI P R Q x t) ∧ But (fun k => k = G) w wx) (fun kv _ => ln + 1 - (intOf kv).toNat)
      case atStart => exact ⟨0, by rw [Nat.add_zero], Nat.zero_le _, HW.out.1, HW.out.2⟩
      case round =>
        clear HW
        obtain ⟨t, rfl, htl, hSC, hBt⟩ := hrel
        obtain ⟨wq, rfl⟩ : ∃ wq, wq = wr := ⟨_, rfl⟩
        by_cases hlt : t < s
        · obtain ⟨y, hy⟩ : ∃ y, R[t]? = some y := ⟨_, List.getElem?_eq_getElem (by omega)⟩
          have px := rowI_at P R Q x t (by omega)
          have py := rowI_high P R Q x y t t (Nat.le_refl _) hy
          have psw := rowI_up P R Q x y t hy
          rw [ha] at px py psw
          obtain ⟨K, hK⟩ : ∃ K, a + t = K := ⟨_, rfl⟩
          obtain ⟨J, hJ⟩ : ∃ J, K + 1 = J := ⟨_, rfl⟩
          rw [hK] at px py psw ⊢
          rw [hJ] at py psw
          obtain ⟨⟨c0, c1, c2, c3⟩, f0, f1, f2, f3⟩ := hSC.at py
          obtain ⟨⟨e0, e1, e2, e3⟩, g0, g1, g2, g3⟩ := hSC.at px
          have j1 : (K : Int) + 1 = (J : Int) := by omega
          have j2 : IntKind.i64.wrap (J : Int) = (J : Int) := IntWalk.i64_in _ ⟨by omega, by omega⟩
          have j3 : (K : Int) < (i1 : Int) := by omega
          have j4 : (J : Int) < (ln : Int) := by omega
          have j5 : (K : Int) < (ln : Int) := by omega
          have HN : Hid (SC κ (put4 (put4 wq G K y) G J x).drew G (rowI P R Q x (t + 1)) ∧ But (fun k => k = G) w (put4 (put4 wq G K y) G J x).drew) := hideS ⟨SC.keep (by rw [← psw]; exact (hSC.set K y).set J x) (show Below (put4 (put4 wq G K y) G J x).heap.size (put4 (put4 wq G K y) G J x) (put4 (put4 wq G K y) G J x).drew from below_dnS (Below.refl _ _) 1), ((hBt.trans (put4_but _ _ _ _)).trans (put4_but _ _ _ _)).trans (But.grown (show Below (put4 (put4 wq G K y) G J x).heap.size (put4 (put4 wq G K y) G J x) (put4 (put4 wq G K y) G J x).drew from below_dnS (Below.refl _ _) 1))⟩
          unfold put4 at HN
          clear hSC hBt psw px py hy
          go_upto_region 11 with fail
          go_big_region
          all_goals
            go_wp2_with fail
            go_roundw
            case rel => exact ⟨t + 1, by first | rfl | (rw [show a + (t + 1) = J by omega]), by omega, HN.out.1, HN.out.2⟩
            case measure => simp [intOf]; omega
        · obtain rfl : t = s := by omega
          have d1 : ¬ (i1 : Int) < (i1 : Int) := by omega
          have HF : Hid (SC κ wq G (P ++ (mg ltS [x] R ++ Q)) ∧ But (fun k => k = G) w wq) := hideS ⟨by rw [HE.out, ← List.append_assoc]; exact hSC, hBt⟩
          clear hSC hBt
          rw [hi1]
          go_wp2_with fail
          exact bodyPost_ret (v := .tuple #[]) (by simp [results, Tryd.f58]) rfl ⟨rfl, HF.out.1, HF.out.2⟩
end Go.Proofs.YtbiodfeanngkdaaDoor
