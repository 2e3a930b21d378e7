/- slices.insertionSortCmpFunc over spans by compareStretch. -/
import Derived.Test.YtbiodfeanngkdaaDoorSoB
namespace Go.Proofs.YtbiodfeanngkdaaDoor
open Go.RowKit Go.Shelf
attribute [local go_sem] Oper.semAt_some
variable {κ : Nat}

theorem swap_two {α : Type} (A B : List α) (x y : α) (n : Nat) (hn : A.length = n) : ((A ++ y :: x :: B).set (n + 1) y).set n x = A ++ x :: y :: B := by
  subst hn
  rw [List.set_append_right _ _ (by omega), show A.length + 1 - A.length = 1 by omega]
  rw [List.set_append_right _ _ (by omega), Nat.sub_self]
  rfl
/-- A row in which x stands at the p-th place of what is in order. -/
def rowI (pre S post : List Sp) (x : Sp) (p : Nat) : List Sp := pre ++ (S.take p ++ x :: S.drop p) ++ post
theorem rowI_at (pre S post : List Sp) (x : Sp) (p : Nat) (hp : p ≤ S.length) : (rowI pre S post x p)[pre.length + p]? = some x := by
  unfold rowI
  rw [List.append_assoc, List.getElem?_append_right (by omega), Nat.add_sub_cancel_left, List.append_assoc, List.getElem?_append_right (by rw [List.length_take]; omega), List.length_take, show p - min p S.length = 0 by omega]
  rfl
theorem rowI_before (pre S post : List Sp) (x y : Sp) (p : Nat) (hy : S[p]? = some y) : (rowI pre S post x (p + 1))[pre.length + p]? = some y := by
  have hp := (List.getElem?_eq_some_iff.1 hy).1
  unfold rowI
  rw [List.append_assoc, List.getElem?_append_right (by omega), Nat.add_sub_cancel_left, List.append_assoc, List.getElem?_append_left (by rw [List.length_take]; omega), List.getElem?_take, if_pos (by omega), hy]
theorem rowI_swap (pre S post : List Sp) (x y : Sp) (p : Nat) (hy : S[p]? = some y) : ((rowI pre S post x (p + 1)).set (pre.length + p + 1) y).set (pre.length + p) x = rowI pre S post x p := by
  have hp := (List.getElem?_eq_some_iff.1 hy).1
  have e1 : S.take (p + 1) = S.take p ++ [y] := by rw [List.take_add_one, hy]; rfl
  have e2 : S.drop p = y :: S.drop (p + 1) := by rw [← (List.getElem?_eq_some_iff.1 hy).2]; exact List.drop_eq_getElem_cons hp
  unfold rowI
  rw [e1, e2]
  have h := swap_two (pre ++ S.take p) (S.drop (p + 1) ++ post) x y (pre.length + p) (by rw [List.length_append, List.length_take]; omega)
  simp only [List.append_assoc, List.cons_append, List.nil_append] at h ⊢
  exact h
theorem rowI_len (pre S post : List Sp) (x : Sp) (p : Nat) : (rowI pre S post x p).length = pre.length + S.length + 1 + post.length := by
  unfold rowI
  simp only [List.length_append, List.length_cons, List.length_take, List.length_drop]
  omega
/-- The row while it is put in order from a on: up to i it is. -/
def rowS7 (D : List Sp) (a i : Nat) : List Sp := D.take a ++ isort ltS ((D.take i).drop a) ++ D.drop i
set_option maxRecDepth 100000 in
set_option maxHeartbeats 2000000 in
theorem ins_walk (D : List Sp) (G cap a b : Nat) (hab : a ≤ b) (hb : b ≤ D.length) (hl : D.length ≤ 5000) (w : World) (hS : SC κ w G D) :
    Calls Tryd.prog 57 #[.slice (some ⟨G, 0, none⟩) D.length cap, .int .i64 a, .int .i64 b, .func (.func 43) #[] #[]] w fun e w' => e = .returned (.tuple #[]) ∧ SC κ w' G (rowS7 D a b) ∧ But (fun k => k = G) w w' := by
  have HS := hideS hS
  clear hS
  go_enter Tryd.func57, Tryd.ntmps57
  have wa : IntKind.i64.wrap ((a : Int) + 1) = (a : Int) + 1 := IntWalk.i64_in _ ⟨by omega, by omega⟩
  go_wp2_with fail
  go_loopw [8] (fun iv wq => ∃ i : Nat, iv = .int .i64 (i : Nat) ∧ (i ≤ b ∨ i = a + 1) ∧ a < i ∧ SC κ wq G (rowS7 D a (min i b)) ∧ But (fun k => k = G) w wq) (fun iv _ => b + 1 - (intOf iv).toNat)
  case atStart =>
    refine ⟨a + 1, by simp, .inr rfl, by omega, ?_, But.refl _ _⟩
    have e : rowS7 D a (min (a + 1) b) = D := by
      unfold rowS7
      by_cases h : a < b
      · rw [show min (a + 1) b = a + 1 by omega]
        have e1 : (D.take (a + 1)).drop a = [D[a]] := by
          rw [List.take_add_one, List.getElem?_eq_getElem (by omega), List.drop_append_of_le_length (by rw [List.length_take]; omega)]
          simp
        rw [e1]
        show D.take a ++ mg ltS [] [D[a]] ++ D.drop (a + 1) = D
        rw [mg_left, List.append_assoc, List.singleton_append, ← List.drop_eq_getElem_cons (by omega), List.take_append_drop]
      · rw [show min (a + 1) b = a by omega]
        have e1 : (D.take a).drop a = [] := by rw [List.drop_eq_nil_of_le (by rw [List.length_take]; omega)]
        rw [e1]
        show D.take a ++ [] ++ D.drop a = D
        rw [List.append_nil, List.take_append_drop]
    rw [e]
    exact HS.out
  case round =>
    obtain ⟨i, rfl, hib, hai, hSC, hBt⟩ := hrel
    clear HS
    by_cases hlt : i < b
    · rw [show min i b = i by omega] at hSC
      have d1 : (i : Int) < (b : Int) := by omega
      obtain ⟨x, hx⟩ : ∃ x, D[i]? = some x := ⟨_, List.getElem?_eq_getElem (by omega)⟩
      obtain ⟨S, hSd⟩ : ∃ S, isort ltS ((D.take i).drop a) = S := ⟨_, rfl⟩
      have hSl : S.length = i - a := by rw [← hSd, isort_length, List.length_drop, List.length_take]; omega
      have hSs : Srt ltS S := by rw [← hSd]; exact isort_sorted swoS _
      have er : rowS7 D a i = rowI (D.take a) S (D.drop (i + 1)) x (i - a) := by
        unfold rowS7 rowI
        rw [hSd, show S.take (i - a) = S from List.take_of_length_le (by omega), show S.drop (i - a) = [] from List.drop_eq_nil_of_le (by omega)]
        have e2 : D.drop i = x :: D.drop (i + 1) := by rw [← (List.getElem?_eq_some_iff.1 hx).2]; exact List.drop_eq_getElem_cons (by omega)
        rw [e2]
        simp
      have en : rowS7 D a (i + 1) = D.take a ++ mg ltS S [x] ++ D.drop (i + 1) := by
        unfold rowS7
        have e1 : (D.take (i + 1)).drop a = (D.take i).drop a ++ [x] := by
          rw [List.take_add_one, hx, List.drop_append_of_le_length (by rw [List.length_take]; omega)]
          rfl
        rw [e1, isort_snoc, hSd]
      rw [er] at hSC
      have HEn := hideS en
      have hpl : (D.take a).length = a := by rw [List.length_take]; omega
      have hrl : ∀ p, (rowI (D.take a) S (D.drop (i + 1)) x p).length = D.length := fun p => by rw [rowI_len, hpl, List.length_drop]; omega
      have wi : IntKind.i64.wrap ((i : Int) + 1) = (i : Int) + 1 := IntWalk.i64_in _ ⟨by omega, by omega⟩
      have H0 := hideS (And.intro hSC hBt)
      clear hSC hBt er en hx hSd
      go_wp2_with fail
      go_loopw [9] (fun jv wx => ∃ p : Nat, jv = .int .i64 ((a + p : Nat) : Int) ∧ p ≤ i - a ∧ (∀ z, S[p]? = some z → ltS x z = true) ∧ SC κ wx G (rowI (D.take a) S (D.drop (i + 1)) x p) ∧ But (fun k => k = G) w wx) (fun jv _ => (intOf jv).toNat)
      case atStart => exact ⟨i - a, by rw [show a + (i - a) = i by omega], Nat.le_refl _, fun z hz => by have := (List.getElem?_eq_some_iff.1 hz).1; omega, H0.out.1, H0.out.2⟩
      case round =>
        obtain ⟨p, rfl, hp, hge, hSC, hBt⟩ := hrel
        clear H0
        cases p with
        | zero =>
          have ef : rowI (D.take a) S (D.drop (i + 1)) x 0 = rowS7 D a (min (i + 1) b) := by
            rw [show min (i + 1) b = i + 1 by omega, HEn.out, mg_last_srt swoS x S hSs 0 (Nat.zero_le _) (fun z h0 => by omega) hge]
            rfl
          rw [ef] at hSC
          have HF := hideS (And.intro hSC hBt)
          have d2 : ¬ (a : Int) < (a : Int) := by omega
          clear hSC hBt ef hge
          rw [Nat.add_zero]
          go_wp2_with fail
          go_quiet (fail)
          go_wp2_with fail
          go_roundw
          case rel => exact ⟨i + 1, by simp, .inl (by omega), by omega, HF.out.1.keep (below_dnS (Below.refl _ _) nq), HF.out.2.trans (But.grown (below_dnS (Below.refl _ _) nq))⟩
          case measure => simp [intOf]; omega
        | succ p =>
          obtain ⟨y, hy⟩ : ∃ y, S[p]? = some y := ⟨_, List.getElem?_eq_getElem (by omega)⟩
          have px := rowI_at (D.take a) S (D.drop (i + 1)) x (p + 1) (by omega)
          have py := rowI_before (D.take a) S (D.drop (i + 1)) x y p hy
          have psw := rowI_swap (D.take a) S (D.drop (i + 1)) x y p hy
          rw [hpl] at px py psw
          obtain ⟨⟨c0, c1, c2, c3⟩, f0, f1, f2, f3⟩ := hSC.at px
          obtain ⟨⟨e0, e1, e2, e3⟩, g0, g1, g2, g3⟩ := hSC.at py
          have hGl := hSC.lt
          have HPut := hideS (fun (U : World) (hU : SC κ U G (rowI (D.take a) S (D.drop (i + 1)) x (p + 1))) => (show SC κ (put4 (put4 U G (a + p + 1) y) G (a + p) x) G (rowI (D.take a) S (D.drop (i + 1)) x p) from by rw [← psw]; exact (hU.set (a + p + 1) y).set (a + p) x))
          obtain ⟨K, hK⟩ : ∃ K, a + p = K := ⟨_, rfl⟩
          obtain ⟨J, hJ⟩ : ∃ J, K + 1 = J := ⟨_, rfl⟩
          rw [show a + (p + 1) = J by omega] at px c0 c1 c2 c3 f0 f1 f2 f3 ⊢
          rw [hK] at py e0 e1 e2 e3 g0 g1 g2 g3 HPut
          rw [hJ] at HPut
          have j1 : (J : Int) - 1 = (K : Int) := by omega
          have j2 : IntKind.i64.wrap (K : Int) = (K : Int) := IntWalk.i64_in _ ⟨by omega, by omega⟩
          have j3 : (a : Int) < (J : Int) := by omega
          have j4 : (J : Int) < (D.length : Int) := by omega
          have j5 : (K : Int) < (D.length : Int) := by omega
          have HCm := hideS (stretch_any x y)
          unfold Sp.val at HCm
          obtain ⟨cv, hcv⟩ : ∃ cv, csI x y = cv := ⟨_, rfl⟩
          have hls : ltS x y = decide (cv < 0) := by unfold ltS; rw [hcv]
          rw [hcv] at HCm
          have HW := hideS (And.intro hSC hBt)
          have HY := hideS hy
          have HGe := hideS hge
          clear hSC hBt px py psw hy hge hcv
          obtain ⟨wq, rfl⟩ : ∃ wq, wq = wr := ⟨_, rfl⟩
          cases hlt2 : ltS x y with
          | false =>
            have hc0 : ¬ cv < 0 := of_decide_eq_false (hls ▸ hlt2)
            have ef : rowI (D.take a) S (D.drop (i + 1)) x (p + 1) = rowS7 D a (min (i + 1) b) := by
              rw [show min (i + 1) b = i + 1 by omega, HEn.out, mg_last_srt swoS x S hSs (p + 1) (by omega) (fun z _ hz => by rw [Nat.add_sub_cancel, HY.out] at hz; obtain rfl := Option.some.inj hz; exact hlt2) HGe.out]
              rfl
            have HF : Hid (SC κ wq G (rowS7 D a (min (i + 1) b))) := hideS (by rw [← ef]; exact HW.out.1)
            clear hls hlt2 ef
            go_wp2_with fail
            go_region_held3 (fun w' => w'.cell? ⟨G, J * 4, none⟩ = some (.int .i64 x.fr) ∧ w'.cell? ⟨G, J * 4 + 1, none⟩ = some (.int .i64 x.tt) ∧ w'.cell? ⟨G, J * 4 + 2, none⟩ = some (.int .i64 x.kd) ∧ w'.cell? ⟨G, J * 4 + 3, none⟩ = some (.int .i64 x.vl) ∧ w'.cell? ⟨G, K * 4, none⟩ = some (.int .i64 y.fr) ∧ w'.cell? ⟨G, K * 4 + 1, none⟩ = some (.int .i64 y.tt) ∧ w'.cell? ⟨G, K * 4 + 2, none⟩ = some (.int .i64 y.kd) ∧ w'.cell? ⟨G, K * 4 + 3, none⟩ = some (.int .i64 y.vl)) (first | go_keep | assumption | exact k9) (first | (go_at_call 43; (with_reducible refine (HCm.out _).mono ?_); rintro e w5 ⟨rfl, b5⟩; have b5 : Below wq.heap.size wq w5 := (by first | exact ⟨b5.os, b5.tape, b5.output, b5.size, b5.block⟩ | exact b5); have k9 : w5.cell? ⟨G, J * 4, none⟩ = some (.int .i64 x.fr) ∧ w5.cell? ⟨G, J * 4 + 1, none⟩ = some (.int .i64 x.tt) ∧ w5.cell? ⟨G, J * 4 + 2, none⟩ = some (.int .i64 x.kd) ∧ w5.cell? ⟨G, J * 4 + 3, none⟩ = some (.int .i64 x.vl) ∧ w5.cell? ⟨G, K * 4, none⟩ = some (.int .i64 y.fr) ∧ w5.cell? ⟨G, K * 4 + 1, none⟩ = some (.int .i64 y.tt) ∧ w5.cell? ⟨G, K * 4 + 2, none⟩ = some (.int .i64 y.kd) ∧ w5.cell? ⟨G, K * 4 + 3, none⟩ = some (.int .i64 y.vl) := ⟨(b5.cell (p := ⟨G, J * 4, none⟩) hGl).trans c0, (b5.cell (p := ⟨G, J * 4 + 1, none⟩) hGl).trans c1, (b5.cell (p := ⟨G, J * 4 + 2, none⟩) hGl).trans c2, (b5.cell (p := ⟨G, J * 4 + 3, none⟩) hGl).trans c3, (b5.cell (p := ⟨G, K * 4, none⟩) hGl).trans e0, (b5.cell (p := ⟨G, K * 4 + 1, none⟩) hGl).trans e1, (b5.cell (p := ⟨G, K * 4 + 2, none⟩) hGl).trans e2, (b5.cell (p := ⟨G, K * 4 + 3, none⟩) hGl).trans e3⟩; have H5 := hideS b5; clear b5))
            go_wp2_with fail
            go_roundw
            case rel => exact ⟨i + 1, by simp, .inl (by omega), by omega, HF.out.keep H5.out, HW.out.2.trans (But.grown H5.out)⟩
            case measure => simp [intOf]; omega
          | true =>
            have hc0 : cv < 0 := of_decide_eq_true (hls ▸ hlt2)
            clear hls
            go_wp2_with fail
            go_region_held3 (fun w' => w'.cell? ⟨G, J * 4, none⟩ = some (.int .i64 x.fr) ∧ w'.cell? ⟨G, J * 4 + 1, none⟩ = some (.int .i64 x.tt) ∧ w'.cell? ⟨G, J * 4 + 2, none⟩ = some (.int .i64 x.kd) ∧ w'.cell? ⟨G, J * 4 + 3, none⟩ = some (.int .i64 x.vl) ∧ w'.cell? ⟨G, K * 4, none⟩ = some (.int .i64 y.fr) ∧ w'.cell? ⟨G, K * 4 + 1, none⟩ = some (.int .i64 y.tt) ∧ w'.cell? ⟨G, K * 4 + 2, none⟩ = some (.int .i64 y.kd) ∧ w'.cell? ⟨G, K * 4 + 3, none⟩ = some (.int .i64 y.vl)) (first | go_keep | assumption | exact k9) (first | (go_at_call 43; (with_reducible refine (HCm.out _).mono ?_); rintro e w5 ⟨rfl, b5⟩; have b5 : Below wq.heap.size wq w5 := (by first | exact ⟨b5.os, b5.tape, b5.output, b5.size, b5.block⟩ | exact b5); have k9 : w5.cell? ⟨G, J * 4, none⟩ = some (.int .i64 x.fr) ∧ w5.cell? ⟨G, J * 4 + 1, none⟩ = some (.int .i64 x.tt) ∧ w5.cell? ⟨G, J * 4 + 2, none⟩ = some (.int .i64 x.kd) ∧ w5.cell? ⟨G, J * 4 + 3, none⟩ = some (.int .i64 x.vl) ∧ w5.cell? ⟨G, K * 4, none⟩ = some (.int .i64 y.fr) ∧ w5.cell? ⟨G, K * 4 + 1, none⟩ = some (.int .i64 y.tt) ∧ w5.cell? ⟨G, K * 4 + 2, none⟩ = some (.int .i64 y.kd) ∧ w5.cell? ⟨G, K * 4 + 3, none⟩ = some (.int .i64 y.vl) := ⟨(b5.cell (p := ⟨G, J * 4, none⟩) hGl).trans c0, (b5.cell (p := ⟨G, J * 4 + 1, none⟩) hGl).trans c1, (b5.cell (p := ⟨G, J * 4 + 2, none⟩) hGl).trans c2, (b5.cell (p := ⟨G, J * 4 + 3, none⟩) hGl).trans c3, (b5.cell (p := ⟨G, K * 4, none⟩) hGl).trans e0, (b5.cell (p := ⟨G, K * 4 + 1, none⟩) hGl).trans e1, (b5.cell (p := ⟨G, K * 4 + 2, none⟩) hGl).trans e2, (b5.cell (p := ⟨G, K * 4 + 3, none⟩) hGl).trans e3⟩; have H5 := hideS b5; clear b5))
            obtain ⟨m0, m1, m2, m3, m4, m5, m6, m7⟩ := k9
            have S5 := HW.out.1.keep H5.out
            obtain ⟨_, f0, f1, f2, f3⟩ := S5.at (rowI_at (D.take a) S (D.drop (i + 1)) x (p + 1) (by omega))
            obtain ⟨_, g0, g1, g2, g3⟩ := S5.at (rowI_before (D.take a) S (D.drop (i + 1)) x y p HY.out)
            rw [hpl, show a + (p + 1) = J by omega] at f0 f1 f2 f3
            rw [hpl, hK] at g0 g1 g2 g3
            have HN : Hid (SC κ (put4 (put4 w5 G J y) G K x).drew G (rowI (D.take a) S (D.drop (i + 1)) x p) ∧ But (fun k => k = G) w (put4 (put4 w5 G J y) G K x).drew) := hideS ⟨SC.keep (HPut.out _ S5) (show Below (put4 (put4 w5 G J y) G K x).heap.size (put4 (put4 w5 G J y) G K x) (put4 (put4 w5 G J y) G K x).drew from below_dnS (Below.refl _ _) 1), ((((HW.out.2.trans (But.grown H5.out)).trans (put4_but _ _ _ _)).trans (put4_but _ _ _ _)).trans (But.grown (show Below (put4 (put4 w5 G J y) G K x).heap.size (put4 (put4 w5 G J y) G K x) (put4 (put4 w5 G J y) G K x).drew from below_dnS (Below.refl _ _) 1)))⟩
            unfold put4 at HN
            clear S5
            go_upto_region 6 with fail
            go_big_region
            all_goals
              go_wp2_with fail
              go_roundw
              case rel => exact ⟨p, by first | rfl | (rw [hK]), by omega, fun z hz => by rw [HY.out] at hz; obtain rfl := Option.some.inj hz; exact hlt2, HN.out.1, HN.out.2⟩
              case measure => simp [intOf]; omega
    · obtain ⟨w1, rfl⟩ : ∃ w1, w1 = wr := ⟨_, rfl⟩
      rw [show min i b = b by omega] at hSC
      have d1 : ¬ (i : Int) < (b : Int) := by omega
      have HF := hideS (And.intro hSC hBt)
      clear hSC hBt
      go_wp2_with fail
      exact bodyPost_end (v := .tuple #[]) (by simp [results, Tryd.f57]) rfl ⟨rfl, HF.out.1, HF.out.2⟩
end Go.Proofs.YtbiodfeanngkdaaDoor
