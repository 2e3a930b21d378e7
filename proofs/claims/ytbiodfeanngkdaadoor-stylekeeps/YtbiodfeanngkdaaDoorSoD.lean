/- slices.swapRangeCmpFunc over spans. -/
import Derived.Test.YtbiodfeanngkdaaDoorSoC
namespace Go.Proofs.YtbiodfeanngkdaaDoor
open Go.RowKit Go.Shelf
attribute [local go_sem] Oper.semAt_some
variable {κ : Nat}

theorem swap_far {α : Type} (X Y Z : List α) (u v : α) (m n : Nat) (hm : X.length = m) (hn : X.length + 1 + Y.length = n) : (((X ++ u :: (Y ++ v :: Z)).set m v).set n u) = X ++ v :: (Y ++ u :: Z) := by
  subst hm; subst hn
  rw [List.set_append_right _ _ (by omega), Nat.sub_self, List.set_cons_zero]
  rw [List.set_append_right _ _ (by omega), show X.length + 1 + Y.length - X.length = Y.length + 1 by omega, List.set_cons_succ, List.set_append_right _ _ (by omega), Nat.sub_self, List.set_cons_zero]
/-- Two stretches of one length, the first i of each exchanged. -/
def rowW (P U M V Q : List Sp) (i : Nat) : List Sp := P ++ (V.take i ++ (U.drop i ++ (M ++ (U.take i ++ (V.drop i ++ Q)))))
theorem rowW_open (P U M V Q : List Sp) (i : Nat) (u v : Sp) (hu : U[i]? = some u) (hv : V[i]? = some v) : rowW P U M V Q i = (P ++ V.take i) ++ u :: ((U.drop (i + 1) ++ (M ++ U.take i)) ++ v :: (V.drop (i + 1) ++ Q)) := by
  have e1 : U.drop i = u :: U.drop (i + 1) := by rw [← (List.getElem?_eq_some_iff.1 hu).2]; exact List.drop_eq_getElem_cons (List.getElem?_eq_some_iff.1 hu).1
  have e2 : V.drop i = v :: V.drop (i + 1) := by rw [← (List.getElem?_eq_some_iff.1 hv).2]; exact List.drop_eq_getElem_cons (List.getElem?_eq_some_iff.1 hv).1
  unfold rowW
  rw [e1, e2]
  simp only [List.append_assoc, List.cons_append]
theorem rowW_next (P U M V Q : List Sp) (i : Nat) (u v : Sp) (hu : U[i]? = some u) (hv : V[i]? = some v) : rowW P U M V Q (i + 1) = (P ++ V.take i) ++ v :: ((U.drop (i + 1) ++ (M ++ U.take i)) ++ u :: (V.drop (i + 1) ++ Q)) := by
  have e1 : U.take (i + 1) = U.take i ++ [u] := by rw [List.take_add_one, hu]; rfl
  have e2 : V.take (i + 1) = V.take i ++ [v] := by rw [List.take_add_one, hv]; rfl
  unfold rowW
  rw [e1, e2]
  simp only [List.append_assoc, List.cons_append, List.nil_append]
theorem rowW_swap (P U M V Q : List Sp) (i : Nat) (u v : Sp) (hu : U[i]? = some u) (hv : V[i]? = some v) :
    ((rowW P U M V Q i).set (P.length + i) v).set (P.length + U.length + M.length + i) u = rowW P U M V Q (i + 1) := by
  have h1 := (List.getElem?_eq_some_iff.1 hu).1
  have h2 := (List.getElem?_eq_some_iff.1 hv).1
  rw [rowW_open P U M V Q i u v hu hv, rowW_next P U M V Q i u v hu hv]
  exact swap_far _ _ _ u v _ _ (by rw [List.length_append, List.length_take]; omega) (by simp only [List.length_append, List.length_take, List.length_drop]; omega)
theorem rowW_u (P U M V Q : List Sp) (i : Nat) (u v : Sp) (hu : U[i]? = some u) (hv : V[i]? = some v) : (rowW P U M V Q i)[P.length + i]? = some u := by
  have h2 := (List.getElem?_eq_some_iff.1 hv).1
  rw [rowW_open P U M V Q i u v hu hv, List.getElem?_append_right (by rw [List.length_append, List.length_take]; omega), List.length_append, List.length_take, show P.length + i - (P.length + min i V.length) = 0 by omega]
  rfl
theorem rowW_v (P U M V Q : List Sp) (i : Nat) (u v : Sp) (hu : U[i]? = some u) (hv : V[i]? = some v) : (rowW P U M V Q i)[P.length + U.length + M.length + i]? = some v := by
  have h1 := (List.getElem?_eq_some_iff.1 hu).1
  have h2 := (List.getElem?_eq_some_iff.1 hv).1
  rw [rowW_open P U M V Q i u v hu hv, List.getElem?_append_right (by rw [List.length_append, List.length_take]; omega), List.length_append, List.length_take, show P.length + U.length + M.length + i - (P.length + min i V.length) = (U.length + M.length) + 0 by omega]
  rw [show U.length + M.length + 0 = (U.drop (i + 1) ++ (M ++ U.take i)).length + 1 by simp only [List.length_append, List.length_take, List.length_drop]; omega, List.getElem?_cons_succ, List.getElem?_append_right (Nat.le_refl _), Nat.sub_self]
  rfl
theorem rowW_len (P U M V Q : List Sp) (i : Nat) (hi : i ≤ U.length) (h : U.length = V.length) : (rowW P U M V Q i).length = P.length + U.length + M.length + V.length + Q.length := by
  unfold rowW
  simp only [List.length_append, List.length_take, List.length_drop]
  omega
theorem rowW_zero (P U M V Q : List Sp) : rowW P U M V Q 0 = P ++ (U ++ (M ++ (V ++ Q))) := by simp [rowW]
theorem rowW_full (P U M V Q : List Sp) (n : Nat) (hU : U.length = n) (hV : V.length = n) : rowW P U M V Q n = P ++ (V ++ (M ++ (U ++ Q))) := by
  unfold rowW
  rw [List.take_of_length_le (by omega : V.length ≤ n), List.take_of_length_le (by omega : U.length ≤ n), List.drop_eq_nil_of_le (by omega : U.length ≤ n), List.drop_eq_nil_of_le (by omega : V.length ≤ n)]
  simp
set_option maxRecDepth 100000 in
set_option maxHeartbeats 2000000 in
theorem swaps_walk (P U M V Q : List Sp) (G cap a b n ln : Nat) (f : Value) (ha : P.length = a) (hU : U.length = n) (hV : V.length = n) (hb : a + n + M.length = b) (hln : b + n + Q.length = ln) (hl : ln ≤ 5000) (w : World) (hS : SC κ w G (P ++ (U ++ (M ++ (V ++ Q))))) :
    Calls Tryd.prog 75 #[.slice (some ⟨G, 0, none⟩) ln cap, .int .i64 a, .int .i64 b, .int .i64 n, f] w fun e w' => e = .returned (.tuple #[]) ∧ SC κ w' G (P ++ (V ++ (M ++ (U ++ Q)))) ∧ But (fun k => k = G) w w' := by
  rw [← rowW_zero] at hS
  rw [← rowW_full P U M V Q n hU hV]
  have HS := hideS hS
  clear hS
  go_enter Tryd.func75, Tryd.ntmps75
  go_wp2_with fail
  go_loopw [10] (fun iv wq => ∃ i : Nat, iv = .int .i64 (i : Nat) ∧ i ≤ n ∧ SC κ wq G (rowW P U M V Q i) ∧ But (fun k => k = G) w wq) (fun iv _ => n + 1 - (intOf iv).toNat)
  case atStart => exact ⟨0, rfl, Nat.zero_le _, HS.out, But.refl _ _⟩
  case round =>
    obtain ⟨i, rfl, hin, hSC, hBt⟩ := hrel
    clear HS
    by_cases hlt : i < n
    · have d1 : (i : Int) < (n : Int) := by omega
      obtain ⟨u, hu⟩ : ∃ u, U[i]? = some u := ⟨_, List.getElem?_eq_getElem (by omega)⟩
      obtain ⟨v, hv⟩ : ∃ v, V[i]? = some v := ⟨_, List.getElem?_eq_getElem (by omega)⟩
      have pu := rowW_u P U M V Q i u v hu hv
      have pv := rowW_v P U M V Q i u v hu hv
      have psw := rowW_swap P U M V Q i u v hu hv
      rw [ha] at pu
      rw [ha, hU, hb] at pv psw
      obtain ⟨A, hA⟩ : ∃ A, a + i = A := ⟨_, rfl⟩
      obtain ⟨B, hB⟩ : ∃ B, b + i = B := ⟨_, rfl⟩
      rw [hA] at pu psw
      rw [hB] at pv psw
      obtain ⟨⟨c0, c1, c2, c3⟩, f0, f1, f2, f3⟩ := hSC.at pu
      obtain ⟨⟨e0, e1, e2, e3⟩, g0, g1, g2, g3⟩ := hSC.at pv
      have a1 : (a : Int) + (i : Int) = (A : Int) := by omega
      have a2 : IntKind.i64.wrap (A : Int) = (A : Int) := IntWalk.i64_in _ ⟨by omega, by omega⟩
      have b1 : (b : Int) + (i : Int) = (B : Int) := by omega
      have b2 : IntKind.i64.wrap (B : Int) = (B : Int) := IntWalk.i64_in _ ⟨by omega, by omega⟩
      have a3 : (A : Int) < (ln : Int) := by omega
      have b3 : (B : Int) < (ln : Int) := by omega
      have wi : IntKind.i64.wrap ((i : Int) + 1) = (i : Int) + 1 := IntWalk.i64_in _ ⟨by omega, by omega⟩
      obtain ⟨wq, rfl⟩ : ∃ wq, wq = wr := ⟨_, rfl⟩
      have HN : Hid (SC κ (put4 (put4 wq G A v) G B u).drew G (rowW P U M V Q (i + 1)) ∧ But (fun k => k = G) w (put4 (put4 wq G A v) G B u).drew) := hideS ⟨SC.keep (by rw [← psw]; exact (hSC.set A v).set B u) (show Below (put4 (put4 wq G A v) G B u).heap.size (put4 (put4 wq G A v) G B u) (put4 (put4 wq G A v) G B u).drew from below_dnS (Below.refl _ _) 1), ((hBt.trans (put4_but _ _ _ _)).trans (put4_but _ _ _ _)).trans (But.grown (show Below (put4 (put4 wq G A v) G B u).heap.size (put4 (put4 wq G A v) G B u) (put4 (put4 wq G A v) G B u).drew from below_dnS (Below.refl _ _) 1))⟩
      unfold put4 at HN
      clear hSC hBt psw pu pv hu hv
      go_upto_region 3 with fail
      go_big_region
      all_goals
        go_wp2_with fail
        go_roundw
        case rel => exact ⟨i + 1, by simp, by omega, HN.out.1, HN.out.2⟩
        case measure => simp [intOf]; omega
    · obtain rfl : i = n := by omega
      have d1 : ¬ (i : Int) < (i : Int) := by omega
      obtain ⟨w1, rfl⟩ : ∃ w1, w1 = wr := ⟨_, rfl⟩
      have HF := hideS (And.intro hSC hBt)
      clear hSC hBt
      go_wp2_with fail
      exact bodyPost_end (v := .tuple #[]) (by simp [results, Tryd.f75]) rfl ⟨rfl, HF.out.1, HF.out.2⟩
end Go.Proofs.YtbiodfeanngkdaaDoor
