/- style.bounds (chapter 7). -/
import Derived.Test.YtbiodfeanngkdaaDoorSpC
import Derived.Test.YtbiodfeanngkdaaDoorGS
namespace Go.Proofs.YtbiodfeanngkdaaDoor
open Go.RowKit Go.Shelf Go.Sort
attribute [local go_sem] Oper.semAt_some

/-- Ints in memory. -/
def intV (l : List Int) : List Value := l.map (Value.int .i64)
theorem but_setCells (b : Nat) : ∀ (vs : List Value) (o : Nat) (w : World), But (fun k => k = b) w (w.setCells b o vs)
  | [], _, w => But.refl _ w
  | v :: r, o, w => (But.set (M := fun k => k = b) w ⟨b, o, none⟩ v rfl).trans (but_setCells b r (o + 1) _)
theorem below_grow (w : World) (os : Array Obj) : Below w.heap.size w (grow w os) := ⟨rfl, rfl, rfl, by simp [grow], fun k hk => by simp [grow, Array.getElem?_append_left hk]⟩
theorem own_keep {W V : World} {base : Nat} {e : TypeId} {size : Nat} {v : Value} {n : Nat} {xs : List Value} (h : W.ownsRow base e size v n xs) (b : Below W.heap.size W V) : V.ownsRow base e size v n xs := by
  refine ⟨h.1, ?_⟩
  rcases h.2 with hn | ⟨g, cap, cur, rfl, hb, hgg, rest⟩
  · exact .inl hn
  · exact .inr ⟨g, cap, cur, rfl, hb, (b.block g (Array.getElem?_eq_some_iff.1 hgg).1).trans hgg, rest⟩
theorem holds_keep {W V : World} {g o : Nat} {d : Array Int} (h : Holds (Value.int .i64) W g o d) (hg : g < W.heap.size) (b : Below W.heap.size W V) : Holds (Value.int .i64) V g o d := fun j hj => by
  obtain ⟨h1, h2⟩ := h j hj
  have e := b.block g hg
  exact ⟨(b.cell (p := ⟨g, o + j, none⟩) hg).trans h1, by unfold World.frozen? at *; rw [e]; exact h2⟩
theorem holds_setCells {W : World} {g : Nat} {d : Array Int} (ys : List Int) (h : Holds (Value.int .i64) W g 0 d) (hl : ys.length = d.size) : Holds (Value.int .i64) (W.setCells g 0 (ys.map (Value.int .i64))) g 0 ys.toArray := fun j hj => by
  have hj2 : j < ys.length := by simpa using hj
  have hs : ∀ i, i < (ys.map (Value.int .i64)).length → (W.cell? ⟨g, 0 + i, none⟩).isSome = true := fun i hi => by
    rw [(h i (by rw [List.length_map] at hi; omega)).1]
    rfl
  refine ⟨?_, ?_⟩
  · rw [World.cell?_setCells_in g _ 0 W hs j (by rw [List.length_map]; exact hj2)]
    simp [hj2]
  · rw [World.frozen?_setCells]
    exact (h j (by omega)).2
theorem own_holds {W : World} {base g n cap : Nat} {zs : List Int} (h : W.ownsRow base 3 1 (.slice (some ⟨g, 0, none⟩) n cap) n (intV zs)) : Holds (Value.int .i64) W g 0 zs.toArray ∧ g < W.heap.size ∧ base ≤ g ∧ zs.length = n ∧ (n ≤ cap ∧ cap ≤ maxLen) := by
  have hl := h.1
  rcases h.2 with ⟨e, _⟩ | ⟨g2, cap2, cur, e, hb, hg, hcn, hcm, hs, h4⟩
  · simp at e
  · obtain ⟨rfl, rfl⟩ : g = g2 ∧ cap = cap2 := by simpa using e
    have hzl : zs.length = n := by rw [intV, List.length_map] at hl; omega
    refine ⟨fun j hj => ?_, (Array.getElem?_eq_some_iff.1 hg).1, hb, hzl, hcn, hcm⟩
    have hj2 : j < zs.length := by simpa using hj
    have h5 : (cur.toList.take (n * 1))[j]? = some (.int .i64 zs[j]) := by
      rw [h4, intV, List.getElem?_map, List.getElem?_eq_getElem hj2]
      rfl
    rw [List.getElem?_take, if_pos (by omega), Array.getElem?_toList] at h5
    have e3 : zs.toArray[j]! = zs[j] := by simp [hj2]
    rw [e3]
    simp [World.cell?, World.frozen?, hg, h5]
theorem holds_at {W : World} {g : Nat} {zs : List Int} (h : Holds (Value.int .i64) W g 0 zs.toArray) {i : Nat} {x : Int} (hx : zs[i]? = some x) : W.cell? ⟨g, i, none⟩ = some (.int .i64 x) := by
  have hi := (List.getElem?_eq_some_iff.1 hx)
  have h1 := (h i (by simpa using hi.1)).1
  rw [Nat.zero_add] at h1
  rw [h1]
  have e3 : zs.toArray[i]! = x := by simp [hi.1, hi.2]
  rw [e3]
theorem but_drewN (g : Nat) (w : World) (q : Nat) : But (fun k => k = g) w (w.drewN q) := But.grown (below_dnS (Below.refl _ _) q)
theorem holds_drewN {W : World} {g : Nat} {d : Array Int} (h : Holds (Value.int .i64) W g 0 d) (q : Nat) : Holds (Value.int .i64) (W.drewN q) g 0 d := h
theorem sort_ints (zs : List Int) (g cap : Nat) (w : World) (hH : Holds (Value.int .i64) w g 0 zs.toArray) (hg : g < w.heap.size) (hl : zs.length ≤ 1048576) :
    Calls Tryd.prog 53 #[.slice (some ⟨g, 0, none⟩) zs.length cap] w fun e w' => e = .returned (.tuple #[]) ∧ Holds (Value.int .i64) w' g 0 (zs.mergeSort fun x y => decide (x ≤ y)).toArray ∧ But (fun k => k = g) w w' := by
  refine (Any.slices_Sort_int lay189 g 0 cap zs w hH hg (by omega)).mono ?_
  rintro e w' ⟨rfl, q, os, rfl⟩
  rw [Lib.sorted_world (Value.int .i64) w g 0 q zs.toArray _ os hH (by simp)]
  have b1 := (but_drewN g w q).trans (but_setCells g ((zs.mergeSort fun x y => decide (x ≤ y)).map (Value.int .i64)) 0 (w.drewN q))
  exact ⟨rfl, holds_keep (holds_setCells _ (holds_drewN hH q) (by simp)) (Nat.lt_of_lt_of_le hg b1.size) (below_grow _ _), b1.trans (But.grown (below_grow _ _))⟩
theorem compact_ints (zs : List Int) (g cap : Nat) (w : World) (hH : Holds (Value.int .i64) w g 0 zs.toArray) (hl : zs.length ≤ 1048576) (hc : zs.length ≤ cap) (hle : (Lib.compact zs).length ≤ zs.length) :
    Calls Tryd.prog 54 #[.slice (some ⟨g, 0, none⟩) zs.length cap] w fun e w' => e = .returned (.slice (some ⟨g, 0, none⟩) (Lib.compact zs).length cap) ∧ (∀ i x, (Lib.compact zs)[i]? = some x → w'.cell? ⟨g, i, none⟩ = some (.int .i64 x)) ∧ But (fun k => k = g) w w' := by
  refine (Any.slices_Compact_int lay20c g 0 cap zs w hH (by omega) hc).mono ?_
  rintro e w' ⟨rfl, q, rfl⟩
  rw [Lib.putRow_eq_setCells (Value.int .i64) w g 0 zs.toArray _ q hH (by simp; omega)]
  refine ⟨rfl, fun i x hx => ?_, (but_drewN g w q).trans (but_setCells g _ 0 (w.drewN q))⟩
  have h1 := holds_setCells (Lib.compact zs ++ List.replicate (zs.length - (Lib.compact zs).length) 0) (holds_drewN hH q) (by simp; omega)
  refine holds_at h1 ?_
  rw [List.getElem?_append_left (List.getElem?_eq_some_iff.1 hx).1]
  exact hx
/-- 0, the end, and where spans begin and end. -/
def bndL (n : Int) (D : List Sp) : List Int := 0 :: n :: D.flatMap fun x => [x.fr, x.tt]
theorem bndL_snoc (n : Int) (D : List Sp) (x : Sp) : bndL n (D ++ [x]) = bndL n D ++ [x.fr, x.tt] := by simp [bndL]
theorem bndL_len (n : Int) (D : List Sp) : (bndL n D).length = 2 + 2 * D.length := by
  unfold bndL
  induction D with
  | nil => rfl
  | cons x D ih => simp at ih ⊢; omega
/-- In their order. -/
def bndS (n : Int) (D : List Sp) : List Int := (bndL n D).mergeSort fun x y => decide (x ≤ y)
theorem bndS_len (n : Int) (D : List Sp) : (bndS n D).length = 2 + 2 * D.length := by rw [bndS, List.length_mergeSort, bndL_len]
/-- Each once. -/
def bndC (n : Int) (D : List Sp) : List Int := Lib.compact (bndS n D)
/-- What bounds tells. -/
def bndM (n : Int) (D : List Sp) : List Int := (bndC n D).tail
theorem compact_one (zs : List Int) (h : zs ≠ []) : 1 ≤ (Lib.compact zs).length := by
  obtain ⟨m, hm⟩ : ∃ m, zs.length = m + 1 := ⟨zs.length - 1, by have := List.length_pos_iff.2 h; omega⟩
  unfold Lib.compact Lib.compactUpTo
  rw [hm, List.length_map, List.range_succ_eq_map, List.filter_cons, if_pos (Lib.keeps_lt_one _ 0 (by omega))]
  simp
theorem compact_le (zs : List Int) : (Lib.compact zs).length ≤ zs.length := by
  unfold Lib.compact Lib.compactUpTo
  rw [List.length_map]
  exact Nat.le_trans (List.length_filter_le _ _) (by simp)
theorem infoIb : (Tryd.prog.info? 3).map (fun i => (i.zero, i.size, i.bytes)) = some (some (.int .i64 0), 1, 8) := by kernel_rfl
theorem cell_twoS (w : World) (a b : Value) (t : TypeId) : ∀ j u, [a, b][j]? = some u → (w.alloc (.cells #[a, b] t)).cell? ((⟨w.heap.size, 0, none⟩ : Addr).add j) = some u := by
  intro j u hj
  have e : (w.alloc (.cells #[a, b] t)).heap[w.heap.size]? = _ := World.alloc_heap_new w _
  match j, hj with
  | 0, hj =>
    obtain rfl : a = u := by simpa using hj
    unfold World.cell?
    rw [show (⟨w.heap.size, 0, none⟩ : Addr).add 0 = ⟨w.heap.size, 0, none⟩ from rfl, e]
    rfl
  | 1, hj =>
    obtain rfl : b = u := by simpa using hj
    unfold World.cell?
    rw [show (⟨w.heap.size, 0, none⟩ : Addr).add 1 = ⟨w.heap.size, 1, none⟩ from rfl, e]
    rfl
  | n + 2, hj => simp at hj
theorem own_two (w : World) (a b : Int) : (w.alloc (.cells #[.int .i64 a, .int .i64 b] 3)).ownsRow w.heap.size 3 1 (.slice (some ⟨w.heap.size, 0, none⟩) 2 2) 2 (intV [a, b]) :=
  ⟨rfl, .inr ⟨w.heap.size, 2, _, rfl, Nat.le_refl _, World.alloc_heap_new w _, Nat.le_refl _, by decide, rfl, rfl⟩⟩
set_option maxRecDepth 100000 in
set_option maxHeartbeats 2000000 in
theorem bounds_any (D : List Sp) (oa : Option Addr) (cap : Nat) (n : Int) (hl : D.length ≤ 5000) (hc : D.length ≤ cap ∧ cap ≤ maxLen) (w : World) (hR : SpO w oa D) :
    Calls Tryd.prog 44 #[.int .i64 n, .slice oa D.length cap] w fun e w' => ∃ g c, e = .returned (.slice (some ⟨g, 1, none⟩) (bndM n D).length c) ∧ ((bndM n D).length ≤ c ∧ c ≤ maxLen) ∧ w.heap.size ≤ g ∧ g < w'.heap.size ∧ (∀ i x, (bndM n D)[i]? = some x → w'.cell? ⟨g, 1 + i, none⟩ = some (.int .i64 x)) ∧ Below w.heap.size w w' := by
  obtain ⟨i0, hi, hz0, hz1, hz2⟩ := info_parts infoIb
  obtain ⟨N, hN⟩ : ∃ N, D.length = N := ⟨_, rfl⟩
  have HN := hideS hN
  rw [hN] at hc hl ⊢
  have hcm : cap ≤ 9223372036854775807 := hc.2
  have HR := hideS hR
  clear hR hN
  obtain ⟨PO, hPO⟩ : ∃ PO : Ending → World → Prop, PO = fun e w' => ∃ g c, e = .returned (.slice (some ⟨g, 1, none⟩) (bndM n D).length c) ∧ ((bndM n D).length ≤ c ∧ c ≤ maxLen) ∧ w.heap.size ≤ g ∧ g < w'.heap.size ∧ (∀ i x, (bndM n D)[i]? = some x → w'.cell? ⟨g, 1 + i, none⟩ = some (.int .i64 x)) ∧ Below w.heap.size w w' := ⟨_, rfl⟩
  rw [← hPO]
  have HPO := hideS hPO
  clear hPO
  go_enter Tryd.func44, Tryd.ntmps44
  go_wp2_with fail
  obtain ⟨W1, hW1⟩ : ∃ W1, w.alloc (.cells #[.int .i64 0, .int .i64 n] 3) = W1 := ⟨_, rfl⟩
  have o1 : W1.ownsRow w.heap.size 3 1 (.slice (some ⟨w.heap.size, 0, none⟩) 2 2) 2 (intV (bndL n [])) := by rw [← hW1]; exact own_two w 0 n
  have b1 : Below w.heap.size w W1 := by rw [← hW1]; exact bel1S w _
  rw [hW1]
  have H1 := hideS (And.intro o1 b1)
  clear hW1 o1 b1
  go_loopw [5, 12] (fun v iv wq => ∃ i : Nat, iv = .int .i64 (i : Nat) ∧ i ≤ N ∧ wq.ownsRow w.heap.size 3 1 v (2 + 2 * i) (intV (bndL n (D.take i))) ∧ Below w.heap.size w wq) (fun _ iv _ => N - (intOf iv).toNat)
  case atStart => exact ⟨0, rfl, Nat.zero_le _, H1.out.1, H1.out.2⟩
  case round =>
    obtain ⟨i, rfl, hi2, hO, hb⟩ := hrel
    obtain ⟨wq, rfl⟩ : ∃ wq, wq = wr := ⟨_, rfl⟩
    clear H1
    by_cases hlt : i < N
    · obtain ⟨x, hx⟩ : ∃ x, D[i]? = some x := ⟨_, List.getElem?_eq_getElem (by rw [HN.out]; exact hlt)⟩
      obtain ⟨a, rfl, hab, c0, c1, c2, c3⟩ := HR.out.keep hb i x hx
      have d1 : (i : Int) < (N : Int) := by omega
      have wi : IntKind.i64.wrap ((i : Int) + 1) = ((i + 1 : Nat) : Int) := by rw [show ((i + 1 : Nat) : Int) = (i : Int) + 1 by omega]; exact IntWalk.i64_in _ ⟨by omega, by omega⟩
      have hnx : Hid (intV (bndL n (D.take (i + 1))) = intV (bndL n (D.take i)) ++ [.int .i64 x.fr, .int .i64 x.tt]) := hideS (by
        rw [List.take_add_one, hx]
        show intV (bndL n (D.take i ++ [x])) = _
        rw [bndL_snoc, intV, List.map_append]
        rfl)
      have sq := hb.size
      obtain ⟨V, hV⟩ : ∃ V, wq.alloc (.cells #[.int .i64 x.fr, .int .i64 x.tt, .int .i64 x.kd, .int .i64 x.vl] 45) = V := ⟨_, rfl⟩
      have HA := hideS (And.intro hO hb)
      clear hO hb hx
      have bV : Below wq.heap.size wq V := by rw [← hV]; exact bel1S _ _
      have nV : V.heap[wq.heap.size]? = some (.cells #[.int .i64 x.fr, .int .i64 x.tt, .int .i64 x.kd, .int .i64 x.vl] 45) := by rw [← hV]; exact World.alloc_heap_new wq _
      have x0 : V.cell? ⟨wq.heap.size, 0, none⟩ = some (.int .i64 x.fr) := by simp [World.cell?, nV]
      have x1 : V.cell? ⟨wq.heap.size, 1, none⟩ = some (.int .i64 x.tt) := by simp [World.cell?, nV]
      have HOV : Hid (V.ownsRow w.heap.size 3 1 u5 (2 + 2 * i) (intV (bndL n (D.take i)))) := hideS (own_keep HA.out.1 bV)
      have HBV := hideS (HA.out.2.trans (bV.mono HA.out.2.size))
      have sV := Nat.le_trans sq bV.size
      clear nV bV
      go_upto_region 5 with fail
      clear hV c0 c1 c2 c3
      go_wp2_with (at_builtin; refine wpList_append_own _ rfl _ _ 72 rfl w.heap.size 3 i0 (.int .i64 0) 1 8 Tryd.underlying72 hi hz0 hz1 hz2 rfl (by decide) _ _ _ rfl (HOV.out.alloc _) ⟨V.heap.size, 0, none⟩ 2 2 [.int .i64 x.fr, .int .i64 x.tt] rfl rfl (cell_twoS _ _ _ _) (fun u hu => by simp at hu; rcases hu with rfl | rfl <;> rfl) (by unfold maxLen; omega) (by omega) (by simp; omega) ?_; intro v' w3 hown' hgrow _)
      have hB3 := Below.grown (HBV.out.alloc sV (.cells #[.int .i64 x.fr, .int .i64 x.tt] 3)) hgrow (by simp; omega) (fun j hj => (HOV.out.lt j hj).1)
      go_roundw
      case rel =>
        refine ⟨i + 1, by first | rfl | simp, by omega, ?_, hB3⟩
        rw [hnx.out, show 2 + 2 * (i + 1) = 2 + 2 * i + 2 by omega]
        exact hown'
      case measure => simp [intOf]; omega
    · have d1 : ¬ (i : Int) < (N : Int) := by omega
      obtain rfl : i = N := by omega
      rw [List.take_of_length_le (by rw [HN.out]; exact Nat.le_refl _)] at hO
      have hbl := bndL_len n D
      rw [HN.out] at hbl
      obtain ⟨M, hM⟩ : ∃ M, 2 + 2 * i = M := ⟨_, rfl⟩
      rw [hM] at hO hbl
      rcases hO.2 with ⟨_, e0⟩ | ⟨g, cp, cur, e0, _⟩
      · omega
      subst e0
      obtain ⟨hH, hg, hgb, hzl, hcp⟩ := own_holds hO
      have hSl : (bndS n D).length = M := by rw [bndS_len, HN.out, hM]
      have HS := hideS (sort_ints (bndL n D) g cp wq hH hg (by omega))
      rw [hzl] at HS
      have HC := hideS (fun (U : World) (h : Holds (Value.int .i64) U g 0 (bndS n D).toArray) => compact_ints (bndS n D) g cp U h (by omega) (by omega) (compact_le _))
      rw [hSl] at HC
      have hKp : 1 ≤ (bndC n D).length := compact_one _ (fun h => by rw [h] at hSl; simp at hSl; omega)
      have hKM : (bndC n D).length ≤ M := by rw [← hSl]; exact compact_le _
      change Hid (∀ U : World, Holds (Value.int .i64) U g 0 (bndS n D).toArray → Calls Tryd.prog 54 #[.slice (some ⟨g, 0, none⟩) M cp] U fun e w' => e = .returned (.slice (some ⟨g, 0, none⟩) (bndC n D).length cp) ∧ (∀ i x, (bndC n D)[i]? = some x → w'.cell? ⟨g, i, none⟩ = some (.int .i64 x)) ∧ But (fun k => k = g) U w') at HC
      change Hid (Calls Tryd.prog 53 #[.slice (some ⟨g, 0, none⟩) M cp] wq fun e w' => e = .returned (.tuple #[]) ∧ Holds (Value.int .i64) w' g 0 (bndS n D).toArray ∧ But (fun k => k = g) wq w') at HS
      obtain ⟨K, hK⟩ : ∃ K, (bndC n D).length = K := ⟨_, rfl⟩
      rw [hK] at HC hKp hKM
      have HK := hideS hK
      have HA := hideS (And.intro hb (And.intro hg hgb))
      have k1 : (1 : Int) ≤ (K : Int) := by omega
      have k2 : (K : Int) ≤ (cp : Int) := by omega
      have k3 : ¬ K < 1 := by omega
      have k4 : ¬ cp = 1 ∨ cp = 1 := by omega
      clear hO hb hH hg hgb hK
      go_wp2_with (first | (go_at_call 53; (with_reducible refine HS.out.mono ?_); rintro e w5 ⟨rfl, s5, b5⟩; have H5 := hideS (And.intro s5 b5); clear s5 b5) | (go_at_call 54; (with_reducible refine (HC.out _ H5.out.1).mono ?_); rintro e w6 ⟨rfl, s6, b6⟩; have H6 := hideS (And.intro s6 b6); clear s6 b6))
      rw [HPO.out]
      have hl2 : (bndM n D).length = K - 1 := by rw [bndM, List.length_tail, HK.out]
      have hB : Below w.heap.size w w6 := HA.out.1.trans ((H5.out.2.trans H6.out.2).below HA.out.1.size (fun k e => by have := HA.out.2.2; omega))
      refine ⟨g, cp - 1, ?_, ⟨by rw [hl2]; omega, by have := hcp.2; omega⟩, HA.out.2.2, Nat.lt_of_lt_of_le HA.out.2.1 (H5.out.2.trans H6.out.2).size, fun j x hj => ?_, hB⟩
      · rw [hl2]
        rfl
      · refine H6.out.1 (1 + j) x ?_
        rw [bndM, List.getElem?_tail, Nat.add_comm] at hj
        exact hj
end Go.Proofs.YtbiodfeanngkdaaDoor
