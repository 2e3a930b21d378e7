/- style.cross at any row of spans (chapter 7). -/
import Derived.Test.YtbiodfeanngkdaaDoorSoM
import Derived.Test.YtbiodfeanngkdaaDoorStC
namespace Go.Proofs.YtbiodfeanngkdaaDoor
open Go.RowKit Go.Shelf
attribute [local go_sem] Oper.semAt_some

/-- A stack of ints in a row of one's own: the top stands first in the list, last in memory. -/
def StE (W : World) (base : Nat) (v : Value) (st : List Int) : Prop := W.ownsRow base 3 1 v st.length (st.reverse.map (Value.int .i64))
theorem StE.shape {W : World} {base : Nat} {v : Value} {st : List Int} (h : StE W base v st) : ∃ o cap, v = .slice o st.length cap ∧ (st.length ≤ cap ∧ cap ≤ maxLen) ∧
    ∀ t l, st = t :: l → ∃ g, o = some ⟨g, 0, none⟩ ∧ base ≤ g ∧ g < W.heap.size ∧ W.cell? ⟨g, l.length, none⟩ = some (.int .i64 t) ∧ StE W base (.slice (some ⟨g, 0, none⟩) l.length cap) l := by
  rcases h.2 with ⟨rfl, h0⟩ | ⟨g, cap, cur, rfl, hb, hg, hcn, hcm, hs, h4⟩
  · exact ⟨none, 0, by rw [h0], ⟨by omega, Nat.zero_le _⟩, fun t l e => by rw [e] at h0; simp at h0⟩
  · refine ⟨_, cap, rfl, ⟨hcn, hcm⟩, fun t l e => ?_⟩
    subst e
    rw [List.reverse_cons, List.map_append] at h4
    have hlen : (l.reverse.map (Value.int .i64)).length = l.length := by simp
    have hgl := (Array.getElem?_eq_some_iff.1 hg).1
    refine ⟨g, rfl, hb, hgl, ?_, ?_⟩
    · have h5 : (cur.toList.take ((l.length + 1) * 1))[l.length]? = some (.int .i64 t) := by
        rw [show (t :: l).length = l.length + 1 from rfl] at h4
        rw [h4, List.getElem?_append_right (by omega), hlen, Nat.sub_self]
        rfl
      rw [List.getElem?_take, if_pos (by omega), Array.getElem?_toList] at h5
      simp [World.cell?, hg, h5]
    · refine ⟨by simp, .inr ⟨g, cap, cur, rfl, hb, hg, by simp at hcn; omega, hcm, hs, ?_⟩⟩
      have h6 := congrArg (List.take l.length) h4
      rw [List.take_take, List.take_left' hlen] at h6
      rw [← h6]
      congr 1
      simp
theorem StE.keep {W V : World} {base : Nat} {v : Value} {st : List Int} (h : StE W base v st) (b : Below W.heap.size W V) : StE V base v st := by
  refine ⟨h.1, ?_⟩
  rcases h.2 with hn | ⟨g, cap, cur, rfl, hb, hgg, rest⟩
  · exact .inl hn
  · exact .inr ⟨g, cap, cur, rfl, hb, (b.block g (Array.getElem?_eq_some_iff.1 hgg).1).trans hgg, rest⟩
def lenV : Value → Nat
  | .slice _ n _ => n
  | _ => 0
theorem infoI7 : (Tryd.prog.info? 3).map (fun i => (i.zero, i.size, i.bytes)) = some (some (.int .i64 0), 1, 8) := by kernel_rfl
theorem cell_oneS (w : World) (a : Value) (t : TypeId) : ∀ j u, [a][j]? = some u → (w.alloc (.cells #[a] t)).cell? ((⟨w.heap.size, 0, none⟩ : Addr).add j) = some u := by
  intro j u hj
  cases j with
  | zero =>
    obtain rfl : a = u := by simpa using hj
    unfold World.cell?
    rw [show (⟨w.heap.size, 0, none⟩ : Addr).add 0 = ⟨w.heap.size, 0, none⟩ from rfl, show (w.alloc (.cells #[a] t)).heap[w.heap.size]? = _ from World.alloc_heap_new w _]
    rfl
  | succ j => simp at hj
set_option maxRecDepth 100000 in
set_option maxHeartbeats 2000000 in
theorem cross_any (D : List Sp) (oa : Option Addr) (cap : Nat) (hl : D.length ≤ 5000) (hn : oa = none → D = [] ∧ cap = 0) (w : World) (hR : SpO w oa D) :
    Calls Tryd.prog 15 #[.slice oa D.length cap] w fun e w' => e = .returned (.bool (crB D)) ∧ Below w.heap.size w w' := by
  obtain ⟨i0, hi, hz0, hz1, hz2⟩ := info_parts infoI7
  have HC := hideS (outer_any D oa cap hl hn w hR)
  have hL : (isort ltS D).length = D.length := isort_length ltS D
  unfold crB
  generalize isort ltS D = L at *
  obtain ⟨B, hB⟩ : ∃ B, crGo [] L = B := ⟨_, rfl⟩
  rw [hB]
  have HB0 := hideS hB
  clear hR hn hB
  rw [← hL] at HC hl ⊢
  obtain ⟨N, hN⟩ : ∃ N, L.length = N := ⟨_, rfl⟩
  have HN := hideS hN
  rw [hN] at HC hl ⊢
  clear hN hL
  go_enter Tryd.func15, Tryd.ntmps15
  go_wp2_with fail
  refine HC.out.mono ?_
  rintro e w1 ⟨o, c, rfl, hc, _, _, hS1, b1⟩
  have HS1 := hideS hS1
  have HB1 := hideS b1
  clear HC hS1 b1
  go_wp2_with fail
  go_loopw [3, 9] (fun ev iv wq => ∃ (i : Nat) (st : List Int), iv = .int .i64 (i : Nat) ∧ i ≤ N ∧ st.length ≤ i ∧ StE wq w1.heap.size ev st ∧ crGo st (L.drop i) = B ∧ Below w1.heap.size w1 wq) (fun _ iv _ => N - (intOf iv).toNat)
  case atStart => exact ⟨0, [], rfl, Nat.zero_le _, Nat.le_refl _, World.ownsRow_nil _ _ _ _, HB0.out, Below.refl _ _⟩
  case round =>
    obtain ⟨i, st, rfl, hiN, hst, hE, hgo, hb⟩ := hrel
    obtain ⟨wq, rfl⟩ : ∃ wq, wq = wr := ⟨_, rfl⟩
    by_cases hlt : i < N
    · obtain ⟨x, hx⟩ : ∃ x, L[i]? = some x := ⟨_, List.getElem?_eq_getElem (by rw [HN.out]; exact hlt)⟩
      obtain ⟨a, rfl, hab, c0, c1, c2, c3⟩ := HS1.out.keep hb i x hx
      have hdr : L.drop i = x :: L.drop (i + 1) := by rw [← (List.getElem?_eq_some_iff.1 hx).2]; exact List.drop_eq_getElem_cons (by rw [HN.out]; exact hlt)
      rw [hdr] at hgo
      have d1 : (i : Int) < (N : Int) := by omega
      have wi : IntKind.i64.wrap ((i : Int) + 1) = ((i + 1 : Nat) : Int) := by rw [show ((i + 1 : Nat) : Int) = (i : Int) + 1 by omega]; exact IntWalk.i64_in _ ⟨by omega, by omega⟩
      have HA := hideS (And.intro hE (And.intro hgo hb))
      clear hE hgo hb hx hdr
      go_wp2_with fail
      obtain ⟨V, hV⟩ : ∃ V, wq.alloc (.cells #[.int .i64 x.fr, .int .i64 x.tt, .int .i64 x.kd, .int .i64 x.vl] 45) = V := ⟨_, rfl⟩
      have HV : Hid (Below wq.heap.size wq V) := hideS (by rw [← hV]; exact bel1S _ _)
      have nV : V.heap[wq.heap.size]? = some (.cells #[.int .i64 x.fr, .int .i64 x.tt, .int .i64 x.kd, .int .i64 x.vl] 45) := by rw [← hV]; exact World.alloc_heap_new wq _
      have hVl : wq.heap.size < V.heap.size := (Array.getElem?_eq_some_iff.1 nV).1
      have x0 : V.cell? ⟨wq.heap.size, 0, none⟩ = some (.int .i64 x.fr) := by simp [World.cell?, nV]
      have x1 : V.cell? ⟨wq.heap.size, 1, none⟩ = some (.int .i64 x.tt) := by simp [World.cell?, nV]
      rw [hV]
      have HX := hideS (And.intro x0 x1)
      have HEV := hideS (HA.out.1.keep HV.out)
      clear hV nV c0 c1 c2 c3 x0 x1
      go_loopw [3] (fun ev wz => ∃ st2 : List Int, StE wz w1.heap.size ev st2 ∧ popE x.fr st2 = popE x.fr st ∧ st2.length ≤ st.length ∧ Below V.heap.size V wz) (fun ev _ => lenV ev)
      case atStart => exact ⟨st, HEV.out, rfl, Nat.le_refl _, Below.refl _ _⟩
      case round =>
        obtain ⟨st2, hE2, hp2, hle2, hb2⟩ := hrel
        obtain ⟨wz, rfl⟩ : ∃ wz, wz = wr := ⟨_, rfl⟩
        obtain ⟨ov, cv, rfl, hcv, hsh⟩ := hE2.shape
        have x0 : wz.cell? ⟨wq.heap.size, 0, none⟩ = some (.int .i64 x.fr) := (hb2.cell (p := ⟨wq.heap.size, 0, none⟩) hVl).trans HX.out.1
        have x1 : wz.cell? ⟨wq.heap.size, 1, none⟩ = some (.int .i64 x.tt) := (hb2.cell (p := ⟨wq.heap.size, 1, none⟩) hVl).trans HX.out.2
        cases st2 with
        | nil =>
          have HQ := hideS (And.intro hE2 (And.intro hp2 hb2))
          clear hE2 hp2 hb2 hsh
          simp only [List.length_nil] at *
          have HG : Hid (StE wz w1.heap.size (.slice ov 0 cv) []) := hideS HQ.out.1
          go_wp2_with fail
          go_quiet (fail)
          obtain ⟨wy, hwy⟩ : ∃ wy, wz.drewN nq = wy := ⟨_, rfl⟩
          have W1 : Hid (Below wz.heap.size wz wy) := hideS (by rw [← hwy]; exact below_dnS (Below.refl _ _) nq)
          rw [hwy]
          clear hwy x0 x1
          go_wp2_with fail
          go_quiet (fail)
          obtain ⟨wx, hwx⟩ : ∃ wx, wy.drewN nq = wx := ⟨_, rfl⟩
          have W2 : Hid (Below wz.heap.size wz wx) := hideS (by rw [← hwx]; exact below_dnS W1.out nq)
          rw [hwx]
          clear hwx
          have hb3 : Below V.heap.size V wx := HQ.out.2.2.trans (W2.out.mono HQ.out.2.2.size)
          have x1 : wx.cell? ⟨wq.heap.size, 1, none⟩ = some (.int .i64 x.tt) := (hb3.cell (p := ⟨wq.heap.size, 1, none⟩) hVl).trans HX.out.2
          have HGx : Hid (wx.ownsRow w1.heap.size 3 1 (.slice ov 0 cv) 0 []) := hideS (HG.out.keep W2.out)
          have hb4 : Below w1.heap.size w1 wx := HA.out.2.2.trans ((bupS HV.out hb3).mono HA.out.2.2.size)
          have hs4 := hb4.size
          have HB4 := hideS hb4
          clear hb3 hb4
          go_wp2_with (at_builtin; refine wpList_append_own _ rfl _ _ 72 rfl w1.heap.size 3 i0 (.int .i64 0) 1 8 Tryd.underlying72 hi hz0 hz1 hz2 rfl (by decide) _ _ _ rfl (HGx.out.alloc _) ⟨wx.heap.size, 0, none⟩ 1 1 [.int .i64 x.tt] rfl rfl (cell_oneS _ _ _) (fun u hu => by simp at hu; subst hu; rfl) (by unfold maxLen; omega) (by omega) (by simp; omega) ?_; intro v' w3 hown' hgrow _)
          have hB3 := Below.grown (HB4.out.alloc hs4 (.cells #[.int .i64 x.tt] 3)) hgrow (by simp; omega) (fun j hj => (HGx.out.lt j hj).1)
          go_roundw
          case rel =>
            refine ⟨i + 1, [x.tt], by first | rfl | simp, by omega, by simp, hown', ?_, hB3⟩
            have h7 := HA.out.2.1
            unfold crGo at h7
            have h8 := HQ.out.2.1
            rw [← h8] at h7
            exact h7
          case measure => simp [intOf]; omega
        | cons t l =>
          obtain ⟨g, rfl, hgb, hgl, ct, hE3⟩ := hsh t l rfl
          obtain ⟨m, hm⟩ : ∃ m, l.length = m := ⟨_, rfl⟩
          obtain ⟨M, hM⟩ : ∃ M, (t :: l).length = M := ⟨_, rfl⟩
          have hMm : M = m + 1 := by rw [← hM, ← hm]; rfl
          rw [hm] at ct
          rw [hM] at hcv
          have j1 : (M : Int) - 1 = (m : Int) := by omega
          have j2 : IntKind.i64.wrap (m : Int) = (m : Int) := IntWalk.i64_in _ ⟨by omega, by omega⟩
          have j3 : (0 : Int) < (M : Int) := by omega
          have j4 : (m : Int) < (M : Int) := by omega
          have j5 : (m : Int) ≤ (cv : Int) := by omega
          have j6 : m ≤ cv := by omega
          have j7 : 0 < M := by omega
          have j8 : decide (0 < M) = true := decide_eq_true j7
          have HQ := hideS (And.intro hE2 (And.intro hp2 (And.intro hb2 (And.intro hE3 (And.intro hle2 (And.intro hm (And.intro hM hMm)))))))
          rw [hM]
          clear hE2 hp2 hb2 hsh hE3 hle2 hm hM hMm
          by_cases htx : t ≤ x.fr
          · go_wp2_with fail
            go_quiet (fail)
            go_wp2_with fail
            have hd : Below wz.heap.size wz (wz.drewN nq) := below_dnS (Below.refl _ _) nq
            refine ⟨⟨l, ?_, ?_, ?_, ?_⟩, ?_⟩
            · have h9 := HQ.out.2.2.2.1.keep hd
              rw [HQ.out.2.2.2.2.2.1] at h9
              exact h9
            · rw [← HQ.out.2.1]
              show _ = if t ≤ x.fr then popE x.fr l else t :: l
              rw [if_pos htx]
            · have := HQ.out.2.2.2.2.1
              simp at this
              omega
            · exact HQ.out.2.2.1.trans (hd.mono HQ.out.2.2.1.size)
            · show m < M
              omega
          · have htx2 : decide (t ≤ x.fr) = false := decide_eq_false htx
            go_wp2_with fail
            go_quiet (fail)
            obtain ⟨wy, hwy⟩ : ∃ wy, wz.drewN nq = wy := ⟨_, rfl⟩
            have W1 : Hid (Below wz.heap.size wz wy) := hideS (by rw [← hwy]; exact below_dnS (Below.refl _ _) nq)
            rw [hwy]
            have hby : Below V.heap.size V wy := HQ.out.2.2.1.trans (W1.out.mono HQ.out.2.2.1.size)
            have y1 : wy.cell? ⟨wq.heap.size, 1, none⟩ = some (.int .i64 x.tt) := (hby.cell (p := ⟨wq.heap.size, 1, none⟩) hVl).trans HX.out.2
            have yt : wy.cell? ⟨g, m, none⟩ = some (.int .i64 t) := (W1.out.cell (p := ⟨g, m, none⟩) hgl).trans ct
            clear hwy x0 x1 ct hby
            by_cases hcr : t < x.tt
            · go_wp2_with fail
              go_quiet (fail)
              go_wp2_with fail
              go_ret
              have hd : Below wy.heap.size wy (wy.drewN nq) := below_dnS (Below.refl _ _) nq
              have h7 := HA.out.2.1
              have h8 : popE x.fr st = t :: l := by
                rw [← HQ.out.2.1]
                show (if t ≤ x.fr then popE x.fr l else t :: l) = _
                rw [if_neg (by omega)]
              unfold crGo at h7
              rw [h8] at h7
              simp only at h7
              rw [if_pos hcr] at h7
              refine ⟨?_, ?_⟩
              · rw [← h7]
                rfl
              · have h9 : Below V.heap.size V (wy.drewN nq) := (HQ.out.2.2.1.trans (W1.out.mono HQ.out.2.2.1.size)).trans (hd.mono (Nat.le_trans HQ.out.2.2.1.size W1.out.size))
                exact HB1.out.trans ((HA.out.2.2.trans ((bupS HV.out h9).mono HA.out.2.2.size)).mono HB1.out.size)
            · go_wp2_with fail
              go_quiet (fail)
              obtain ⟨wx, hwx⟩ : ∃ wx, wy.drewN nq = wx := ⟨_, rfl⟩
              have W2 : Hid (Below wz.heap.size wz wx) := hideS (by rw [← hwx]; exact below_dnS W1.out nq)
              rw [hwx]
              clear hwx
              have hb3 : Below V.heap.size V wx := HQ.out.2.2.1.trans (W2.out.mono HQ.out.2.2.1.size)
              have x1 : wx.cell? ⟨wq.heap.size, 1, none⟩ = some (.int .i64 x.tt) := (hb3.cell (p := ⟨wq.heap.size, 1, none⟩) hVl).trans HX.out.2
              have HGx : Hid (wx.ownsRow w1.heap.size 3 1 (.slice (some ⟨g, 0, none⟩) M cv) M ((t :: l).reverse.map (Value.int .i64))) := hideS (by have h9 := HQ.out.1.keep W2.out; unfold StE at h9; rw [HQ.out.2.2.2.2.2.2.1] at h9; exact h9)
              have hb4 : Below w1.heap.size w1 wx := HA.out.2.2.trans ((bupS HV.out hb3).mono HA.out.2.2.size)
              have hs4 := hb4.size
              have hM5 : M ≤ 5000 := by have := HQ.out.2.2.2.2.1; rw [HQ.out.2.2.2.2.2.2.1] at this; omega
              have HB4 := hideS hb4
              clear hb3 hb4 y1 yt
              go_wp2_with (at_builtin; refine wpList_append_own _ rfl _ _ 72 rfl w1.heap.size 3 i0 (.int .i64 0) 1 8 Tryd.underlying72 hi hz0 hz1 hz2 rfl (by decide) _ _ _ rfl (HGx.out.alloc _) ⟨wx.heap.size, 0, none⟩ 1 1 [.int .i64 x.tt] rfl rfl (cell_oneS _ _ _) (fun u hu => by simp at hu; subst hu; rfl) (by unfold maxLen; omega) (by omega) (by simp; omega) ?_; intro v' w3 hown' hgrow _)
              have hB3 := Below.grown (HB4.out.alloc hs4 (.cells #[.int .i64 x.tt] 3)) hgrow (by simp; omega) (fun j hj => (HGx.out.lt j hj).1)
              refine ⟨⟨i + 1, x.tt :: t :: l, by first | rfl | simp, by omega, ?_, ?_, ?_, hB3⟩, by simp [intOf]; omega⟩
              · have := HQ.out.2.2.2.2.1
                simp at this ⊢
                omega
              · unfold StE
                have e1 : (x.tt :: t :: l).length = M + 1 := by rw [← HQ.out.2.2.2.2.2.2.1]; rfl
                have e2 : (x.tt :: t :: l).reverse.map (Value.int .i64) = (t :: l).reverse.map (Value.int .i64) ++ [.int .i64 x.tt] := by rw [List.reverse_cons, List.map_append]; rfl
                rw [e1, e2]
                exact hown'
              · have h7 := HA.out.2.1
                have h8 : popE x.fr st = t :: l := by
                  rw [← HQ.out.2.1]
                  show (if t ≤ x.fr then popE x.fr l else t :: l) = _
                  rw [if_neg (by omega)]
                unfold crGo at h7
                rw [h8] at h7
                simp only at h7
                rw [if_neg (by omega)] at h7
                exact h7
    · have d1 : ¬ (i : Int) < (N : Int) := by omega
      have hnil : L.drop i = [] := List.drop_eq_nil_of_le (by rw [HN.out]; omega)
      rw [hnil] at hgo
      have HA := hideS (And.intro hgo hb)
      clear hgo hb hE hnil
      go_wp2_with fail
      go_ret
      refine ⟨?_, HB1.out.trans (HA.out.2.mono HB1.out.size)⟩
      rw [← HA.out.1]
      rfl
end Go.Proofs.YtbiodfeanngkdaaDoor
