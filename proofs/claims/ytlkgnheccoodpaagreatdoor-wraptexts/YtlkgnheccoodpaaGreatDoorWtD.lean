import Derived.Test.YtlkgnheccoodpaaGreatDoorG8
import Derived.Deep.Cut
import Derived.Deep.CutRange
import Derived.Deep.CutBlock
import Derived.Deep.DeepCutAuto
namespace Go.Proofs.YtlkgnheccoodpaaGreatDoor
open Go.RowKit Go.Shelf
attribute [local go_sem] Oper.semAt_some
structure TQ (w wx : World) (G : Nat) (P : List Pc) (D : Tb) (fr m : Nat) (b : Be) (Q : List Be) : Prop where
 len : Q.length = P.length + 1
 here : Q[fr]? = some b
 dr : Q.drop (fr + 1) = rowT D m
 lo : ∀ i, i < fr → Q[i]? = some be0
 bel : Below w.heap.size w wx
 ic : IC wx w.heap.size (kindsL P)
 tc : TC wx G Q
 hG : w.heap.size < G
theorem TQ.step {w wx wy : World} {G : Nat} {P : List Pc} {D : Tb} {fr m : Nat} {b : Be} {Q : List Be} (h : TQ w wx G P D fr m b Q) (c : Below wx.heap.size wx wy) : TQ w wy G P D fr m b Q :=
 ⟨h.len, h.here, h.dr, h.lo, bupW h.bel c, h.ic.keep c, h.tc.keep c, h.hG⟩
theorem TQ.drew {w wx : World} {G : Nat} {P : List Pc} {D : Tb} {fr m : Nat} {b : Be} {Q : List Be} (h : TQ w wx G P D fr m b Q) : TQ w wx.drew G P D fr m b Q := h.step (Below.refl wx.heap.size wx).drew
theorem TQ.put {w wx : World} {G : Nat} {P : List Pc} {D : Tb} {fr m : Nat} {b : Be} {Q : List Be} (h : TQ w wx G P D fr m b Q) (v : Be) : TQ w (((wx.setCell ⟨G, fr * 3, none⟩ (.int .i64 v.bad)).setCell ⟨G, fr * 3 + 1, none⟩ (.int .i64 v.cnt)).setCell ⟨G, fr * 3 + 2, none⟩ (.int .i64 (v.nxt : Nat))) G P D fr m v (Q.set fr v) := by
 have hG := h.hG
 have hfr := (List.getElem?_eq_some_iff.1 h.here).1
 refine ⟨by rw [List.length_set]; exact h.len, by rw [List.getElem?_set, if_pos rfl, if_pos hfr], by rw [List.drop_set_of_lt (by omega)]; exact h.dr, fun i hi => by rw [List.getElem?_set, if_neg (by omega)]; exact h.lo i hi, ((h.bel.setCell (by simp; omega) _).setCell (by simp; omega) _).setCell (by simp; omega) _, ?_, h.tc.set fr v, hG⟩
 obtain ⟨cur, h1, h2⟩ := h.ic
 exact ⟨cur, ((Below.heap_setCell _ _ _ _ (by simp; omega)).trans ((Below.heap_setCell _ _ _ _ (by simp; omega)).trans (Below.heap_setCell _ _ _ _ (by simp; omega)))).trans h1, h2⟩
def b1F (D : Tb) (T : Nat → Be) (fr t : Nat) (b : Option Be) : Option Be := if fr < t ∧ 0 < D.k t then updE b (plC D T fr t) else b
def b2F (D : Tb) (fr t : Nat) (b : Option Be) : Option Be := if t = D.n ∧ (D.n = fr ∨ D.en = false) then updE b (fnC D fr) else b
theorem fold_wide (D : Tb) (T : Nat → Be) (fr f t : Nat) (b : Option Be) (h : D.wd < D.wl fr t) : (candGo D T fr (f + 1) t).foldl updE b = b := by rw [candGo, if_pos h]; rfl
theorem fold_step (D : Tb) (T : Nat → Be) (fr f t : Nat) (b : Option Be) (h : ¬ D.wd < D.wl fr t) : (candGo D T fr (f + 1) t).foldl updE b = (if fr < t ∧ D.k t = 1 then [] else candGo D T fr f (t + 1)).foldl updE (b2F D fr t (b1F D T fr t b)) := by
 rw [candGo, if_neg h, List.foldl_append, List.foldl_append]
 congr 1
 unfold b1F b2F
 by_cases h1 : fr < t ∧ 0 < D.k t
 ·rw [if_pos h1, if_pos h1]
  by_cases h2 : t = D.n ∧ (D.n = fr ∨ D.en = false)
  ·rw [if_pos h2, if_pos h2]; rfl
  ·rw [if_neg h2, if_neg h2]; rfl
 ·rw [if_neg h1, if_neg h1]
  by_cases h2 : t = D.n ∧ (D.n = fr ∨ D.en = false)
  ·rw [if_pos h2, if_pos h2]; rfl
  ·rw [if_neg h2, if_neg h2]; rfl
theorem row_bd (D : Tb) (h0 : ∀ fr t, 0 ≤ D.wl fr t) (hw : 0 ≤ D.wd ∧ D.wd ≤ 200) : ∀ m, m ≤ D.n + 1 → ∀ x ∈ rowT D m, (0 ≤ x.bad ∧ x.bad ≤ 1100000 * (m : Int)) ∧ (0 ≤ x.cnt ∧ x.cnt ≤ (m : Int)) ∧ x.nxt ≤ D.n
 | 0, _, x, hx => by simp [rowT] at hx
 | m + 1, hm, x, hx => by
  have ih := row_bd D h0 hw m (by omega)
  rw [rowT] at hx
  rcases List.mem_cons.1 hx with rfl | hx
  ·have sq : ∀ fr t, D.wl fr t ≤ D.wd → 0 ≤ (D.wd - D.wl fr t) * (D.wd - D.wl fr t) ∧ (D.wd - D.wl fr t) * (D.wd - D.wl fr t) ≤ 40000 := fun fr t h => by
    have u1 : 0 ≤ D.wd - D.wl fr t ∧ D.wd - D.wl fr t ≤ 200 := by have := h0 fr t; omega
    have m1 := Int.mul_nonneg u1.1 u1.1
    have m2 : (D.wd - D.wl fr t) * (D.wd - D.wl fr t) ≤ 200 * 200 := Int.mul_le_mul u1.2 u1.2 u1.1 (by decide)
    omega
   have hT : ∀ i, (0 ≤ ((rowT D m).getD i be0).bad ∧ ((rowT D m).getD i be0).bad ≤ 1100000 * (m : Int)) ∧ (0 ≤ ((rowT D m).getD i be0).cnt ∧ ((rowT D m).getD i be0).cnt ≤ (m : Int)) ∧ ((rowT D m).getD i be0).nxt ≤ D.n := fun i => by
    by_cases hl : i < (rowT D m).length
    ·exact ih _ (List.mem_of_getElem? (getD_some hl))
    ·have e : (rowT D m).getD i be0 = be0 := by rw [List.getD, List.getElem?_eq_none (by omega)]; rfl
     rw [e]
     exact ⟨⟨Int.le_refl _, by show (0 : Int) ≤ _; omega⟩, ⟨Int.le_refl _, by show (0 : Int) ≤ _; omega⟩, Nat.zero_le _⟩
   rcases (upd_spec (candGo D (fun t => (rowT D m).getD (t - (D.n - m) - 1) be0) (D.n - m) (m + 1) (D.n - m)) none).1 with u | ⟨p, y, q, e1, e2, _⟩
   ·rw [u]
    exact ⟨⟨Int.le_refl _, by show (0 : Int) ≤ _; omega⟩, ⟨Int.le_refl _, by show (0 : Int) ≤ _; omega⟩, Nat.zero_le _⟩
   ·rw [e2]
    show (0 ≤ y.bad ∧ y.bad ≤ _) ∧ (0 ≤ y.cnt ∧ y.cnt ≤ _) ∧ y.nxt ≤ _
    rcases cand_mem D _ _ y (m + 1) (D.n - m) (by omega) (Nat.le_refl _) (by rw [e1]; simp) with ⟨t, a1, a2, a3, a4, a5, a6, rfl⟩ | ⟨rfl, b2, b3, b4⟩
    ·have s := sq (D.n - m) t a5
     have ht := hT (t - (D.n - m) - 1)
     show (0 ≤ (D.wd - D.wl (D.n - m) t) * (D.wd - D.wl (D.n - m) t) + ((rowT D m).getD (t - (D.n - m) - 1) be0).bad + (if D.k t = 3 then 1048576 else 0) ∧ (D.wd - D.wl (D.n - m) t) * (D.wd - D.wl (D.n - m) t) + ((rowT D m).getD (t - (D.n - m) - 1) be0).bad + (if D.k t = 3 then 1048576 else 0) ≤ 1100000 * ((m + 1 : Nat) : Int)) ∧ (0 ≤ 1 + ((rowT D m).getD (t - (D.n - m) - 1) be0).cnt ∧ 1 + ((rowT D m).getD (t - (D.n - m) - 1) be0).cnt ≤ ((m + 1 : Nat) : Int)) ∧ t ≤ D.n
     generalize (D.wd - D.wl (D.n - m) t) * (D.wd - D.wl (D.n - m) t) = sqv at *
     split <;> omega
    ·have s := sq (D.n - m) D.n b2
     show (0 ≤ (D.wd - D.wl (D.n - m) D.n) * (D.wd - D.wl (D.n - m) D.n) ∧ (D.wd - D.wl (D.n - m) D.n) * (D.wd - D.wl (D.n - m) D.n) ≤ _) ∧ (0 ≤ (0 : Int) ∧ (0 : Int) ≤ _) ∧ 0 ≤ D.n
     generalize (D.wd - D.wl (D.n - m) D.n) * (D.wd - D.wl (D.n - m) D.n) = sqv at *
     omega
  ·have := ih x hx
   omega
set_option maxRecDepth 100000 in
set_option maxHeartbeats 4000000 in
theorem table_some (P : List Pc) (g cap : Nat) (hl0 : 1 ≤ P.length) (hl : P.length ≤ 5000) (hc : P.length ≤ cap ∧ cap ≤ maxLen) (hce : ∀ x ∈ P, 0 ≤ x.ce ∧ x.ce ≤ 2) (wd : Int) (hw : 2 ≤ wd ∧ wd ≤ 200) (w : World) (hR : PcR w g P) :
  Calls Tryz.prog 46 #[.slice (some ⟨g, 0, none⟩) P.length cap, .int .i64 wd] w fun e w' => ∃ G, e = .returned (.slice (some ⟨G, 0, none⟩) (P.length + 1) (P.length + 1)) ∧ TC w' G (rowT (tbS P wd) (P.length + 1)) ∧ Below w.heap.size w w' := by
 have hmx : maxLen ≤ 9223372036854775807 := by decide
 obtain ⟨i0, hi, hz0, hz1, hz2⟩ := info_partsC infoBe
 have HK := hideW (kinds_walk P ⟨g, 0, none⟩ cap hl0 (by omega) hc w hR.crow)
 have HR := hideW hR
 have hgl := hR.1
 have HBd := hideW (row_bd (tbS P wd) (fun fr t => (sumR_bd P fr hce _).1) ⟨by show 0 ≤ wd; omega, by show wd ≤ 200; omega⟩)
 have e0 : IntKind.i64.wrap ((P.length : Int) + 1) = ((P.length + 1 : Nat) : Int) := by rw [show ((P.length + 1 : Nat) : Int) = (P.length : Int) + 1 by omega]; exact IntWalk.i64_in _ ⟨by omega, by omega⟩
 clear hR
 obtain ⟨D, hD⟩ : ∃ D, tbS P wd = D := ⟨_, rfl⟩
 have hDn : D.n = P.length := by rw [← hD]; rfl
 rw [hD] at HBd ⊢
 have HD := hideW hD
 clear hD
 go_enter Tryz.func46, Tryz.ntmps46
 go_wp2_with fail
 refine HK.out.mono ?_
 rintro e w1 ⟨rfl, ic1, b1⟩
 have hz1' := b1.size
 have hicl := ic1.lt
 have H1 := hideW (And.intro ic1 b1)
 clear ic1 b1 HK
 go_wp2_with (at_make; refine wpList_make_full _ rfl _ _ 93 rfl w1.heap.size 96 i0 (.agg #[.int .i64 0, .int .i64 0, .int .i64 0]) 3 Tryz.underlying93 hi hz0 hz1 .i64 .i64 _ _ (P.length + 1) rfl rfl (by omega) (by omega) (by rw [hz2]; omega) (by unfold maxLen; omega) (by simp) ?_; intro w2 own2 gr2)
 have B2 : Below w1.heap.size w1 w2 := Below.grown (Below.refl _ _) gr2 (Nat.le_refl _) (fun k hk => by cases hk)
 have H2 := hideW (And.intro (TC.made own2) (And.intro (H1.out.1.keep B2) (bupW H1.out.2 B2)))
 clear own2 gr2 B2 H1
 obtain ⟨G, hG⟩ : ∃ G, w1.heap.size = G := ⟨_, rfl⟩
 have hGw : w.heap.size < G := by omega
 rw [hG] at H2 ⊢
 clear hG hz1' hicl e0
 go_loopw [8] (fun fv wq => ∃ (m : Nat) (Q : List Be), m ≤ P.length + 1 ∧ fv = .int .i64 ((P.length : Int) - (m : Int)) ∧ Q.length = P.length + 1 ∧ Q.drop (P.length + 1 - m) = rowT D m ∧ (∀ i, i < P.length + 1 - m → Q[i]? = some be0) ∧ Below w.heap.size w wq ∧ IC wq w.heap.size (kindsL P) ∧ TC wq G Q) (fun fv _ => (intOf fv + 1).toNat)
 case atStart =>
  obtain ⟨t1, t2, t3⟩ := H2.out
  refine ⟨0, List.replicate (P.length + 1) be0, by omega, by simp, by simp, ?_, fun i hi => by rw [List.getElem?_replicate, if_pos (by omega)], t3, t2, t1⟩
  rw [Nat.sub_zero, List.drop_eq_nil_of_le (by simp)]
  rfl
 case round =>
  obtain ⟨m, Q, hm, rfl, hQl, hQd, hQ0, hB, hI, hT⟩ := hrel
  clear H2
  by_cases hmN : m = P.length + 1
  ·subst hmN
   rw [Nat.sub_self, List.drop_zero] at hQd
   have ev : (P.length : Int) - ((P.length + 1 : Nat) : Int) = -1 := by omega
   rw [ev]
   rw [hQd] at hT
   have HF := hideW (And.intro hT hB)
   clear hT hB hI hQd hQ0
   go_wp2_with fail
   refine bodyPost_ret (v := .slice (some ⟨G, 0, none⟩) (P.length + 1) (P.length + 1)) (by simp [results, Tryz.results46, go_sem]) rfl ⟨G, rfl, HF.out.1, HF.out.2⟩
  ·obtain ⟨fr, hfr⟩ : ∃ fr, fr + m = P.length := ⟨P.length - m, by omega⟩
   have ev : (P.length : Int) - (m : Int) = (fr : Int) := by omega
   rw [ev]
   have e1 : P.length + 1 - m = fr + 1 := by omega
   rw [e1] at hQd hQ0
   have hTQ : TQ w wr G P D fr m be0 Q := ⟨hQl, hQ0 fr (by omega), hQd, fun i hi => hQ0 i (by omega), hB, hI, hT, hGw⟩
   have HTQ := hideW hTQ
   obtain ⟨T, hTf⟩ : ∃ T : Nat → Be, (fun t => (rowT D m).getD (t - (D.n - m) - 1) be0) = T := ⟨_, rfl⟩
   obtain ⟨R, hRr⟩ : ∃ R, (candGo D T fr (m + 1) fr).foldl updE none = R := ⟨_, rfl⟩
   have HRow : Hid (rowT D (m + 1) = R.getD be0 :: rowT D m) := by
    show rowT D (m + 1) = R.getD be0 :: rowT D m
    rw [rowT, hTf, ← hRr, hDn, show P.length - m = fr by omega]
   have HTt : Hid (∀ t, fr < t → t ≤ P.length → (rowT D m)[t - fr - 1]? = some (T t)) := fun t h1 h2 => by
    rw [← hTf, hDn, show P.length - m = fr by omega]
    exact getD_some (by rw [rowT_len]; omega)
   have HRr := hideW hRr
   have d0 : (0 : Int) ≤ (fr : Int) := by omega
   have d1 : ((fr : Int) - 1) = (P.length : Int) - ((m + 1 : Nat) : Int) := by omega
   have d2 : IntKind.i64.wrap ((P.length : Int) - ((m + 1 : Nat) : Int)) = (P.length : Int) - ((m + 1 : Nat) : Int) := IntWalk.i64_in _ ⟨by omega, by omega⟩
   clear hQl hQd hQ0 hB hI hT hTQ hTf hRr ev e1 hmN
   go_upto_block 1 with fail
   go_cut [] (fun wx => ∃ Q', TQ w wx G P D fr m (R.getD be0) Q')
   case rest =>
    as_aux_lemma =>
     obtain ⟨Q', hq⟩ := hcut
     have HF := hideW hq
     clear hq
     go_wp2_with fail
     go_roundw
     case rel =>
      have h := HF.out
      refine ⟨m + 1, Q', by omega, by simp, h.len, ?_, fun i hi => h.lo i (by omega), h.bel, h.ic, h.tc⟩
      rw [show P.length + 1 - (m + 1) = fr by omega, drop_get h.here, h.dr, HRow.out]
     case measure => simp [intOf]; omega
   case first =>
    as_aux_lemma =>
     clear d1 d2
     go_wp2_with fail
     go_loopw [9, 10, 11, 12] (fun fo cv bv tv wx => ∃ (t : Nat) (b : Option Be) (Q' : List Be), fo = .bool b.isSome ∧ cv = .int .i64 (ceF P fr (t - 1 - fr)) ∧ bv = .int .i64 (blF P fr (t - 1 - fr)) ∧ tv = .int .i64 (t : Nat) ∧ fr ≤ t ∧ t ≤ P.length + 1 ∧ (∀ j, fr < j → j < t → kindRL P j ≠ 1) ∧ Hid ((candGo D T fr (P.length + 1 - t) t).foldl updE b = R) ∧ TQ w wx G P D fr m (b.getD be0) Q') (fun _ _ _ tv _ => P.length + 1 - (intOf tv).toNat)
     case atStart => exact ⟨fr, none, Q, rfl, by rw [show fr - 1 - fr = 0 by omega]; rfl, by rw [show fr - 1 - fr = 0 by omega]; rfl, rfl, Nat.le_refl _, by omega, fun j a b => by omega, hideW (by rw [show P.length + 1 - fr = m + 1 by omega]; exact HRr.out), HTQ.out⟩
     case round =>
      obtain ⟨t, b, Q', rfl, rfl, rfl, rfl, hft, htN, hkn, HA, hTQ⟩ := hrel
      clear HTQ Q
      by_cases htl : t ≤ P.length
      ·obtain ⟨f, hf⟩ : ∃ f, P.length + 1 - t = f + 1 := ⟨P.length - t, by omega⟩
       rw [hf] at HA
       have hcb := ceF_bd P fr hce (t - 1 - fr)
       have HQ := hideW hTQ
       have HKn := hideW hkn
       have tl : (t : Int) ≤ (P.length : Int) := by omega
       obtain ⟨wq, rfl⟩ : ∃ wq, wq = wr := ⟨_, rfl⟩
       clear hTQ hkn
       go_upto_if 38 with fail
       go_cut [10, 11] (fun cv bv wx => cv = .int .i64 (ceF P fr (t - fr)) ∧ bv = .int .i64 (blF P fr (t - fr)) ∧ TQ w wx G P D fr m (b.getD be0) Q')
       case first =>
        as_aux_lemma =>
         by_cases hft2 : fr < t
         ·obtain ⟨d, hd⟩ : ∃ d, t = fr + d + 1 := ⟨t - 1 - fr, by omega⟩
          rw [show t - 1 - fr = d by omega] at hcb ⊢
          have ed : t - fr = d + 1 := by omega
          obtain ⟨x, hx⟩ : ∃ x, P[fr + d]? = some x := ⟨_, List.getElem?_eq_getElem (by omega)⟩
          have eg : P.getD (fr + d) pc0 = x := by rw [List.getD, hx]; rfl
          obtain ⟨y0, y1, y2, y3⟩ := (HR.out.keep HQ.out.bel).2 _ x hx
          have hxc := hce x (List.mem_of_getElem? hx)
          obtain ⟨mm, hmm⟩ : ∃ mm, fr + d = mm := ⟨_, rfl⟩
          rw [hmm] at y0 y1 y2 y3 eg
          have wt : (t : Int) - 1 = (mm : Int) := by omega
          have wm : IntKind.i64.wrap (mm : Int) = (mm : Int) := IntWalk.i64_in _ ⟨by omega, by omega⟩
          have ml : (mm : Int) < (P.length : Int) := by omega
          have gt : (fr : Int) < (t : Int) := by omega
          have HCe : Hid (ceF P fr (d + 1) = if endsB x = true then ceF P fr d else ceF P fr d + x.ce) := hideW (by rw [ceF, hmm, eg])
          have HBl : Hid (blF P fr (d + 1) = if endsB x = true then blF P fr d else if blankB x = true then blF P fr d + x.ce else 0) := hideW (by rw [blF, hmm, eg])
          obtain ⟨C, hC⟩ : ∃ C, ceF P fr d = C := ⟨_, rfl⟩
          obtain ⟨L, hL⟩ : ∃ L, blF P fr d = L := ⟨_, rfl⟩
          rw [hC, hL] at hcb
          rw [hC] at HCe
          rw [hL] at HBl
          rw [hC, hL]
          have wc : IntKind.i64.wrap (C + x.ce) = C + x.ce := IntWalk.i64_in _ ⟨by omega, by omega⟩
          have wc2 : IntKind.i64.wrap C = C := IntWalk.i64_in _ ⟨by omega, by omega⟩
          have wl2 : IntKind.i64.wrap (L + x.ce) = L + x.ce := IntWalk.i64_in _ ⟨by omega, by omega⟩
          have HEn := hideW (ends_any x)
          have HBk := hideW (blank_any x)
          unfold Pc.val at HEn HBk
          have HSt := hideW (fun (U : World) (b0 : Below wq.heap.size wq U) => HQ.out.step b0)
          obtain ⟨xr, xf, xt, xc⟩ := x
          simp only at y0 y1 y2 y3 wc wl2 HEn HBk HCe HBl hxc
          have x0 := hideW (bel1W wq (.cells #[.int .i64 xr, .int .i64 xf, .int .i64 xt, .int .i64 xc] 64))
          clear hx eg hmm hC hL hd
          cases hen : endsB ⟨xr, xf, xt, xc⟩ with
          | true =>
           rw [hen] at HEn HCe HBl
           go_wp2_with fail
           refine (HEn.out _).mono ?_
           rintro e w3 ⟨rfl, b3⟩
           have B3 := hideW (bupW x0.out b3)
           have c3 : w3.cell? ⟨wq.heap.size, 3, none⟩ = some (.int .i64 xc) := (b3.cell (p := ⟨wq.heap.size, 3, none⟩) (by simp)).trans (by simp)
           clear b3
           go_wp2_with fail
           go_meet
           case rel => exact ⟨by rw [ed, HCe.out]; rfl, by rw [ed, HBl.out]; rfl, HSt.out _ B3.out⟩
          | false =>
           rw [hen] at HEn HCe HBl
           cases hbk : blankB ⟨xr, xf, xt, xc⟩ with
           | true =>
            rw [hbk] at HBk HBl
            go_wp2_with fail
            refine (HEn.out _).mono ?_
            rintro e w3 ⟨rfl, b3⟩
            have B3 := hideW (bupW x0.out b3)
            have c0 : w3.cell? ⟨wq.heap.size, 0, none⟩ = some (.int .i64 xr) := (b3.cell (p := ⟨wq.heap.size, 0, none⟩) (by simp)).trans (by simp)
            have c1 : w3.cell? ⟨wq.heap.size, 1, none⟩ = some (.int .i64 xf) := (b3.cell (p := ⟨wq.heap.size, 1, none⟩) (by simp)).trans (by simp)
            have c2 : w3.cell? ⟨wq.heap.size, 2, none⟩ = some (.int .i64 xt) := (b3.cell (p := ⟨wq.heap.size, 2, none⟩) (by simp)).trans (by simp)
            have c3 : w3.cell? ⟨wq.heap.size, 3, none⟩ = some (.int .i64 xc) := (b3.cell (p := ⟨wq.heap.size, 3, none⟩) (by simp)).trans (by simp)
            have z3 : wq.heap.size < w3.heap.size := by have := b3.size; simp at this; omega
            clear b3
            go_wp2_with fail
            refine (HBk.out _).mono ?_
            rintro e w4 ⟨rfl, b4⟩
            have B4 := hideW (bupW B3.out b4)
            have c4 : w4.cell? ⟨wq.heap.size, 3, none⟩ = some (.int .i64 xc) := (b4.cell (p := ⟨wq.heap.size, 3, none⟩) z3).trans c3
            clear b4
            go_wp2_with fail
            go_meet
            case rel => exact ⟨by rw [ed, HCe.out]; rfl, by rw [ed, HBl.out]; rfl, HSt.out _ B4.out⟩
           | false =>
            rw [hbk] at HBk HBl
            go_wp2_with fail
            refine (HEn.out _).mono ?_
            rintro e w3 ⟨rfl, b3⟩
            have B3 := hideW (bupW x0.out b3)
            have c0 : w3.cell? ⟨wq.heap.size, 0, none⟩ = some (.int .i64 xr) := (b3.cell (p := ⟨wq.heap.size, 0, none⟩) (by simp)).trans (by simp)
            have c1 : w3.cell? ⟨wq.heap.size, 1, none⟩ = some (.int .i64 xf) := (b3.cell (p := ⟨wq.heap.size, 1, none⟩) (by simp)).trans (by simp)
            have c2 : w3.cell? ⟨wq.heap.size, 2, none⟩ = some (.int .i64 xt) := (b3.cell (p := ⟨wq.heap.size, 2, none⟩) (by simp)).trans (by simp)
            have c3 : w3.cell? ⟨wq.heap.size, 3, none⟩ = some (.int .i64 xc) := (b3.cell (p := ⟨wq.heap.size, 3, none⟩) (by simp)).trans (by simp)
            clear b3
            go_wp2_with fail
            refine (HBk.out _).mono ?_
            rintro e w4 ⟨rfl, b4⟩
            have B4 := hideW (bupW B3.out b4)
            clear b4
            go_wp2_with fail
            go_meet
            case rel => exact ⟨by rw [ed, HCe.out]; rfl, by rw [ed, HBl.out]; rfl, HSt.out _ B4.out⟩
         ·obtain rfl : t = fr := by omega
          have gt : ¬ (t : Int) < (t : Int) := by omega
          rw [show t - 1 - t = 0 by omega]
          go_wp2_with fail
          go_meet
          case rel => exact ⟨by rw [Nat.sub_self], by rw [Nat.sub_self], HQ.out⟩
       case rest =>
        as_aux_lemma =>
         obtain ⟨rfl, rfl, hTQ⟩ := hcut
         clear HQ
         have HQ := hideW hTQ
         clear hTQ
         obtain ⟨wq, rfl⟩ : ∃ wq, wq = wc := ⟨_, rfl⟩
         have hcb := ceF_bd P fr hce (t - fr)
         have hwl := wl_cb P fr (t - fr) (fun j hj => hard_ends P (fr + j) (HKn.out (fr + j + 1) (by omega) (by omega)))
         rw [show fr + (t - fr) = t by omega] at hwl
         have hw0 := (sumR_bd P fr hce (lineT P fr t - fr)).1
         obtain ⟨wv, hwv⟩ : ∃ wv, D.wl fr t = wv := ⟨_, rfl⟩
         have hwv2 : sumR P fr (lineT P fr t - fr) = wv := by rw [← hwv, ← HD.out]; rfl
         rw [hwv2] at hwl hw0
         have HWv := hideW hwv
         obtain ⟨C, hC⟩ : ∃ C, ceF P fr (t - fr) = C := ⟨_, rfl⟩
         obtain ⟨L, hL⟩ : ∃ L, blF P fr (t - fr) = L := ⟨_, rfl⟩
         have HCL := hideW (And.intro hC hL)
         rw [hC, hL] at hcb hwl
         rw [hC, hL]
         have ww : C - L = wv := hwl
         have w1' : IntKind.i64.wrap wv = wv := IntWalk.i64_in _ ⟨by omega, by omega⟩
         have hDwd : D.wd = wd := by rw [← HD.out]; rfl
         have HDk : Hid (D.k = kindRL P) := hideW (by rw [← HD.out]; rfl)
         have HDe : Hid (D.en = enP P) := hideW (by rw [← HD.out]; rfl)
         clear hC hL hwv hwv2 hwl
         by_cases hwide : wd < wv
         ·have er : b = R := by rw [← HA.out, fold_wide _ _ _ _ _ _ (by rw [hDwd, HWv.out]; exact hwide)]
          subst er
          go_wp2_with fail
          go_meet
          case rel => exact ⟨Q', HQ.out⟩
         ·have hfold := HA.out
          rw [fold_step _ _ _ _ _ _ (by rw [hDwd, HWv.out]; exact hwide)] at hfold
          have HFo := hideW hfold
          obtain ⟨lst, hlst⟩ : ∃ lst : Bool, lst = decide (t = P.length ∧ (P.length = fr ∨ enP P = false)) := ⟨_, rfl⟩
          have HLs := hideW hlst
          have u1 : 0 ≤ wd - wv ∧ wd - wv ≤ 200 := by omega
          have u2 : 0 ≤ (wd - wv) * (wd - wv) ∧ (wd - wv) * (wd - wv) ≤ 40000 := by
           have m1 := Int.mul_nonneg u1.1 u1.1
           have m2 : (wd - wv) * (wd - wv) ≤ 200 * 200 := Int.mul_le_mul u1.2 u1.2 u1.1 (by decide)
           omega
          have wa : IntKind.i64.wrap (wd - wv) = wd - wv := IntWalk.i64_in _ ⟨by omega, by omega⟩
          have wb : IntKind.i64.wrap ((wd - wv) * (wd - wv)) = (wd - wv) * (wd - wv) := IntWalk.i64_in _ ⟨by omega, by omega⟩
          clear hfold hlst HA
          go_upto_region 23 with fail
          go_cut [15] (fun lv wx => lv = .bool lst ∧ TQ w wx G P D fr m (b.getD be0) Q')
          case first =>
           as_aux_lemma =>
            by_cases htn : t = P.length
            ·by_cases hnf : P.length = fr
             ·have el : lst = true := by rw [HLs.out]; simp [htn, hnf]
              subst el
              have q1 : ((t : Int) == (P.length : Int)) = true := by simp [htn]
              have q2 : ((P.length : Int) == (fr : Int)) = true := by simp [hnf]
              clear htn hnf
              go_wp2_with fail
              go_meet
              case rel => exact ⟨rfl, HQ.out⟩
             ·obtain ⟨mm, hmm⟩ : ∃ mm, P.length = mm + 1 := ⟨P.length - 1, by omega⟩
              obtain ⟨x, hx⟩ : ∃ x, P[mm]? = some x := ⟨_, List.getElem?_eq_getElem (by omega)⟩
              obtain ⟨y0, y1, y2, y3⟩ := (HR.out.keep HQ.out.bel).2 _ x hx
              have el : lst = !endsB x := by
               rw [HLs.out]
               have e1 : enP P = endsB x := by unfold enP; rw [show P.length - 1 = mm by omega, getD_at hx, decide_eq_true (show 0 < P.length by omega), Bool.true_and]
               rw [e1]
               cases endsB x with
               | true => exact decide_eq_false (fun e => by
                 rcases e.2 with e | e
                 ·exact hnf e
                 ·cases e)
               | false => exact decide_eq_true ⟨htn, .inr rfl⟩
              have q1 : ((t : Int) == (P.length : Int)) = true := by simp [htn]
              have q2 : ((P.length : Int) == (fr : Int)) = false := beq_eq_false_iff_ne.2 (by omega)
              have wt : (P.length : Int) - 1 = (mm : Int) := by omega
              have wm : IntKind.i64.wrap (mm : Int) = (mm : Int) := IntWalk.i64_in _ ⟨by omega, by omega⟩
              have ml : (mm : Int) < (P.length : Int) := by omega
              have HEn := hideW (ends_any x)
              unfold Pc.val at HEn
              have HEl := hideW el
              clear hx el htn hnf hmm
              go_wp2_with fail
              refine (HEn.out _).mono ?_
              rintro e w3 ⟨rfl, b3⟩
              have HQ3 := hideW (HQ.out.step b3)
              clear b3
              go_wp2_with fail
              go_meet
              case rel => exact ⟨by rw [HEl.out], HQ3.out⟩
            ·have el : lst = false := by rw [HLs.out]; simp [htn]
             subst el
             have q1 : ((t : Int) == (P.length : Int)) = false := beq_eq_false_iff_ne.2 (by omega)
             clear htn
             go_wp2_with fail
             go_meet
             case rel => exact ⟨rfl, HQ.out⟩
          case rest =>
           as_aux_lemma =>
            obtain ⟨rfl, hTQ⟩ := hcut
            clear HQ
            have HQ := hideW hTQ
            clear hTQ
            obtain ⟨wq, rfl⟩ : ∃ wq, wq = wc := ⟨_, rfl⟩
            obtain ⟨tb, htb⟩ : ∃ tb : Bool, tb = decide (fr < t ∧ 0 < kindRL P t) := ⟨_, rfl⟩
            have HTb := hideW htb
            clear htb
            go_upto_region 24 with fail
            go_cut [94] (fun tv wx => tv = .bool tb ∧ TQ w wx G P D fr m (b.getD be0) Q')
            case first =>
             as_aux_lemma =>
              by_cases hft2 : fr < t
              ·have gt : (fr : Int) < (t : Int) := by omega
               have kc := (HQ.out.ic.at (kindsL_at P t (by omega) htl)).1
               have tl3 : (t : Int) < (P.length : Int) + 1 := by omega
               obtain ⟨kk, hkk⟩ : ∃ kk, kindRL P t = kk := ⟨_, rfl⟩
               rw [hkk] at kc
               have HKk := hideW hkk
               clear hkk
               go_wp2_with fail
               go_meet
               case rel => exact ⟨by rw [HTb.out, HKk.out]; simp [hft2], HQ.out⟩
              ·have gt : ¬ (fr : Int) < (t : Int) := by omega
               go_wp2_with fail
               go_meet
               case rel => exact ⟨by rw [HTb.out]; simp [hft2], HQ.out⟩
            case rest =>
             as_aux_lemma =>
              obtain ⟨rfl, hTQ⟩ := hcut
              clear HQ
              have HQ := hideW hTQ
              clear hTQ
              obtain ⟨wq, rfl⟩ : ∃ wq, wq = wc := ⟨_, rfl⟩
              obtain ⟨b1, hb1⟩ : ∃ b1, b1F D T fr t b = b1 := ⟨_, rfl⟩
              have HB1 := hideW hb1
              clear hb1
              go_upto_if 94 with fail
              go_cut [9] (fun fo wx => fo = .bool b1.isSome ∧ ∃ Q1, TQ w wx G P D fr m (b1.getD be0) Q1)
              case first =>
               as_aux_lemma =>
                cases tb with
                | false =>
                 have hpl : ¬ (fr < t ∧ 0 < kindRL P t) := of_decide_eq_false HTb.out.symm
                 have eb : b1 = b := by
                  rw [← HB1.out]
                  unfold b1F
                  rw [HDk.out, if_neg hpl]
                 subst eb
                 go_wp2_with fail
                 go_meet
                 case rel => exact ⟨rfl, Q', HQ.out⟩
                | true =>
                 have hpl : fr < t ∧ 0 < kindRL P t := of_decide_eq_true HTb.out.symm
                 have hpt : Q'[t]? = some (T t) := by
                  have h1 := HTt.out t hpl.1 htl
                  rw [← HQ.out.dr, List.getElem?_drop, show fr + 1 + (t - fr - 1) = t by omega] at h1
                  exact h1
                 have hbd := HBd.out m (by omega) (T t) (List.mem_of_getElem? (HTt.out t hpl.1 htl))
                 have kc := (HQ.out.ic.at (kindsL_at P t (by omega) htl)).1
                 have hX : plC D T fr t = ⟨(wd - wv) * (wd - wv) + (T t).bad + (if kindRL P t = 3 then 1048576 else 0), 1 + (T t).cnt, t⟩ := by
                  unfold plC
                  rw [hDwd, HWv.out, HDk.out]
                 obtain ⟨⟨c0, c1, _⟩, _⟩ := HQ.out.tc.at hpt
                 obtain ⟨⟨r0, r1, r2⟩, f0, f1, f2⟩ := HQ.out.tc.at HQ.out.here
                 obtain ⟨pb, hpb⟩ : ∃ pb, (T t).bad = pb := ⟨_, rfl⟩
                 obtain ⟨pc, hpc⟩ : ∃ pc, (T t).cnt = pc := ⟨_, rfl⟩
                 rw [hpb] at c0 hX hbd
                 rw [hpc] at c1 hX hbd
                 have HEb : Hid (b1 = updE b (plC D T fr t)) := hideW (by
                  rw [← HB1.out]
                  unfold b1F
                  rw [HDk.out, if_pos hpl])
                 obtain ⟨kk, hkk⟩ : ∃ kk, kindRL P t = kk := ⟨_, rfl⟩
                 rw [hkk] at kc hX
                 have tl3 : (t : Int) < (P.length : Int) + 1 := by omega
                 have fl3 : (fr : Int) < (P.length : Int) + 1 := by omega
                 have hGl := HQ.out.tc.lt
                 have hIl := HQ.out.ic.lt
                 have wp : IntKind.i64.wrap ((wd - wv) * (wd - wv) + pb) = (wd - wv) * (wd - wv) + pb := IntWalk.i64_in _ ⟨by omega, by omega⟩
                 have wn : IntKind.i64.wrap (1 + pc) = 1 + pc := IntWalk.i64_in _ ⟨by omega, by omega⟩
                 have wp3 : IntKind.i64.wrap ((wd - wv) * (wd - wv) + pb + 1048576) = (wd - wv) * (wd - wv) + pb + 1048576 := IntWalk.i64_in _ ⟨by omega, by omega⟩
                 obtain ⟨XB, hXB⟩ : ∃ XB, (wd - wv) * (wd - wv) + pb + (if kk = 3 then 1048576 else 0) = XB := ⟨_, rfl⟩
                 rw [hXB] at hX
                 rw [hX] at HEb
                 have HXB := hideW hXB
                 clear hX hpt hpb hpc hkk hXB hpl hbd
                 go_wp2_with fail
                 go_region_held3 (fun w' => w'.cell? ⟨G, t * 3, none⟩ = some (.int .i64 pb) ∧ w'.cell? ⟨G, t * 3 + 1, none⟩ = some (.int .i64 pc)) (first | go_keep | assumption) (fail)
                 have hb5 : Below wq.heap.size wq (wq.alloc (.cells #[.int .i64 ((wd - wv) * (wd - wv) + pb), .int .i64 (1 + pc), .int .i64 (t : Nat)] 96)).drew := (bel1W wq _).drew
                 have n5 : (wq.alloc (.cells #[.int .i64 ((wd - wv) * (wd - wv) + pb), .int .i64 (1 + pc), .int .i64 (t : Nat)] 96)).drew.heap[wq.heap.size]? = some (.cells #[.int .i64 ((wd - wv) * (wd - wv) + pb), .int .i64 (1 + pc), .int .i64 (t : Nat)] 96) := World.alloc_heap_new wq _
                 generalize (wq.alloc (.cells #[.int .i64 ((wd - wv) * (wd - wv) + pb), .int .i64 (1 + pc), .int .i64 (t : Nat)] 96)).drew = wx at hb5 n5 ⊢
                 have kc5 : wx.cell? ⟨w.heap.size, t, none⟩ = some (.int .i64 kk) := (hb5.cell (p := ⟨w.heap.size, t, none⟩) hIl).trans kc
                 have x5 : wx.cell? ⟨wq.heap.size, 0, none⟩ = some (.int .i64 ((wd - wv) * (wd - wv) + pb)) := by simp [World.cell?, n5]
                 have z5 : wx.frozen? ⟨wq.heap.size, 0, none⟩ = false := by simp [World.frozen?, n5]
                 have H5 := hideW (And.intro hb5 n5)
                 clear hb5 n5 c0 c1 r0 r1 r2 f0 f1 f2 kc
                 go_upto_if 120 with fail
                 go_cut [] (fun wy => Below wq.heap.size wq wy ∧ wy.heap[wq.heap.size]? = some (.cells #[.int .i64 XB, .int .i64 (1 + pc), .int .i64 (t : Nat)] 96))
                 case first =>
                  as_aux_lemma =>
                   by_cases hk3 : kk = 3
                   ·have k3 : (kk == 3) = true := by simp [hk3]
                    have eX : XB = (wd - wv) * (wd - wv) + pb + 1048576 := by rw [← HXB.out, if_pos hk3]
                    clear hk3
                    subst eX
                    go_wp2_with fail
                    go_meet
                    case rel => exact ⟨H5.out.1.setCell (by simp) _, set_at H5.out.2 0 _⟩
                   ·have k3 : (kk == 3) = false := beq_eq_false_iff_ne.2 hk3
                    have eX : XB = (wd - wv) * (wd - wv) + pb := by rw [← HXB.out, if_neg hk3]; omega
                    clear hk3
                    subst eX
                    go_wp2_with fail
                    go_meet
                    case rel => exact ⟨H5.out.1, H5.out.2⟩
                 case rest =>
                  as_aux_lemma =>
                   obtain ⟨hbY, nY⟩ := hcut
                   clear H5 x5 z5 kc5
                   obtain ⟨wy, rfl⟩ : ∃ wy, wy = wc := ⟨_, rfl⟩
                   have TY := HQ.out.step hbY
                   have ⟨v0, v1, v2⟩ : wy.cell? ⟨wq.heap.size, 0, none⟩ = some (.int .i64 XB) ∧ wy.cell? ⟨wq.heap.size, 1, none⟩ = some (.int .i64 (1 + pc)) ∧ wy.cell? ⟨wq.heap.size, 2, none⟩ = some (.int .i64 (t : Nat)) := by simp [World.cell?, nY]
                   have hlY : wq.heap.size < wy.heap.size := (Array.getElem?_eq_some_iff.1 nY).1
                   obtain ⟨⟨r0, r1, r2⟩, f0, f1, f2⟩ := TY.tc.at TY.here
                   have HTY := hideW TY
                   obtain ⟨fb, hfb⟩ : ∃ fb, b.isSome = fb := ⟨_, rfl⟩
                   rw [hfb]
                   clear TY nY hbY
                   cases b with
                   | none =>
                    obtain rfl : fb = false := hfb.symm
                    have eb : b1 = some ⟨XB, (1 + pc), t⟩ := HEb.out
                    subst eb
                    go_wp2_with fail
                    go_quiet (fail)
                    have a0 : (wy.drewN nq).frozen? ⟨G, fr * 3, none⟩ = false := f0
                    have g0 : (wy.drewN nq).cell? ⟨G, fr * 3, none⟩ = _ := r0
                    have b3 : (wy.drewN nq).cell? ⟨wq.heap.size, 0, none⟩ = _ := v0
                    have a1 : (wy.drewN nq).frozen? ⟨G, fr * 3 + 1, none⟩ = false := f1
                    have g1 : (wy.drewN nq).cell? ⟨G, fr * 3 + 1, none⟩ = _ := r1
                    have b4 : (wy.drewN nq).cell? ⟨wq.heap.size, 1, none⟩ = _ := v1
                    have a2 : (wy.drewN nq).frozen? ⟨G, fr * 3 + 2, none⟩ = false := f2
                    have g2 : (wy.drewN nq).cell? ⟨G, fr * 3 + 2, none⟩ = _ := r2
                    have b5 : (wy.drewN nq).cell? ⟨wq.heap.size, 2, none⟩ = _ := v2
                    have HP := hideW ((HTY.out.step (below_dnC (Below.refl _ _) nq)).put ⟨XB, (1 + pc), t⟩)
                    go_wp2_with fail
                    go_meet
                    case rel => exact ⟨rfl, _, HP.out⟩
                   | some y =>
                    obtain rfl : fb = true := hfb.symm
                    have eb : b1 = if lessE ⟨XB, (1 + pc), t⟩ y = true then some ⟨XB, (1 + pc), t⟩ else some y := HEb.out
                    have HLe : Hid (∀ U : World, Calls Tryz.prog 82 #[.agg #[.int .i64 XB, .int .i64 (1 + pc), .int .i64 (t : Nat)], .agg #[.int .i64 y.bad, .int .i64 y.cnt, .int .i64 (y.nxt : Nat)]] U fun e w' => e = .returned (.bool (lessE ⟨XB, (1 + pc), t⟩ y)) ∧ Below U.heap.size U w') := rless_any ⟨XB, (1 + pc), t⟩ y
                    simp only [Option.getD_some] at r0 r1 r2
                    cases hle : lessE ⟨XB, (1 + pc), t⟩ y with
                    | true =>
                     rw [hle] at HLe eb
                     have eb : b1 = some ⟨XB, (1 + pc), t⟩ := eb
                     subst eb
                     clear hle
                     go_wp2_with fail
                     go_region_held3 (fun w' => w'.cell? ⟨wq.heap.size, 0, none⟩ = some (.int .i64 XB) ∧ w'.cell? ⟨wq.heap.size, 1, none⟩ = some (.int .i64 (1 + pc)) ∧ w'.cell? ⟨wq.heap.size, 2, none⟩ = some (.int .i64 (t : Nat)) ∧ w'.cell? ⟨G, fr * 3, none⟩ = some (.int .i64 y.bad) ∧ w'.cell? ⟨G, fr * 3 + 1, none⟩ = some (.int .i64 y.cnt) ∧ w'.cell? ⟨G, fr * 3 + 2, none⟩ = some (.int .i64 (y.nxt : Nat))) (first | go_keep | assumption | exact ⟨s0, s1, s2, s3, s4, s5⟩) (first | (go_at_call 82; (with_reducible refine (HLe.out _).mono ?_); rintro e w8 ⟨rfl, b8⟩; have b8 : Below wy.heap.size wy w8 := (by first | exact ⟨b8.os, b8.tape, b8.output, b8.size, b8.block⟩ | exact b8); have s0 := (b8.cell (p := ⟨wq.heap.size, 0, none⟩) hlY).trans v0; have s1 := (b8.cell (p := ⟨wq.heap.size, 1, none⟩) hlY).trans v1; have s2 := (b8.cell (p := ⟨wq.heap.size, 2, none⟩) hlY).trans v2; have T8 := HTY.out.step b8; have ⟨⟨s3, s4, s5⟩, a0, a1, a2⟩ := T8.tc.at T8.here; simp only [Option.getD_some] at s3 s4 s5; have HT8 := hideW T8; clear T8 b8))
                     have HP := hideW (HT8.out.put ⟨XB, (1 + pc), t⟩)
                     go_wp2_with fail
                     go_meet
                     case rel => exact ⟨rfl, _, HP.out⟩
                    | false =>
                     rw [hle] at HLe eb
                     have eb : b1 = some y := eb
                     subst eb
                     clear hle
                     go_wp2_with fail
                     go_region_held3 (fun w' => w'.cell? ⟨wq.heap.size, 0, none⟩ = some (.int .i64 XB) ∧ w'.cell? ⟨wq.heap.size, 1, none⟩ = some (.int .i64 (1 + pc)) ∧ w'.cell? ⟨wq.heap.size, 2, none⟩ = some (.int .i64 (t : Nat)) ∧ w'.cell? ⟨G, fr * 3, none⟩ = some (.int .i64 y.bad) ∧ w'.cell? ⟨G, fr * 3 + 1, none⟩ = some (.int .i64 y.cnt) ∧ w'.cell? ⟨G, fr * 3 + 2, none⟩ = some (.int .i64 (y.nxt : Nat))) (first | go_keep | assumption | exact ⟨s0, s1, s2, s3, s4, s5⟩) (first | (go_at_call 82; (with_reducible refine (HLe.out _).mono ?_); rintro e w8 ⟨rfl, b8⟩; have b8 : Below wy.heap.size wy w8 := (by first | exact ⟨b8.os, b8.tape, b8.output, b8.size, b8.block⟩ | exact b8); have s0 := (b8.cell (p := ⟨wq.heap.size, 0, none⟩) hlY).trans v0; have s1 := (b8.cell (p := ⟨wq.heap.size, 1, none⟩) hlY).trans v1; have s2 := (b8.cell (p := ⟨wq.heap.size, 2, none⟩) hlY).trans v2; have T8 := HTY.out.step b8; have ⟨⟨s3, s4, s5⟩, a0, a1, a2⟩ := T8.tc.at T8.here; simp only [Option.getD_some] at s3 s4 s5; have HT8 := hideW T8; clear T8 b8))
                     go_wp2_with fail
                     go_meet
                     case rel => exact ⟨rfl, _, HT8.out⟩
              case rest =>
               as_aux_lemma =>
                obtain ⟨rfl, Q1, hTQ⟩ := hcut
                clear HQ
                have HQ := hideW hTQ
                clear hTQ HTb
                obtain ⟨wq, rfl⟩ : ∃ wq, wq = wc := ⟨_, rfl⟩
                obtain ⟨b2, hb2⟩ : ∃ b2, b2F D fr t b1 = b2 := ⟨_, rfl⟩
                have HB2 := hideW hb2
                clear hb2
                go_upto_if 139 with fail
                go_cut [9] (fun fo wx => fo = .bool b2.isSome ∧ ∃ Q2, TQ w wx G P D fr m (b2.getD be0) Q2)
                case first =>
                 as_aux_lemma =>
                  cases lst with
                  | false =>
                   have hnl : ¬ (t = P.length ∧ (P.length = fr ∨ enP P = false)) := of_decide_eq_false HLs.out.symm
                   have eb : b2 = b1 := by
                    rw [← HB2.out]
                    unfold b2F
                    rw [hDn, HDe.out, if_neg hnl]
                   subst eb
                   go_wp2_with fail
                   go_meet
                   case rel => exact ⟨rfl, Q1, HQ.out⟩
                  | true =>
                   have hnl : t = P.length ∧ (P.length = fr ∨ enP P = false) := of_decide_eq_true HLs.out.symm
                   have hX : fnC D fr = ⟨((wd - wv) * (wd - wv)), 0, 0⟩ := by
                    unfold fnC
                    rw [hDn, ← hnl.1, HWv.out, hDwd]
                   have HEb : Hid (b2 = updE b1 (fnC D fr)) := hideW (by
                    rw [← HB2.out]
                    unfold b2F
                    rw [hDn, HDe.out, if_pos hnl])
                   rw [hX] at HEb
                   have fl3 : (fr : Int) < (P.length : Int) + 1 := by omega
                   clear hX hnl
                   go_upto_region 33 with fail
                   have hbY := bel1W wq (.cells #[.int .i64 ((wd - wv) * (wd - wv)), .int .i64 0, .int .i64 0] 96)
                   have nY := World.alloc_heap_new wq (.cells #[.int .i64 ((wd - wv) * (wd - wv)), .int .i64 0, .int .i64 0] 96)
                   generalize wq.alloc (.cells #[.int .i64 ((wd - wv) * (wd - wv)), .int .i64 0, .int .i64 0] 96) = wy at hbY nY ⊢
                   have TY := HQ.out.step hbY
                   have ⟨v0, v1, v2⟩ : wy.cell? ⟨wq.heap.size, 0, none⟩ = some (.int .i64 ((wd - wv) * (wd - wv))) ∧ wy.cell? ⟨wq.heap.size, 1, none⟩ = some (.int .i64 0) ∧ wy.cell? ⟨wq.heap.size, 2, none⟩ = some (.int .i64 0) := by simp [World.cell?, nY]
                   have hlY : wq.heap.size < wy.heap.size := (Array.getElem?_eq_some_iff.1 nY).1
                   obtain ⟨⟨r0, r1, r2⟩, f0, f1, f2⟩ := TY.tc.at TY.here
                   have HTY := hideW TY
                   obtain ⟨fb, hfb⟩ : ∃ fb, b1.isSome = fb := ⟨_, rfl⟩
                   rw [hfb]
                   clear TY nY hbY
                   cases b1 with
                   | none =>
                    obtain rfl : fb = false := hfb.symm
                    have eb : b2 = some ⟨((wd - wv) * (wd - wv)), 0, 0⟩ := HEb.out
                    subst eb
                    go_wp2_with fail
                    go_quiet (fail)
                    have a0 : (wy.drewN nq).frozen? ⟨G, fr * 3, none⟩ = false := f0
                    have g0 : (wy.drewN nq).cell? ⟨G, fr * 3, none⟩ = _ := r0
                    have b3 : (wy.drewN nq).cell? ⟨wq.heap.size, 0, none⟩ = _ := v0
                    have a1 : (wy.drewN nq).frozen? ⟨G, fr * 3 + 1, none⟩ = false := f1
                    have g1 : (wy.drewN nq).cell? ⟨G, fr * 3 + 1, none⟩ = _ := r1
                    have b4 : (wy.drewN nq).cell? ⟨wq.heap.size, 1, none⟩ = _ := v1
                    have a2 : (wy.drewN nq).frozen? ⟨G, fr * 3 + 2, none⟩ = false := f2
                    have g2 : (wy.drewN nq).cell? ⟨G, fr * 3 + 2, none⟩ = _ := r2
                    have b5 : (wy.drewN nq).cell? ⟨wq.heap.size, 2, none⟩ = _ := v2
                    have HP := hideW ((HTY.out.step (below_dnC (Below.refl _ _) nq)).put ⟨((wd - wv) * (wd - wv)), 0, 0⟩)
                    go_wp2_with fail
                    go_meet
                    case rel => exact ⟨rfl, _, HP.out⟩
                   | some y =>
                    obtain rfl : fb = true := hfb.symm
                    have eb : b2 = if lessE ⟨((wd - wv) * (wd - wv)), 0, 0⟩ y = true then some ⟨((wd - wv) * (wd - wv)), 0, 0⟩ else some y := HEb.out
                    have HLe : Hid (∀ U : World, Calls Tryz.prog 82 #[.agg #[.int .i64 ((wd - wv) * (wd - wv)), .int .i64 0, .int .i64 0], .agg #[.int .i64 y.bad, .int .i64 y.cnt, .int .i64 (y.nxt : Nat)]] U fun e w' => e = .returned (.bool (lessE ⟨((wd - wv) * (wd - wv)), 0, 0⟩ y)) ∧ Below U.heap.size U w') := rless_any ⟨((wd - wv) * (wd - wv)), 0, 0⟩ y
                    simp only [Option.getD_some] at r0 r1 r2
                    cases hle : lessE ⟨((wd - wv) * (wd - wv)), 0, 0⟩ y with
                    | true =>
                     rw [hle] at HLe eb
                     have eb : b2 = some ⟨((wd - wv) * (wd - wv)), 0, 0⟩ := eb
                     subst eb
                     clear hle
                     go_wp2_with fail
                     go_region_held3 (fun w' => w'.cell? ⟨wq.heap.size, 0, none⟩ = some (.int .i64 ((wd - wv) * (wd - wv))) ∧ w'.cell? ⟨wq.heap.size, 1, none⟩ = some (.int .i64 0) ∧ w'.cell? ⟨wq.heap.size, 2, none⟩ = some (.int .i64 0) ∧ w'.cell? ⟨G, fr * 3, none⟩ = some (.int .i64 y.bad) ∧ w'.cell? ⟨G, fr * 3 + 1, none⟩ = some (.int .i64 y.cnt) ∧ w'.cell? ⟨G, fr * 3 + 2, none⟩ = some (.int .i64 (y.nxt : Nat))) (first | go_keep | assumption | exact ⟨s0, s1, s2, s3, s4, s5⟩) (first | (go_at_call 82; (with_reducible refine (HLe.out _).mono ?_); rintro e w8 ⟨rfl, b8⟩; have b8 : Below wy.heap.size wy w8 := (by first | exact ⟨b8.os, b8.tape, b8.output, b8.size, b8.block⟩ | exact b8); have s0 := (b8.cell (p := ⟨wq.heap.size, 0, none⟩) hlY).trans v0; have s1 := (b8.cell (p := ⟨wq.heap.size, 1, none⟩) hlY).trans v1; have s2 := (b8.cell (p := ⟨wq.heap.size, 2, none⟩) hlY).trans v2; have T8 := HTY.out.step b8; have ⟨⟨s3, s4, s5⟩, a0, a1, a2⟩ := T8.tc.at T8.here; simp only [Option.getD_some] at s3 s4 s5; have HT8 := hideW T8; clear T8 b8))
                     have HP := hideW (HT8.out.put ⟨((wd - wv) * (wd - wv)), 0, 0⟩)
                     go_wp2_with fail
                     go_meet
                     case rel => exact ⟨rfl, _, HP.out⟩
                    | false =>
                     rw [hle] at HLe eb
                     have eb : b2 = some y := eb
                     subst eb
                     clear hle
                     go_wp2_with fail
                     go_region_held3 (fun w' => w'.cell? ⟨wq.heap.size, 0, none⟩ = some (.int .i64 ((wd - wv) * (wd - wv))) ∧ w'.cell? ⟨wq.heap.size, 1, none⟩ = some (.int .i64 0) ∧ w'.cell? ⟨wq.heap.size, 2, none⟩ = some (.int .i64 0) ∧ w'.cell? ⟨G, fr * 3, none⟩ = some (.int .i64 y.bad) ∧ w'.cell? ⟨G, fr * 3 + 1, none⟩ = some (.int .i64 y.cnt) ∧ w'.cell? ⟨G, fr * 3 + 2, none⟩ = some (.int .i64 (y.nxt : Nat))) (first | go_keep | assumption | exact ⟨s0, s1, s2, s3, s4, s5⟩) (first | (go_at_call 82; (with_reducible refine (HLe.out _).mono ?_); rintro e w8 ⟨rfl, b8⟩; have b8 : Below wy.heap.size wy w8 := (by first | exact ⟨b8.os, b8.tape, b8.output, b8.size, b8.block⟩ | exact b8); have s0 := (b8.cell (p := ⟨wq.heap.size, 0, none⟩) hlY).trans v0; have s1 := (b8.cell (p := ⟨wq.heap.size, 1, none⟩) hlY).trans v1; have s2 := (b8.cell (p := ⟨wq.heap.size, 2, none⟩) hlY).trans v2; have T8 := HTY.out.step b8; have ⟨⟨s3, s4, s5⟩, a0, a1, a2⟩ := T8.tc.at T8.here; simp only [Option.getD_some] at s3 s4 s5; have HT8 := hideW T8; clear T8 b8))
                     go_wp2_with fail
                     go_meet
                     case rel => exact ⟨rfl, _, HT8.out⟩
                case rest =>
                 as_aux_lemma =>
                  obtain ⟨rfl, Q2, hTQ⟩ := hcut
                  clear HQ
                  have HQ := hideW hTQ
                  clear hTQ HLs
                  obtain ⟨wq, rfl⟩ : ∃ wq, wq = wc := ⟨_, rfl⟩
                  obtain ⟨hb, hhb⟩ : ∃ hb : Bool, hb = decide (fr < t ∧ kindRL P t = 1) := ⟨_, rfl⟩
                  have HHb := hideW hhb
                  clear hhb
                  go_upto_region 36 with fail
                  go_cut [171] (fun hv wx => hv = .bool hb ∧ TQ w wx G P D fr m (b2.getD be0) Q2)
                  case first =>
                   as_aux_lemma =>
                    by_cases hft2 : fr < t
                    ·have gt : (fr : Int) < (t : Int) := by omega
                     have kc := (HQ.out.ic.at (kindsL_at P t (by omega) htl)).1
                     have tl3 : (t : Int) < (P.length : Int) + 1 := by omega
                     obtain ⟨kk, hkk⟩ : ∃ kk, kindRL P t = kk := ⟨_, rfl⟩
                     rw [hkk] at kc
                     have HKk := hideW hkk
                     clear hkk
                     go_wp2_with fail
                     go_meet
                     case rel =>
                      refine ⟨?_, HQ.out⟩
                      rw [HHb.out, HKk.out]
                      by_cases hk1 : kk = 1
                      ·simp [hft2, hk1]
                      ·simp [hft2, hk1]
                    ·have gt : ¬ (fr : Int) < (t : Int) := by omega
                     go_wp2_with fail
                     go_meet
                     case rel => exact ⟨by rw [HHb.out]; simp [hft2], HQ.out⟩
                  case rest =>
                   as_aux_lemma =>
                    obtain ⟨rfl, hTQ⟩ := hcut
                    clear HQ
                    have HQ := hideW hTQ
                    clear hTQ
                    obtain ⟨wq, rfl⟩ : ∃ wq, wq = wc := ⟨_, rfl⟩
                    have hfo := HFo.out
                    rw [HB1.out, HB2.out, HDk.out] at hfo
                    cases hb with
                    | true =>
                     have hh : fr < t ∧ kindRL P t = 1 := of_decide_eq_true HHb.out.symm
                     rw [if_pos hh] at hfo
                     have er : b2 = R := hfo
                     subst er
                     clear hfo hh
                     go_wp2_with fail
                     go_meet
                     case rel => exact ⟨Q2, HQ.out⟩
                    | false =>
                     have hh : ¬ (fr < t ∧ kindRL P t = 1) := of_decide_eq_false HHb.out.symm
                     rw [if_neg hh] at hfo
                     have HN : Hid ((candGo D T fr (P.length + 1 - (t + 1)) (t + 1)).foldl updE b2 = R) := hideW (by rw [show P.length + 1 - (t + 1) = f by omega]; exact hfo)
                     have HH := hideW hh
                     have wi : IntKind.i64.wrap ((t : Int) + 1) = (t : Int) + 1 := IntWalk.i64_in _ ⟨by omega, by omega⟩
                     clear hfo hh
                     go_wp2_with fail
                     go_roundw
                     case rel =>
                      refine ⟨t + 1, b2, Q2, rfl, by rw [show t + 1 - 1 - fr = t - fr by omega, HCL.out.1], by rw [show t + 1 - 1 - fr = t - fr by omega, HCL.out.2], by simp, by omega, by omega, fun j a c e => ?_, HN, HQ.out⟩
                      by_cases hj : j = t
                      ·subst hj
                       exact HH.out ⟨a, e⟩
                      ·exact HKn.out j a (by omega) e
                     case measure => simp [intOf]; omega
      ·obtain rfl : t = P.length + 1 := by omega
       have er : b = R := by
        have h := HA.out
        rw [Nat.sub_self] at h
        exact h
       subst er
       have tl : ¬ ((P.length + 1 : Nat) : Int) ≤ (P.length : Int) := by omega
       have tl2 : ¬ (P.length : Int) + 1 ≤ (P.length : Int) := by omega
       have HQ := hideW hTQ
       clear hTQ
       go_wp2_with fail
       go_meet
       case rel => exact ⟨Q', HQ.out⟩
end Go.Proofs.YtlkgnheccoodpaaGreatDoor
