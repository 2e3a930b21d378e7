import Derived.Test.YtlkgnheccoodpaaGreatDoorGL
import Derived.Test.YtlkgnheccoodpaaGreatDoorGR
namespace Go.Proofs.YtlkgnheccoodpaaGreatDoor
open Go.RowKit Go.Shelf
attribute [local go_sem] Oper.semAt_some
theorem step_spans2 {P : Program} (w : World) {ops : Array Oper} {o : Oper} {a : Act} {K : Act → World → Prop} {Q : Exit → Act → World → Prop} {E : Prop} (hg : o.guard = none) (s x : Operand) (t : TypeId)
  (ho : o.op = .call { callee := .builtin .append, args := #[s, x], argTypes := #[t, t] })
  (base : Nat) (e : TypeId) (i : TypeInfo) (z : Value) (size bytes : Nat) (ht : P.underlying t = some (.slice e)) (hi : P.info? e = some i) (hz : i.zero = some z)
  (hsize : i.size = size) (hby : i.bytes = bytes) (hzs : z.cells.size = size) (hsz : 0 < size)
  (v : Value) (n : Nat) (xs : List Value) (hs : a.eval s = v) (hown : w.ownsRow base e size v n xs)
  (oa : Option Addr) (m c : Nat) (news : List Value) (hx : a.eval x = .slice oa m c) (hn : oa = none → m = 0 ∧ c = 0) (hl : news.length = m * size) (hnews : ∀ ad, oa = some ad → ∀ j u, news[j]? = some u → w.cell? (ad.add j) = some u) (h1 : ∀ u ∈ news, u.oneCell' = true)
  (h63 : n + m ≤ maxLen) (hbytes : (n + m) * bytes ≤ 140737488355328) (hbase : base ≤ w.heap.size)
  (h : ∀ v' w', w'.ownsRow base e size v' (n + m) (xs ++ news) → w.grownBy w' v.ownBlock → K (a.put o.dst v') w') :
  if Region.wanted o (yielded ops a.tmps) = true then Oper.wp P o a w K Q else E := by
 have hw : Region.wanted o (yielded ops a.tmps) = true := by simp [Region.wanted, hg]
 rw [if_pos hw]
 cases oa with
 | none =>
  obtain ⟨rfl, rfl⟩ := hn rfl
  have hbv : news = [] := List.length_eq_zero_iff.1 (by rw [hl, Nat.zero_mul])
  subst hbv
  have h2 := h v w (by rw [List.append_nil]; exact hown) (World.grownBy.refl w _)
  have hrun := run_append_owned_none (P := P) (w := w) base t o.type e i size ht hi v n xs hown
  unfold Oper.wp
  simp [execOp, ho, resolve, invoke, builtin, hs, hx, hrun, Result.andThen]
  exact h2
 | some ad => exact wp_append_own w s x t ho base e i z size bytes ht hi hz hsize hby hzs hsz v n xs hs hown ad m c news hx hl (hnews ad rfl) h1 h63 hbytes hbase fun v' w' h2 h3 _ => h v' w' h2 h3
theorem own_read9 {W : World} {base n : Nat} {v : Value} {Q : List Sp} (h : W.ownsRow base 42 4 v n (flat4 Q)) (hn : Q.length = n) : ∃ o cap, v = .slice o n cap ∧ (n ≤ cap ∧ cap ≤ maxLen) ∧ SpO W o Q ∧ (∀ a, o = some a → base ≤ a.block) := by
 obtain ⟨o, cap, e, hc, _, hs, hel⟩ := own_sc h hn
 refine ⟨o, cap, e, hc, ?_, fun a ha => ?_⟩
 ·cases o with
  | none => rw [hel rfl]; exact SpO.nil _ _
  | some ad =>
   obtain ⟨g, rfl, _, hsc⟩ := hs ad rfl
   exact hsc.spo
 ·obtain ⟨g, rfl, hg, _⟩ := hs a ha
  exact hg
theorem take_snoc9 {α : Type} {L : List α} {k : Nat} {p : α} (h : L[k]? = some p) : L.take (k + 1) = L.take k ++ [p] := by rw [List.take_add_one, h]; rfl
theorem sp_cells9 {W : World} {G : Nat} {a b c d : Value} (h : W.heap[G]? = some (.cells #[a, b, c, d] 42)) : W.cell? ⟨G, 0, none⟩ = some a ∧ W.cell? ⟨G, 1, none⟩ = some b ∧ W.cell? ⟨G, 2, none⟩ = some c ∧ W.cell? ⟨G, 3, none⟩ = some d ∧ W.frozen? ⟨G, 0, none⟩ = false ∧ W.frozen? ⟨G, 1, none⟩ = false := by
 simp [World.cell?, World.frozen?, h]
theorem splM_ok (s : ByteArray) (D : List Sp) (i j n : Nat) (u : ByteArray) (E : List Sp) (x y : ByteArray) (m : Nat) (h1 : chkT s D = 0) (h2 : chkT u E = 0) (hn : (signs s).length = n) (hm : (signs u).length = m) (hb : betB i j n = true) (hx : cutM s 0 i = x) (hy : cutM s j n = y) :
  splM s D i j u E = if 4096 < (x ++ u ++ y).size then (3, ByteArray.empty, []) else if meltsB x u = true then (22, ByteArray.empty, []) else if meltsB (x ++ u) y = true then (22, ByteArray.empty, [])
   else if 256 < (aroundM i j m (isort ltS D) ++ E.map (mvS i)).length then (2, ByteArray.empty, []) else (0, x ++ u ++ y, aroundM i j m (isort ltS D) ++ E.map (mvS i)) := by
 unfold splM
 rw [h1, h2, hn, hm, hb, if_neg (by simp), if_neg (by simp), if_neg (by simp), Int.toNat_natCast, Int.toNat_natCast, hx, hy, glue3]
 by_cases c1 : 4096 < (x ++ u ++ y).size
 ·rw [if_pos c1, if_pos c1]
  rfl
 ·rw [if_neg c1, if_neg c1]
  by_cases c2 : meltsB x u = true
  ·rw [if_pos c2, if_pos c2]
   rfl
  ·rw [if_neg c2, if_neg c2]
   by_cases c3 : meltsB (x ++ u) y = true
   ·rw [if_pos c3, if_pos c3]
    rfl
   ·rw [if_neg c3, if_neg c3, if_neg (by simp)]
set_option maxRecDepth 100000 in
set_option maxHeartbeats 4000000 in
theorem rsplice_any (s u : ByteArray) (D E : List Sp) (oa ob : Option Addr) (ca cb : Nat) (a b : Int) (hnb : ob = none → E = [] ∧ cb = 0) (w : World) (hRa : SpO w oa D) (hRb : SpO w ob E) :
  Calls Tryz.prog 26 #[.agg #[.string s, .slice oa D.length ca], .int .i64 a, .int .i64 b, .agg #[.string u, .slice ob E.length cb]] w (SplAns w (splM s D a b u E)) := by
 obtain ⟨i0, hi, hz0, hz1, hz2⟩ := info_parts infoSp
 have HC1 := hideS (fun (W : World) (h : Below w.heap.size w W) => rcheck_any s D oa ca W (hRa.keep h))
 have HC2 := hideS (fun (W : World) (h : Below w.heap.size w W) => rcheck_any u E ob cb W (hRb.keep h))
 obtain ⟨R, hR⟩ : ∃ R, splM s D a b u E = R := ⟨_, rfl⟩
 rw [hR]
 have HRd := hideS hR
 obtain ⟨c1, hc1⟩ : ∃ c, chkT s D = c := ⟨_, rfl⟩
 obtain ⟨c2, hc2⟩ : ∃ c, chkT u E = c := ⟨_, rfl⟩
 obtain ⟨n, hn⟩ : ∃ n, (signs s).length = n := ⟨_, rfl⟩
 obtain ⟨m, hm⟩ : ∃ m, (signs u).length = m := ⟨_, rfl⟩
 obtain ⟨ND, hND⟩ : ∃ ND, D.length = ND := ⟨_, rfl⟩
 obtain ⟨NE, hNE⟩ : ∃ NE, E.length = NE := ⟨_, rfl⟩
 have HX := hideS (And.intro (And.intro hc1 hc2) (And.intro (And.intro hn hm) (And.intro hND hNE)))
 have HY := hideS (And.intro hRa (And.intro hRb hnb))
 rw [hc1, hND] at HC1
 rw [hc2, hNE] at HC2
 rw [hND, hNE]
 clear hRa hRb hnb hR hc1 hc2 hn hm hND hNE
 obtain ⟨PO, hPO⟩ : ∃ PO : Ending → World → Prop, PO = SplAns w R := ⟨_, rfl⟩
 rw [← hPO]
 have HPO := hideS hPO
 clear hPO
 have errs : Hid (∀ (er : Int) (W : World), R = (er, ByteArray.empty, []) → Below w.heap.size w W → PO (.returned (.tuple #[.agg #[.string ByteArray.empty, .slice none 0 0], .int .i64 er])) W) := hideS (fun er W h1 h2 => by
  rw [HPO.out, h1]
  exact ⟨_, rfl, World.ownsRow_nil _ _ _ _, h2⟩)
 have hsb : ∀ (W : World) (v : Value), Below w.heap.size w W → Below w.heap.size w ((W.setCell ⟨w.heap.size + 1 + 1, 0, none⟩ (.string ⟨#[]⟩)).setCell ⟨w.heap.size + 1 + 1, 1, none⟩ v) := fun W v h => (h.setCell (p := ⟨w.heap.size + 1 + 1, 0, none⟩) (by show w.heap.size ≤ w.heap.size + 1 + 1; omega) _).setCell (p := ⟨w.heap.size + 1 + 1, 1, none⟩) (by show w.heap.size ≤ w.heap.size + 1 + 1; omega) _
 have HSB := hideS hsb
 clear hsb
 go_enter Tryz.func26, Tryz.ntmps26
 go_wp2_with fail
 obtain ⟨W0, hW0⟩ : ∃ W0, ((w.alloc (.cells #[.string s, .slice oa ND ca] 24)).alloc (.cells #[.string u, .slice ob NE cb] 24)).alloc (.cells #[.string ⟨#[]⟩, .slice none 0 0] 24) = W0 := ⟨_, rfl⟩
 have t0 : Tx W0 w.heap.size (.string s) (.slice oa ND ca) := by rw [← hW0]; exact ((Tx.new w _ _).keep (bel1S _ _)).keep (bel1S _ _)
 have t1 : Tx W0 (w.heap.size + 1) (.string u) (.slice ob NE cb) := by
  rw [← hW0]
  have h9 := Tx.new (w.alloc (.cells #[.string s, .slice oa ND ca] 24)) (.string u) (.slice ob NE cb)
  rw [World.size_alloc] at h9
  exact h9.keep (bel1S _ _)
 have t2 : Tx W0 (w.heap.size + 1 + 1) (.string ⟨#[]⟩) (.slice none 0 0) := by
  rw [← hW0]
  have h9 := Tx.new ((w.alloc (.cells #[.string s, .slice oa ND ca] 24)).alloc (.cells #[.string u, .slice ob NE cb] 24)) (.string ⟨#[]⟩) (.slice none 0 0)
  rw [World.size_alloc, World.size_alloc] at h9
  exact h9
 have b0 : Below w.heap.size w W0 := by rw [← hW0]; exact bupS (bel1S _ _) (bupS (bel1S _ _) (bel1S _ _))
 rw [hW0]
 have H0 := hideS (And.intro t0 (And.intro t1 (And.intro t2 b0)))
 clear hW0 t0 t1 t2 b0
 refine (HC1.out W0 H0.out.2.2.2).mono ?_
 rintro e w1 ⟨rfl, b1⟩
 have H1 := hideS (show Tx w1 w.heap.size (.string s) (.slice oa ND ca) ∧ Tx w1 (w.heap.size + 1) (.string u) (.slice ob NE cb) ∧ Tx w1 (w.heap.size + 1 + 1) (.string ⟨#[]⟩) (.slice none 0 0) ∧ Below w.heap.size w w1 from ⟨H0.out.1.keep b1, H0.out.2.1.keep b1, H0.out.2.2.1.keep b1, bupS H0.out.2.2.2 b1⟩)
 clear b1 H0 HC1
 by_cases e1 : c1 = 0
 ·subst e1
  obtain ⟨k0, k1, _, _⟩ := H1.out.2.1.cells
  go_wp2_with fail
  refine (HC2.out w1 H1.out.2.2.2).mono ?_
  rintro e w2 ⟨rfl, b2⟩
  have H2 := hideS (show Tx w2 w.heap.size (.string s) (.slice oa ND ca) ∧ Tx w2 (w.heap.size + 1) (.string u) (.slice ob NE cb) ∧ Tx w2 (w.heap.size + 1 + 1) (.string ⟨#[]⟩) (.slice none 0 0) ∧ Below w.heap.size w w2 from ⟨H1.out.1.keep b2, H1.out.2.1.keep b2, H1.out.2.2.1.keep b2, bupS H1.out.2.2.2 b2⟩)
  clear b2 H1 HC2 k0 k1
  by_cases e2 : c2 = 0
  ·subst e2
   have hok1 := chkT_ok HX.out.1.1
   have hok2 := chkT_ok HX.out.1.2
   have HCt := hideS (fun (W : World) => rcountR s (by omega) W)
   have HCu := hideS (fun (W : World) => rcountR u (by omega) W)
   rw [HX.out.2.1.1] at HCt
   rw [HX.out.2.1.2] at HCu
   have hin := chk_in HX.out.1.1
   have hn4 := signs_le s
   have hm4 := signs_le u
   rw [HX.out.2.1.1] at hn4 hin
   rw [HX.out.2.1.2] at hm4
   rw [HX.out.2.2.1] at hok1
   rw [HX.out.2.2.2] at hok2
   have HIn := hideS hin
   clear hin
   obtain ⟨k0, k1, _, _⟩ := H2.out.1.cells
   go_wp2_with fail
   refine (HCt.out w2).mono ?_
   rintro e w3 ⟨rfl, b3⟩
   have H3 := hideS (show Tx w3 w.heap.size (.string s) (.slice oa ND ca) ∧ Tx w3 (w.heap.size + 1) (.string u) (.slice ob NE cb) ∧ Tx w3 (w.heap.size + 1 + 1) (.string ⟨#[]⟩) (.slice none 0 0) ∧ Below w.heap.size w w3 from ⟨H2.out.1.keep b3, H2.out.2.1.keep b3, H2.out.2.2.1.keep b3, bupS H2.out.2.2.2 b3⟩)
   clear b3 H2 k0 k1
   go_wp2_with fail
   refine (may_any a b n w3).mono ?_
   rintro e w4 ⟨rfl, rfl⟩
   obtain ⟨bt, hbt⟩ : ∃ bt, betB a b n = bt := ⟨_, rfl⟩
   rw [show decide (0 ≤ a ∧ a ≤ b ∧ b ≤ n) = bt from hbt]
   cases bt with
   | false =>
    obtain ⟨k0, k1, f0, f1⟩ := H3.out.2.2.1.cells
    have HE := hideS (errs.out 1 _ (by
     rw [← HRd.out]
     unfold splM
     rw [HX.out.1.1, HX.out.1.2, HX.out.2.1.1, hbt]
     rfl) (HSB.out w4 (.slice none 0 0) H3.out.2.2.2))
    have t9 := H3.out.2.2.1.set (.string ⟨#[]⟩) (.slice none 0 0)
    go_wp2_with fail
    generalize ((w4.setCell ⟨w.heap.size + 1 + 1, 0, none⟩ (.string ⟨#[]⟩)).setCell ⟨w.heap.size + 1 + 1, 1, none⟩ (.slice none 0 0)) = W9 at *
    obtain ⟨r0, r1, _, _⟩ := t9.cells
    exact bodyPost_ret (v := .tuple #[.agg #[.string ByteArray.empty, .slice none 0 0], .int .i64 1]) (by simp [results, Tryz.results26, go_sem, r0, r1]; rfl) rfl HE.out
   | true =>
    have hb3 := of_decide_eq_true (show decide (0 ≤ a ∧ a ≤ b ∧ b ≤ n) = true from hbt)
    obtain ⟨i, rfl⟩ : ∃ i : Nat, a = (i : Int) := ⟨a.toNat, by omega⟩
    obtain ⟨j, rfl⟩ : ∃ j : Nat, b = (j : Int) := ⟨b.toNat, by omega⟩
    obtain ⟨x, hx⟩ : ∃ x, cutM s 0 i = x := ⟨_, rfl⟩
    obtain ⟨y, hy⟩ : ∃ y, cutM s j n = y := ⟨_, rfl⟩
    have hxs := cutM_size s 0 i
    have hys := cutM_size s j n
    have HS1 := hideS (fun W => rpart_any s (by omega) 0 i (by omega) (by rw [HX.out.2.1.1]; omega) W)
    have HS2 := hideS (fun W => rpart_any s (by omega) j n (by omega) (by rw [HX.out.2.1.1]; omega) W)
    have HRr := hideS (splM_ok s D i j n u E x y m HX.out.1.1 HX.out.1.2 HX.out.2.1.1 HX.out.2.1.2 hbt hx hy)
    rw [HRd.out] at HRr
    rw [hx] at HS1 hxs
    rw [hy] at HS2 hys
    change Hid (∀ W, Calls Tryz.prog 50 #[.string s, .int .i64 0, .int .i64 (i : Nat)] W fun e w' => e = .returned (.string x) ∧ Below W.heap.size W w') at HS1
    clear hbt hx hy HRd
    obtain ⟨k0, k1, _, _⟩ := H3.out.1.cells
    go_wp2_with fail
    refine (HS1.out w4).mono ?_
    rintro e w5 ⟨rfl, b5⟩
    have H5 := hideS (show Tx w5 w.heap.size (.string s) (.slice oa ND ca) ∧ Tx w5 (w.heap.size + 1) (.string u) (.slice ob NE cb) ∧ Tx w5 (w.heap.size + 1 + 1) (.string ⟨#[]⟩) (.slice none 0 0) ∧ Below w.heap.size w w5 from ⟨H3.out.1.keep b5, H3.out.2.1.keep b5, H3.out.2.2.1.keep b5, bupS H3.out.2.2.2 b5⟩)
    clear b5 H3 k0 k1 HS1
    obtain ⟨k0, k1, _, _⟩ := H5.out.1.cells
    have hl0 := H5.out.1.lt
    go_upto_region 9 with fail
    go_cut [12] (fun sv wx => sv = .string y ∧ Below w5.heap.size w5 wx)
    case first =>
     go_region_held3 (fun w' => w'.cell? ⟨w.heap.size, 0, none⟩ = some (.string s)) (first | go_keep | assumption | exact kA9 | exact kB9) (first
      | (go_at_call 40; (with_reducible refine (HCt.out _).mono ?_); rintro e wA ⟨rfl, bA⟩; have bA : Below w5.heap.size w5 wA := (by first | exact ⟨bA.os, bA.tape, bA.output, bA.size, bA.block⟩ | exact bA); have kA9 : wA.cell? ⟨w.heap.size, 0, none⟩ = some (.string s) := (bA.cell (p := ⟨w.heap.size, 0, none⟩) hl0).trans k0; have HbA := hideS bA; clear bA)
      | (go_at_call 50; (with_reducible refine (HS2.out _).mono ?_); rintro e wB ⟨rfl, bB⟩; have bB : Below w5.heap.size w5 wB := bupS HbA.out bB; have kB9 : wB.cell? ⟨w.heap.size, 0, none⟩ = some (.string s) := (bB.cell (p := ⟨w.heap.size, 0, none⟩) hl0).trans k0; have HbB := hideS bB; clear bB))
     all_goals first | go_wp2_with fail | skip
     all_goals go_meet
     all_goals exact ⟨rfl, HbB.out⟩
    case rest =>
     obtain ⟨rfl, bc⟩ := hcut
     have H6 := hideS (show Tx wc w.heap.size (.string s) (.slice oa ND ca) ∧ Tx wc (w.heap.size + 1) (.string u) (.slice ob NE cb) ∧ Tx wc (w.heap.size + 1 + 1) (.string ⟨#[]⟩) (.slice none 0 0) ∧ Below w.heap.size w wc from ⟨H5.out.1.keep bc, H5.out.2.1.keep bc, H5.out.2.2.1.keep bc, bupS H5.out.2.2.2 bc⟩)
     clear bc H5 k0 k1 HS2 HCt
     obtain ⟨xu, hxu⟩ : ∃ z, x ++ u = z := ⟨_, rfl⟩
     obtain ⟨xs, hxy⟩ : ∃ z, xu ++ y = z := ⟨_, rfl⟩
     have hxz : xu.size = x.size + u.size := by rw [← hxu]; exact ByteArray.size_append
     have HM1 := hideS (fun W => rmelts_any x u (by omega) W)
     have HM2 := hideS (fun W => rmelts_any xu y (by omega) W)
     rw [hxu, hxy] at HRr
     obtain ⟨q1, hq1⟩ : ∃ q, meltsB x u = q := ⟨_, rfl⟩
     obtain ⟨q2, hq2⟩ : ∃ q, meltsB xu y = q := ⟨_, rfl⟩
     rw [hq1] at HM1 HRr
     rw [hq2] at HM2 HRr
     obtain ⟨k0, k1, _, _⟩ := H6.out.2.1.cells
     go_upto_region 11 with fail
     try rw [hxu, hxy]
     obtain ⟨B, hB⟩ : ∃ B, wc.heap.size = B := ⟨_, rfl⟩
     obtain ⟨V0, hV0⟩ : ∃ V0, wc.alloc (.cells #[.string xs, .slice none 0 0] 24) = V0 := ⟨_, rfl⟩
     have b0 : Below wc.heap.size wc V0 := by rw [← hV0]; exact bel1S _ _
     have t0 : Tx V0 B (.string xs) (.slice none 0 0) := by rw [← hV0, ← hB]; exact Tx.new _ _ _
     rw [hV0, hB]
     have H7 := hideS (show Tx V0 w.heap.size (.string s) (.slice oa ND ca) ∧ Tx V0 (w.heap.size + 1) (.string u) (.slice ob NE cb) ∧ Tx V0 (w.heap.size + 1 + 1) (.string ⟨#[]⟩) (.slice none 0 0) ∧ Tx V0 B (.string xs) (.slice none 0 0) ∧ Below w.heap.size w V0 from ⟨H6.out.1.keep b0, H6.out.2.1.keep b0, H6.out.2.2.1.keep b0, t0, bupS H6.out.2.2.2 b0⟩)
     have hBw : w.heap.size + 1 + 1 < B := by have := H6.out.2.2.1.lt; omega
     clear hV0 b0 t0 H6 hB k0 k1 hxy hq1 hq2 hxz
     by_cases big : 4096 < xs.size
     ·have bigI : (4096 : Int) < (xs.size : Int) := by omega
      obtain ⟨m0, m1, _, _⟩ := H7.out.2.2.2.1.cells
      obtain ⟨k0, k1, f0, f1⟩ := H7.out.2.2.1.cells
      have HE := hideS (errs.out 3 _ (by rw [HRr.out, if_pos big]) (HSB.out V0 (.slice none 0 0) H7.out.2.2.2.2))
      have t9 := H7.out.2.2.1.set (.string ⟨#[]⟩) (.slice none 0 0)
      go_wp2_with fail
      generalize ((V0.setCell ⟨w.heap.size + 1 + 1, 0, none⟩ (.string ⟨#[]⟩)).setCell ⟨w.heap.size + 1 + 1, 1, none⟩ (.slice none 0 0)) = W9 at *
      obtain ⟨r0, r1, _, _⟩ := t9.cells
      exact bodyPost_ret (v := .tuple #[.agg #[.string ByteArray.empty, .slice none 0 0], .int .i64 3]) (by simp [results, Tryz.results26, go_sem, r0, r1]; rfl) rfl HE.out
     ·have bigI : ¬ (4096 : Int) < (xs.size : Int) := by omega
      rw [if_neg big] at HRr
      obtain ⟨m0, m1, _, _⟩ := H7.out.2.2.2.1.cells
      obtain ⟨k0, k1, _, _⟩ := H7.out.2.1.cells
      go_wp2_with fail
      refine (HM1.out V0).mono ?_
      rintro e w7 ⟨rfl, b7⟩
      have H8 := hideS (show Tx w7 w.heap.size (.string s) (.slice oa ND ca) ∧ Tx w7 (w.heap.size + 1) (.string u) (.slice ob NE cb) ∧ Tx w7 (w.heap.size + 1 + 1) (.string ⟨#[]⟩) (.slice none 0 0) ∧ Tx w7 B (.string xs) (.slice none 0 0) ∧ Below w.heap.size w w7 from ⟨H7.out.1.keep b7, H7.out.2.1.keep b7, H7.out.2.2.1.keep b7, H7.out.2.2.2.1.keep b7, bupS H7.out.2.2.2.2 b7⟩)
      clear b7 H7 k0 k1 m0 m1 HM1
      cases q1 with
      | true =>
       obtain ⟨k0, k1, f0, f1⟩ := H8.out.2.2.1.cells
       have HE := hideS (errs.out 22 _ (by rw [HRr.out, if_pos rfl]) (HSB.out w7 (.slice none 0 0) H8.out.2.2.2.2))
       have t9 := H8.out.2.2.1.set (.string ⟨#[]⟩) (.slice none 0 0)
       go_wp2_with fail
       generalize ((w7.setCell ⟨w.heap.size + 1 + 1, 0, none⟩ (.string ⟨#[]⟩)).setCell ⟨w.heap.size + 1 + 1, 1, none⟩ (.slice none 0 0)) = W9 at *
       obtain ⟨r0, r1, _, _⟩ := t9.cells
       exact bodyPost_ret (v := .tuple #[.agg #[.string ByteArray.empty, .slice none 0 0], .int .i64 22]) (by simp [results, Tryz.results26, go_sem, r0, r1]; rfl) rfl HE.out
      | false =>
       rw [if_neg (by simp)] at HRr
       obtain ⟨k0, k1, _, _⟩ := H8.out.2.1.cells
       go_wp2_with fail
       first | rw [hxu] | skip
       refine (HM2.out w7).mono ?_
       rintro e w8 ⟨rfl, b8⟩
       have H9 := hideS (show Tx w8 w.heap.size (.string s) (.slice oa ND ca) ∧ Tx w8 (w.heap.size + 1) (.string u) (.slice ob NE cb) ∧ Tx w8 (w.heap.size + 1 + 1) (.string ⟨#[]⟩) (.slice none 0 0) ∧ Tx w8 B (.string xs) (.slice none 0 0) ∧ Below w.heap.size w w8 from ⟨H8.out.1.keep b8, H8.out.2.1.keep b8, H8.out.2.2.1.keep b8, H8.out.2.2.2.1.keep b8, bupS H8.out.2.2.2.2 b8⟩)
       clear b8 H8 k0 k1 HM2
       cases q2 with
       | true =>
        obtain ⟨k0, k1, f0, f1⟩ := H9.out.2.2.1.cells
        have HE := hideS (errs.out 22 _ (by rw [HRr.out, if_pos rfl]) (HSB.out w8 (.slice none 0 0) H9.out.2.2.2.2))
        have t9 := H9.out.2.2.1.set (.string ⟨#[]⟩) (.slice none 0 0)
        go_wp2_with fail
        generalize ((w8.setCell ⟨w.heap.size + 1 + 1, 0, none⟩ (.string ⟨#[]⟩)).setCell ⟨w.heap.size + 1 + 1, 1, none⟩ (.slice none 0 0)) = W9 at *
        obtain ⟨r0, r1, _, _⟩ := t9.cells
        exact bodyPost_ret (v := .tuple #[.agg #[.string ByteArray.empty, .slice none 0 0], .int .i64 22]) (by simp [results, Tryz.results26, go_sem, r0, r1]; rfl) rfl HE.out
       | false =>
        rw [if_neg (by simp)] at HRr
        obtain ⟨k0, k1, _, _⟩ := H9.out.2.1.cells
        go_wp2_with fail
        refine (HCu.out w8).mono ?_
        rintro e w9 ⟨rfl, b9⟩
        have H10 := hideS (show Tx w9 w.heap.size (.string s) (.slice oa ND ca) ∧ Tx w9 (w.heap.size + 1) (.string u) (.slice ob NE cb) ∧ Tx w9 (w.heap.size + 1 + 1) (.string ⟨#[]⟩) (.slice none 0 0) ∧ Tx w9 B (.string xs) (.slice none 0 0) ∧ Below w.heap.size w w9 from ⟨H9.out.1.keep b9, H9.out.2.1.keep b9, H9.out.2.2.1.keep b9, H9.out.2.2.2.1.keep b9, bupS H9.out.2.2.2.2 b9⟩)
        clear b9 H9 k0 k1 HCu
        have HOu := hideS (fun (W : World) (h : Below w.heap.size w W) => router_any D oa ca (by rw [HX.out.2.2.1]; omega) W (HY.out.1.keep h))
        have HMv := hideS (fun (W : World) (h : Below w.heap.size w W) => rmoved_any E ob cb i (by rw [HX.out.2.2.2]; omega) W (HY.out.2.1.keep h))
        have hL : (isort ltS D).length = D.length := isort_length ltS D
        rw [HX.out.2.2.1] at HOu hL
        rw [HX.out.2.2.2] at HMv
        have hEl : (E.map (mvS (i : Int))).length = NE := by rw [List.length_map]; exact HX.out.2.2.2
        generalize isort ltS D = L at *
        generalize E.map (mvS (i : Int)) = EM at *
        have HN := hideS (And.intro hL hEl)
        clear hL hEl
        obtain ⟨k0, k1, _, _⟩ := H10.out.1.cells
        go_wp2_with fail
        refine (HOu.out w9 H10.out.2.2.2.2).mono ?_
        rintro e w10 ⟨v7, rfl, own7, b10⟩
        obtain ⟨ol, cl, rfl, hcl, hSo, hob⟩ := own_read9 own7 HN.out.1
        have H11 := hideS (show Tx w10 (w.heap.size + 1) (.string u) (.slice ob NE cb) ∧ Tx w10 (w.heap.size + 1 + 1) (.string ⟨#[]⟩) (.slice none 0 0) ∧ Tx w10 B (.string xs) (.slice none 0 0) ∧ Below w.heap.size w w10 ∧ SpO w10 ol L ∧ (∀ ad, ol = some ad → ¬ ad.block = B) from ⟨H10.out.2.1.keep b10, H10.out.2.2.1.keep b10, H10.out.2.2.2.1.keep b10, bupS H10.out.2.2.2.2 b10, hSo, fun ad h => by have := hob ad h; have := H10.out.2.2.2.1.lt; omega⟩)
        have hB10 := H11.out.2.2.1.lt
        clear own7 b10 hSo hob H10 HOu k0 k1
        go_wp2_with fail
        go_loopw [16] (fun iv wq => ∃ (k : Nat) (v : Value), iv = .int .i64 (k : Nat) ∧ k ≤ ND ∧ (aroundM i j m (L.take k)).length ≤ k ∧ wq.ownsRow w10.heap.size 42 4 v (aroundM i j m (L.take k)).length (flat4 (aroundM i j m (L.take k))) ∧ Tx wq B (.string xs) v ∧ But (fun k => k = B) w10 wq) (fun iv _ => ND - (intOf iv).toNat)
        case atStart => exact ⟨0, _, rfl, Nat.zero_le _, Nat.le_refl _, World.ownsRow_nil _ _ _ _, H11.out.2.2.1, But.refl _ _⟩
        case round =>
         obtain ⟨k, v, rfl, hiN, hal, hO, hTx, hb⟩ := hrel
         obtain ⟨wq, rfl⟩ : ∃ wq, wq = wr := ⟨_, rfl⟩
         by_cases hlt : k < ND
         ·obtain ⟨p, hp⟩ : ∃ p, L[k]? = some p := ⟨_, List.getElem?_eq_getElem (by rw [HN.out.1]; exact hlt)⟩
          have hIx := HIn.out p (List.mem_of_getElem? hp)
          obtain ⟨ad, rfl, hab, c0, c1, c2, c3⟩ := (H11.out.2.2.2.2.1.but hb H11.out.2.2.2.2.2) k p hp
          have d1 : (k : Int) < (ND : Int) := by omega
          have wi : IntKind.i64.wrap ((k : Int) + 1) = ((k + 1 : Nat) : Int) := by rw [show ((k + 1 : Nat) : Int) = (k : Int) + 1 by omega]; exact IntWalk.i64_in _ ⟨by omega, by omega⟩
          have hnx := aroundM_snoc i j m (L.take k) p
          rw [← take_snoc9 hp] at hnx
          unfold InS at hIx
          have HBg := hideS (fun W => rbeg_any i j m p.fr (by omega) (by omega) (by omega) (by omega) W)
          have HEn := hideS (fun W => rend_any7 i j m p.tt (by omega) (by omega) (by omega) (by omega) W)
          obtain ⟨bv, hbv⟩ : ∃ bv, begI i j m p.fr = bv := ⟨_, rfl⟩
          obtain ⟨ev, hev⟩ : ∃ ev, endI i j m p.tt = ev := ⟨_, rfl⟩
          rw [hbv] at HBg hnx
          rw [hev] at HEn hnx
          obtain ⟨ov, cv, rfl⟩ := own_form9 hO
          have HA := hideS (And.intro hO (And.intro hnx (And.intro hTx hb)))
          clear hO hnx hb hp hTx hIx hbv hev
          go_upto_region 21 with fail
          obtain ⟨V, hV⟩ : ∃ V, wq.alloc (.cells #[.int .i64 p.fr, .int .i64 p.tt, .int .i64 p.kd, .int .i64 p.vl] 42) = V := ⟨_, rfl⟩
          have bV : Below wq.heap.size wq V := by rw [← hV]; exact bel1S _ _
          have nV : V.heap[wq.heap.size]? = some (.cells #[.int .i64 p.fr, .int .i64 p.tt, .int .i64 p.kd, .int .i64 p.vl] 42) := by rw [← hV]; exact World.alloc_heap_new wq _
          rw [hV]
          obtain ⟨s0, s1, s2, s3, f0, f1⟩ := sp_cells9 nV
          clear hV c0 c1 c2 c3
          go_upto_region 22 with (go_at_call 53; (with_reducible refine (HBg.out V).mono ?_); rintro e V1 ⟨rfl, rfl⟩)
          obtain ⟨V2, hV2⟩ : ∃ V2, V1.setCell ⟨wq.heap.size, 0, none⟩ (.int .i64 bv) = V2 := ⟨_, rfl⟩
          have bV2 : Below wq.heap.size wq V2 := by rw [← hV2]; exact bV.setCell (p := ⟨wq.heap.size, 0, none⟩) (Nat.le_refl _) _
          have nV2 : V2.heap[wq.heap.size]? = some (.cells #[.int .i64 bv, .int .i64 p.tt, .int .i64 p.kd, .int .i64 p.vl] 42) := by
           rw [← hV2, set_atS nV 0 (.int .i64 bv)]
           rfl
          rw [hV2]
          clear hV2 bV nV s0 s1 s2 s3 f0 f1 HBg
          obtain ⟨s0, s1, s2, s3, f0, f1⟩ := sp_cells9 nV2
          go_upto_region 23 with (go_at_call 54; (with_reducible refine (HEn.out V2).mono ?_); rintro e V3 ⟨rfl, rfl⟩)
          obtain ⟨V, hV⟩ : ∃ V, V3.setCell ⟨wq.heap.size, 1, none⟩ (.int .i64 ev) = V := ⟨_, rfl⟩
          have bV : Below wq.heap.size wq V := by rw [← hV]; exact bV2.setCell (p := ⟨wq.heap.size, 1, none⟩) (Nat.le_refl _) _
          have nV : V.heap[wq.heap.size]? = some (.cells #[.int .i64 bv, .int .i64 ev, .int .i64 p.kd, .int .i64 p.vl] 42) := by
           rw [← hV, set_atS nV2 1 (.int .i64 ev)]
           rfl
          rw [hV]
          clear hV bV2 nV2 s0 s1 s2 s3 f0 f1 HEn
          obtain ⟨s0, s1, s2, s3, f0, f1⟩ := sp_cells9 nV
          have sx : w10.heap.size ≤ V.heap.size := Nat.le_trans HA.out.2.2.2.size bV.size
          have HGx := hideS (own_keepS HA.out.1 bV)
          have HTV := hideS (HA.out.2.2.1.keep bV)
          have HBV := hideS (HA.out.2.2.2.below_trans bV)
          obtain ⟨_, z1, _, _⟩ := HTV.out.cells
          clear bV nV
          by_cases hbe : bv < ev
          ·go_wp2_with (at_builtin; refine wpList_append_own _ rfl _ _ 22 rfl w10.heap.size 42 i0 (.agg #[.int .i64 0, .int .i64 0, .int .i64 0, .int .i64 0]) 4 32 Tryz.underlying22 hi hz0 hz1 hz2 rfl (by decide) _ _ _ rfl (HGx.out.alloc _) ⟨V.heap.size, 0, none⟩ 1 1 [.int .i64 bv, .int .i64 ev, .int .i64 p.kd, .int .i64 p.vl] rfl rfl (cell_fourS _ _ _ _ _ _) (fun u hu => by simp at hu; rcases hu with rfl | rfl | rfl | rfl <;> rfl) (by unfold maxLen; omega) (by omega) (by simp; omega) ?_; intro v' w3 hown' hgrow _; obtain ⟨o9, c9, rfl⟩ := own_form9 hown'; have hB3 : Below w10.heap.size V w3 := Below.grown ((Below.refl _ _).alloc sx (.cells #[.int .i64 bv, .int .i64 ev, .int .i64 p.kd, .int .i64 p.vl] 42)) hgrow (by simp; omega) (fun j hj => (HGx.out.lt j hj).1); have t3 := HTV.out.below hB3 hB10; have q3 := t3.cells; have H3 := hideS (And.intro hown' (And.intro hB3 t3)); obtain ⟨_, q1, _, q2⟩ := q3; clear hown' hgrow hB3 t3)
           go_roundw
           case rel =>
            have e9 := HA.out.2.1
            rw [if_pos hbe] at e9
            refine ⟨k + 1, .slice o9 ((aroundM i j m (L.take k)).length + 1) c9, by first | rfl | simp, by omega, ?_, ?_, ?_, (but_low HBV.out H3.out.2.1).setCell (p := ⟨B, 1, none⟩) rfl _⟩
            ·rw [e9, List.length_append]
             simp
             omega
            ·rw [e9, List.length_append, flat4_snoc]
             exact ownsRow_setCell_below H3.out.1 (a := ⟨B, 1, none⟩) hB10 _
            ·exact tx_set1 H3.out.2.2 _
           case measure => simp [intOf]; omega
          ·go_wp2_with fail
           go_roundw
           case rel =>
            have e9 := HA.out.2.1
            rw [if_neg hbe, List.append_nil] at e9
            refine ⟨k + 1, .slice ov (aroundM i j m (L.take k)).length cv, by first | rfl | simp, by omega, ?_, ?_, HTV.out, HBV.out⟩
            ·rw [e9]
             omega
            ·rw [e9]
             exact HGx.out
           case measure => simp [intOf]; omega
         ·have d1 : ¬ (k : Int) < (ND : Int) := by omega
          rw [List.take_of_length_le (by rw [HN.out.1]; omega)] at hO hal
          generalize aroundM i j m L = A at *
          obtain ⟨LA, hLA⟩ : ∃ LA, A.length = LA := ⟨_, rfl⟩
          obtain ⟨LL, hLL⟩ : ∃ LL, LA + NE = LL := ⟨_, rfl⟩
          have hLe : (A ++ EM).length = LL := by rw [List.length_append, hLA, HN.out.2, hLL]
          obtain ⟨ov, cv, rfl⟩ := own_form9 hO
          rw [hLA] at hTx hO hal
          rw [hLe] at HRr
          have t7 : Tx wq (w.heap.size + 1 + 1) (.string ⟨#[]⟩) (.slice none 0 0) := (hb.same _ H11.out.2.1.lt (by omega)).trans H11.out.2.1
          have t6 : Tx wq (w.heap.size + 1) (.string u) (.slice ob NE cb) := (hb.same _ H11.out.1.lt (by omega)).trans H11.out.1
          have bw : Below w.heap.size w wq := H11.out.2.2.2.1.trans (hb.below H11.out.2.2.2.1.size (fun k e => by omega))
          have hq10 : w10.heap.size ≤ wq.heap.size := hb.size
          obtain ⟨k0, k1, g0, g1⟩ := hTx.cells
          obtain ⟨m0, m1, _, _⟩ := t6.cells
          have hP1 : w.heap.size + 1 < w10.heap.size := H11.out.1.lt
          have hP2 : w.heap.size + 1 + 1 < w10.heap.size := H11.out.2.1.lt
          have HQ := hideS (And.intro hO (And.intro hTx (And.intro t7 (And.intro bw hLe))))
          have Hdr := hideS bw.drew
          have hBf : w.heap.size + 1 ≠ B := by omega
          have hBg : B ≠ w.heap.size + 1 := by omega
          have hF : (flat4 EM).length = NE * 4 := by rw [flat4_len, HN.out.2]
          clear hO hb hTx t7 t6 bw hLe hLA
          have HLf : Hid (∀ (wA wC : World) (oC : Option Addr) (cC : Nat), Below wq.heap.size wq wA → Below w10.heap.size wA wC → wC.ownsRow w10.heap.size 42 4 (.slice oC LL cC) LL (flat4 A ++ flat4 EM) → Tx wC B (.string xs) (.slice ov LA cv) →
            ∃ v2, (wC.setCell ⟨B, 1, none⟩ (.slice oC LL cC)).ownsRow w10.heap.size 42 4 v2 LL (flat4 (A ++ EM)) ∧ Tx (wC.setCell ⟨B, 1, none⟩ (.slice oC LL cC)) B (.string xs) v2 ∧ Tx (wC.setCell ⟨B, 1, none⟩ (.slice oC LL cC)) (w.heap.size + 1 + 1) (.string ⟨#[]⟩) (.slice none 0 0) ∧ Below w.heap.size w (wC.setCell ⟨B, 1, none⟩ (.slice oC LL cC))) := hideS (fun wA wC oC cC h1 h2 h3 h4 => by
           refine ⟨.slice oC LL cC, ?_, tx_set1 h4 _, ?_, ?_⟩
           ·rw [flat4_append]
            exact ownsRow_setCell_below h3 (a := ⟨B, 1, none⟩) hB10 _
           ·have h9 := (HQ.out.2.2.1.keep h1).below h2 hP2
            exact ((But.set (M := fun k => k = B) wC ⟨B, 1, none⟩ _ rfl).same (w.heap.size + 1 + 1) h9.lt (by omega)).trans h9
           ·exact (bupS HQ.out.2.2.2.1 h1).trans ((h2.mono (Nat.le_trans (by omega) H11.out.2.2.2.1.size)).setCell (p := ⟨B, 1, none⟩) (by show w.heap.size ≤ B; omega) _))
          go_upto_region 25 with fail
          go_cut [] (fun wx => ∃ v2, wx.ownsRow w10.heap.size 42 4 v2 LL (flat4 (A ++ EM)) ∧ Tx wx B (.string xs) v2 ∧ Tx wx (w.heap.size + 1 + 1) (.string ⟨#[]⟩) (.slice none 0 0) ∧ Below w.heap.size w wx)
          case first =>
           refine wp_region_held_drew (S := fun w' => w'.cell? ⟨w.heap.size + 1, 1, none⟩ = some (.slice ob NE cb)) (by kernel_rfl) ?_ (fun hHeld => ?_)
           ·exact m1
           refine wpAnyH_take (i := 0) (oi := ({ dst := some 113, op := Op.fieldAddr 24 (Operand.tmp 13) 1, type := 0, pos := "ref.go:391", after := #[], guard := none } : Oper)) (v := .pointer (some ⟨B, 1, none⟩)) rfl (by kernel_rfl) (by kernel_rfl) (by kernel_rfl) (fun _ _ _ h => h) (Or.inl ⟨by rfl, ?_⟩) (by assumption) ?_
           ·intro w9 hSw
            try dsimp only at hSw
            go_simp
           try simp only [Act.put, List.setIfInBounds_toArray, List.set_cons_zero, List.set_cons_succ]
           refine wpAnyH_take (i := 2) (oi := ({ dst := some 115, op := Op.fieldAddr 24 (Operand.tmp 7) 1, type := 0, pos := "ref.go:391", after := #[], guard := none } : Oper)) (v := .pointer (some ⟨w.heap.size + 1, 1, none⟩)) rfl (by kernel_rfl) (by kernel_rfl) (by kernel_rfl) (fun _ _ _ h => h) (Or.inl ⟨by rfl, ?_⟩) (by assumption) ?_
           ·intro w9 hSw
            try dsimp only at hSw
            go_simp
           try simp only [Act.put, List.setIfInBounds_toArray, List.set_cons_zero, List.set_cons_succ]
           refine wpAnyH_take (i := 3) (oi := ({ dst := some 116, op := Op.load 22 (Operand.tmp 115), type := 22, pos := "ref.go:391", after := #[{ on := 2, ground := Ground.data }], guard := none } : Oper)) (v := .slice ob NE cb) rfl (by kernel_rfl) (by kernel_rfl) (by kernel_rfl) (fun _ _ _ h => h) (Or.inl ⟨by rfl, ?_⟩) (by assumption) ?_
           ·intro w9 hSw
            try dsimp only at hSw
            go_simp
           try simp only [Act.put, List.setIfInBounds_toArray, List.set_cons_zero, List.set_cons_succ]
           refine wpAnyH_take (i := 4) (oi := ({ dst := some 117, op := Op.move (Operand.tmp 1), type := 3, pos := "ref.go:391", after := #[], guard := none } : Oper)) (v := .int .i64 (i : Int)) rfl (by kernel_rfl) (by kernel_rfl) (by kernel_rfl) (fun _ _ _ h => h) (Or.inl ⟨by rfl, ?_⟩) (by assumption) ?_
           ·intro w9 hSw
            try dsimp only at hSw
            go_simp
           try simp only [Act.put, List.setIfInBounds_toArray, List.set_cons_zero, List.set_cons_succ]
           refine wpAnyH_ready (rs := [1, 5]) (by kernel_rfl) (by simp) ?_
           refine AllReadyH.cons (o := ({ dst := some 114, op := Op.load 22 (Operand.tmp 113), type := 22, pos := "ref.go:391", after := #[{ on := 0, ground := Ground.data }], guard := none } : Oper)) rfl (fun K hK => ?_) ?_
           ·go_simp
            refine hK.out _ _ ?_ (fun hHeld => ?_)
            ·assumption
            clear hK K
            try simp only [Act.put, List.setIfInBounds_toArray, List.set_cons_zero, List.set_cons_succ]
            refine wpAnyH_ready (rs := [5]) (by kernel_rfl) (by simp) ?_
            refine AllReadyH.cons (o := ({ dst := some 118, op := Op.call { callee := Callee.value (Operand.func 55), args := #[Operand.tmp 116, Operand.tmp 117], argTypes := #[22, 3] }, type := 22, pos := "ref.go:391", after := #[{ on := 3, ground := Ground.data }, { on := 4, ground := Ground.data }], guard := none } : Oper)) rfl (fun K hK => ?_) ?_
            ·go_simp
             (with_reducible refine (HMv.out wq.drew Hdr.out).mono ?_); rintro e wA ⟨v1, rfl, own1, bA⟩; obtain ⟨o1, cp1, rfl, hc1, hn1, hR1⟩ := own_flat own1 HN.out.2; have bA : Below wq.heap.size wq wA := (by first | exact ⟨bA.os, bA.tape, bA.output, bA.size, bA.block⟩ | exact bA); have kA1 : wA.cell? ⟨B, 1, none⟩ = some (.slice ov LA cv) := (bA.cell (p := ⟨B, 1, none⟩) (Nat.lt_of_lt_of_le hB10 hq10)).trans k1; have kA9 : wA.cell? ⟨w.heap.size + 1, 1, none⟩ = some (.slice ob NE cb) := (bA.cell (p := ⟨w.heap.size + 1, 1, none⟩) (Nat.lt_of_lt_of_le hP1 hq10)).trans m1; have HbA := hideS (And.intro bA (And.intro hR1 (And.intro hn1 (own_keepS HQ.out.1 bA)))); clear bA hR1 hn1 own1
             go_wp2_with fail
             refine hK.out _ _ ?_ (fun hHeld => ?_)
             ·exact kA9
             clear hK K
             try simp only [Act.put, List.setIfInBounds_toArray, List.set_cons_zero, List.set_cons_succ]
             refine wpAnyH_ready (rs := [6]) (by kernel_rfl) (by simp) ?_
             refine AllReadyH.cons (o := ({ dst := some 119, op := Op.call { callee := Callee.builtin Builtin.append, args := #[Operand.tmp 114, Operand.tmp 118], argTypes := #[22, 22] }, type := 22, pos := "ref.go:391", after := #[{ on := 1, ground := Ground.data }, { on := 5, ground := Ground.data }, { on := 5, ground := Ground.chain }], guard := none } : Oper)) rfl (fun K hK => ?_) ?_
             ·refine step_spans2 _ (by rfl) _ _ _ (by rfl) w10.heap.size 42 i0 (.agg #[.int .i64 0, .int .i64 0, .int .i64 0, .int .i64 0]) 4 32 Tryz.underlying22 hi hz0 hz1 hz2 rfl (by decide) (.slice ov LA cv) LA (flat4 A) (by rfl) HbA.out.2.2.2 o1 NE cp1 (flat4 EM) (by rfl) (fun h => by obtain ⟨h1, h2⟩ := HbA.out.2.2.1 h; have h3 := HN.out.2; rw [h1] at h3; exact ⟨h3.symm, h2⟩) hF (fun ad h j u hj => (SpO.flat (Q := EM) (a := ad) (by have h9 := HbA.out.2.1; rw [h] at h9; exact h9)) j u hj) (flat4_one EM) (by unfold maxLen; omega) (by omega) (Nat.le_trans hq10 HbA.out.1.size) ?_; intro vC wC ownC growC; have bC : Below w10.heap.size wA wC := Below.grown (Below.refl _ _) growC (Nat.le_trans hq10 HbA.out.1.size) (fun k hk => (HbA.out.2.2.2.lt k hk).1); rw [hLL] at ownC; obtain ⟨oC, cC, rfl⟩ := own_form9 ownC; have tC := (HQ.out.2.1.keep HbA.out.1).below bC hB10; obtain ⟨_, z1, _, z2⟩ := tC.cells; have kC9 : wC.cell? ⟨w.heap.size + 1, 1, none⟩ = some (.slice ob NE cb) := (bC.cell (p := ⟨w.heap.size + 1, 1, none⟩) hP1).trans kA9; have HbC := hideS (And.intro bC (And.intro ownC tC)); clear bC ownC tC growC
              refine hK.out _ _ ?_ (fun hHeld => ?_)
              ·exact kC9
              clear hK K
              try simp only [Act.put, List.setIfInBounds_toArray, List.set_cons_zero, List.set_cons_succ]
              refine wpAnyH_take (i := 7) (oi := ({ dst := some 120, op := Op.fieldAddr 24 (Operand.tmp 13) 1, type := 0, pos := "ref.go:391", after := #[{ on := 0, ground := Ground.phase }, { on := 1, ground := Ground.phase }, { on := 2, ground := Ground.phase }, { on := 3, ground := Ground.phase }, { on := 4, ground := Ground.phase }, { on := 5, ground := Ground.phase }, { on := 6, ground := Ground.phase }], guard := none } : Oper)) (v := .pointer (some ⟨B, 1, none⟩)) rfl (by kernel_rfl) (by kernel_rfl) (by kernel_rfl) (fun _ _ _ h => h) (Or.inl ⟨by rfl, ?_⟩) (by assumption) ?_
              ·intro w9 hSw
               try dsimp only at hSw
               go_simp
              try simp only [Act.put, List.setIfInBounds_toArray, List.set_cons_zero, List.set_cons_succ]
              refine wpAnyH_ready (rs := [8]) (by kernel_rfl) (by simp) ?_
              refine AllReadyH.cons (o := ({ dst := none, op := Op.store 22 (Operand.tmp 120) (Operand.tmp 119), type := 0, pos := "ref.go:391", after := #[{ on := 7, ground := Ground.data }, { on := 6, ground := Ground.data }, { on := 6, ground := Ground.chain }, { on := 0, ground := Ground.phase }, { on := 1, ground := Ground.phase }, { on := 2, ground := Ground.phase }, { on := 3, ground := Ground.phase }, { on := 4, ground := Ground.phase }, { on := 5, ground := Ground.phase }, { on := 6, ground := Ground.phase }], guard := none } : Oper)) rfl (fun K hK => ?_) ?_
              ·go_simp
               refine hK.out _ _ ?_ (fun hHeld => ?_)
               ·exact (World.cell?_setCell_far _ _ _ _ hBg).trans kC9
               clear hK K
               try simp only [Act.put, List.setIfInBounds_toArray, List.set_cons_zero, List.set_cons_succ]
               refine wpAnyH_done (by kernel_rfl) ?_ _
               first | go_wp2_with fail | skip
               go_meet
               exact HLf.out wA wC oC cC HbA.out.1 HbC.out.1 HbC.out.2.1 HbC.out.2.2
              exact AllReadyH.nil
             exact AllReadyH.nil
            exact AllReadyH.nil
           refine AllReadyH.cons (o := ({ dst := some 118, op := Op.call { callee := Callee.value (Operand.func 55), args := #[Operand.tmp 116, Operand.tmp 117], argTypes := #[22, 3] }, type := 22, pos := "ref.go:391", after := #[{ on := 3, ground := Ground.data }, { on := 4, ground := Ground.data }], guard := none } : Oper)) rfl (fun K hK => ?_) ?_
           ·go_simp
            (with_reducible refine (HMv.out wq.drew Hdr.out).mono ?_); rintro e wA ⟨v1, rfl, own1, bA⟩; obtain ⟨o1, cp1, rfl, hc1, hn1, hR1⟩ := own_flat own1 HN.out.2; have bA : Below wq.heap.size wq wA := (by first | exact ⟨bA.os, bA.tape, bA.output, bA.size, bA.block⟩ | exact bA); have kA1 : wA.cell? ⟨B, 1, none⟩ = some (.slice ov LA cv) := (bA.cell (p := ⟨B, 1, none⟩) (Nat.lt_of_lt_of_le hB10 hq10)).trans k1; have kA9 : wA.cell? ⟨w.heap.size + 1, 1, none⟩ = some (.slice ob NE cb) := (bA.cell (p := ⟨w.heap.size + 1, 1, none⟩) (Nat.lt_of_lt_of_le hP1 hq10)).trans m1; have HbA := hideS (And.intro bA (And.intro hR1 (And.intro hn1 (own_keepS HQ.out.1 bA)))); clear bA hR1 hn1 own1
            go_wp2_with fail
            refine hK.out _ _ ?_ (fun hHeld => ?_)
            ·exact kA9
            clear hK K
            try simp only [Act.put, List.setIfInBounds_toArray, List.set_cons_zero, List.set_cons_succ]
            refine wpAnyH_ready (rs := [1]) (by kernel_rfl) (by simp) ?_
            refine AllReadyH.cons (o := ({ dst := some 114, op := Op.load 22 (Operand.tmp 113), type := 22, pos := "ref.go:391", after := #[{ on := 0, ground := Ground.data }], guard := none } : Oper)) rfl (fun K hK => ?_) ?_
            ·go_simp
             refine hK.out _ _ ?_ (fun hHeld => ?_)
             ·assumption
             clear hK K
             try simp only [Act.put, List.setIfInBounds_toArray, List.set_cons_zero, List.set_cons_succ]
             refine wpAnyH_ready (rs := [6]) (by kernel_rfl) (by simp) ?_
             refine AllReadyH.cons (o := ({ dst := some 119, op := Op.call { callee := Callee.builtin Builtin.append, args := #[Operand.tmp 114, Operand.tmp 118], argTypes := #[22, 22] }, type := 22, pos := "ref.go:391", after := #[{ on := 1, ground := Ground.data }, { on := 5, ground := Ground.data }, { on := 5, ground := Ground.chain }], guard := none } : Oper)) rfl (fun K hK => ?_) ?_
             ·refine step_spans2 _ (by rfl) _ _ _ (by rfl) w10.heap.size 42 i0 (.agg #[.int .i64 0, .int .i64 0, .int .i64 0, .int .i64 0]) 4 32 Tryz.underlying22 hi hz0 hz1 hz2 rfl (by decide) (.slice ov LA cv) LA (flat4 A) (by rfl) HbA.out.2.2.2 o1 NE cp1 (flat4 EM) (by rfl) (fun h => by obtain ⟨h1, h2⟩ := HbA.out.2.2.1 h; have h3 := HN.out.2; rw [h1] at h3; exact ⟨h3.symm, h2⟩) hF (fun ad h j u hj => (SpO.flat (Q := EM) (a := ad) (by have h9 := HbA.out.2.1; rw [h] at h9; exact h9)) j u hj) (flat4_one EM) (by unfold maxLen; omega) (by omega) (Nat.le_trans hq10 HbA.out.1.size) ?_; intro vC wC ownC growC; have bC : Below w10.heap.size wA wC := Below.grown (Below.refl _ _) growC (Nat.le_trans hq10 HbA.out.1.size) (fun k hk => (HbA.out.2.2.2.lt k hk).1); rw [hLL] at ownC; obtain ⟨oC, cC, rfl⟩ := own_form9 ownC; have tC := (HQ.out.2.1.keep HbA.out.1).below bC hB10; obtain ⟨_, z1, _, z2⟩ := tC.cells; have kC9 : wC.cell? ⟨w.heap.size + 1, 1, none⟩ = some (.slice ob NE cb) := (bC.cell (p := ⟨w.heap.size + 1, 1, none⟩) hP1).trans kA9; have HbC := hideS (And.intro bC (And.intro ownC tC)); clear bC ownC tC growC
              refine hK.out _ _ ?_ (fun hHeld => ?_)
              ·exact kC9
              clear hK K
              try simp only [Act.put, List.setIfInBounds_toArray, List.set_cons_zero, List.set_cons_succ]
              refine wpAnyH_take (i := 7) (oi := ({ dst := some 120, op := Op.fieldAddr 24 (Operand.tmp 13) 1, type := 0, pos := "ref.go:391", after := #[{ on := 0, ground := Ground.phase }, { on := 1, ground := Ground.phase }, { on := 2, ground := Ground.phase }, { on := 3, ground := Ground.phase }, { on := 4, ground := Ground.phase }, { on := 5, ground := Ground.phase }, { on := 6, ground := Ground.phase }], guard := none } : Oper)) (v := .pointer (some ⟨B, 1, none⟩)) rfl (by kernel_rfl) (by kernel_rfl) (by kernel_rfl) (fun _ _ _ h => h) (Or.inl ⟨by rfl, ?_⟩) (by assumption) ?_
              ·intro w9 hSw
               try dsimp only at hSw
               go_simp
              try simp only [Act.put, List.setIfInBounds_toArray, List.set_cons_zero, List.set_cons_succ]
              refine wpAnyH_ready (rs := [8]) (by kernel_rfl) (by simp) ?_
              refine AllReadyH.cons (o := ({ dst := none, op := Op.store 22 (Operand.tmp 120) (Operand.tmp 119), type := 0, pos := "ref.go:391", after := #[{ on := 7, ground := Ground.data }, { on := 6, ground := Ground.data }, { on := 6, ground := Ground.chain }, { on := 0, ground := Ground.phase }, { on := 1, ground := Ground.phase }, { on := 2, ground := Ground.phase }, { on := 3, ground := Ground.phase }, { on := 4, ground := Ground.phase }, { on := 5, ground := Ground.phase }, { on := 6, ground := Ground.phase }], guard := none } : Oper)) rfl (fun K hK => ?_) ?_
              ·go_simp
               refine hK.out _ _ ?_ (fun hHeld => ?_)
               ·exact (World.cell?_setCell_far _ _ _ _ hBg).trans kC9
               clear hK K
               try simp only [Act.put, List.setIfInBounds_toArray, List.set_cons_zero, List.set_cons_succ]
               refine wpAnyH_done (by kernel_rfl) ?_ _
               first | go_wp2_with fail | skip
               go_meet
               exact HLf.out wA wC oC cC HbA.out.1 HbC.out.1 HbC.out.2.1 HbC.out.2.2
              exact AllReadyH.nil
             exact AllReadyH.nil
            exact AllReadyH.nil
           exact AllReadyH.nil
          case rest =>
           obtain ⟨v2, hO2, hT2, t2, bw2⟩ := hcut
           obtain ⟨o2, c2, rfl⟩ := own_form9 hO2
           obtain ⟨n0, n1, _, _⟩ := hT2.cells
           obtain ⟨r0, r1, f0, f1⟩ := t2.cells
           by_cases hbg : 256 < LL
           ·have dbg : (256 : Int) < (LL : Int) := by omega
            have HE := hideS (errs.out 2 _ (by rw [HRr.out, if_pos hbg]) (HSB.out wc (.slice none 0 0) bw2))
            have t9 := t2.set (.string ⟨#[]⟩) (.slice none 0 0)
            clear hO2 hT2 t2 bw2
            go_wp2_with fail
            generalize ((wc.setCell ⟨w.heap.size + 1 + 1, 0, none⟩ (.string ⟨#[]⟩)).setCell ⟨w.heap.size + 1 + 1, 1, none⟩ (.slice none 0 0)) = W9 at *
            obtain ⟨r0, r1, _, _⟩ := t9.cells
            exact bodyPost_ret (v := .tuple #[.agg #[.string ByteArray.empty, .slice none 0 0], .int .i64 2]) (by simp [results, Tryz.results26, go_sem, r0, r1]; rfl) rfl HE.out
           ·have dbg : ¬ (256 : Int) < (LL : Int) := by omega
            have HE : Hid (PO (.returned (.tuple #[.agg #[.string xs, .slice o2 LL c2], .int .i64 0])) ((wc.setCell ⟨w.heap.size + 1 + 1, 0, none⟩ (.string xs)).setCell ⟨w.heap.size + 1 + 1, 1, none⟩ (.slice o2 LL c2))) := hideS (by
             rw [HPO.out, HRr.out, if_neg hbg]
             refine ⟨_, rfl, ?_, (bw2.setCell (p := ⟨w.heap.size + 1 + 1, 0, none⟩) (by show w.heap.size ≤ w.heap.size + 1 + 1; omega) _).setCell (p := ⟨w.heap.size + 1 + 1, 1, none⟩) (by show w.heap.size ≤ w.heap.size + 1 + 1; omega) _⟩
             show World.ownsRow _ _ _ _ _ (A ++ EM).length _
             rw [HQ.out.2.2.2.2]
             exact own_fromS (ownsRow_setCell_below (ownsRow_setCell_below hO2 (a := ⟨w.heap.size + 1 + 1, 0, none⟩) hP2 _) (a := ⟨w.heap.size + 1 + 1, 1, none⟩) hP2 _) H11.out.2.2.2.1.size)
            have t9 := t2.set (.string xs) (.slice o2 LL c2)
            clear hO2 hT2 t2 bw2
            go_wp2_with fail
            generalize ((wc.setCell ⟨w.heap.size + 1 + 1, 0, none⟩ (.string xs)).setCell ⟨w.heap.size + 1 + 1, 1, none⟩ (.slice o2 LL c2)) = W9 at *
            obtain ⟨r0, r1, _, _⟩ := t9.cells
            exact bodyPost_ret (v := .tuple #[.agg #[.string xs, .slice o2 LL c2], .int .i64 0]) (by simp [results, Tryz.results26, go_sem, r0, r1]) rfl HE.out
  ·have e2b : (c2 != 0) = true := by simpa using e2
   obtain ⟨k0, k1, f0, f1⟩ := H2.out.2.2.1.cells
   have HE := hideS (errs.out c2 _ (by
    rw [← HRd.out]
    unfold splM
    rw [HX.out.1.1, HX.out.1.2, if_neg (by simp), if_pos e2]) (HSB.out w2 (.slice none 0 0) H2.out.2.2.2))
   have t9 := H2.out.2.2.1.set (.string ⟨#[]⟩) (.slice none 0 0)
   go_wp2_with fail
   generalize ((w2.setCell ⟨w.heap.size + 1 + 1, 0, none⟩ (.string ⟨#[]⟩)).setCell ⟨w.heap.size + 1 + 1, 1, none⟩ (.slice none 0 0)) = W9 at *
   obtain ⟨r0, r1, _, _⟩ := t9.cells
   exact bodyPost_ret (v := .tuple #[.agg #[.string ByteArray.empty, .slice none 0 0], .int .i64 c2]) (by simp [results, Tryz.results26, go_sem, r0, r1]; rfl) rfl HE.out
 ·have e1b : (c1 != 0) = true := by simpa using e1
  have e1c : (c1 == 0) = false := by simpa using e1
  obtain ⟨k0, k1, f0, f1⟩ := H1.out.2.2.1.cells
  have HE := hideS (errs.out c1 _ (by
   rw [← HRd.out]
   unfold splM
   rw [HX.out.1.1, if_pos e1]) (HSB.out w1 (.slice none 0 0) H1.out.2.2.2))
  have t9 := H1.out.2.2.1.set (.string ⟨#[]⟩) (.slice none 0 0)
  go_wp2_with fail
  generalize ((w1.setCell ⟨w.heap.size + 1 + 1, 0, none⟩ (.string ⟨#[]⟩)).setCell ⟨w.heap.size + 1 + 1, 1, none⟩ (.slice none 0 0)) = W9 at *
  obtain ⟨r0, r1, _, _⟩ := t9.cells
  exact bodyPost_ret (v := .tuple #[.agg #[.string ByteArray.empty, .slice none 0 0], .int .i64 c1]) (by simp [results, Tryz.results26, go_sem, r0, r1]; rfl) rfl HE.out
end Go.Proofs.YtlkgnheccoodpaaGreatDoor
