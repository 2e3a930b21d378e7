/- style.Splice at every argument (chapter 7). -/
import Derived.Test.YtbiodfeanngkdaaDoorSpI
namespace Go.Proofs.YtbiodfeanngkdaaDoor
open Go.RowKit Go.Shelf
attribute [local go_sem] Oper.semAt_some

/-- A text in a block of its own. -/
def Tx (W : World) (P : Nat) (a b : Value) : Prop := W.heap[P]? = some (.cells #[a, b] 24 (0, 0))
theorem Tx.lt {W : World} {P : Nat} {a b : Value} (h : Tx W P a b) : P < W.heap.size := (Array.getElem?_eq_some_iff.1 h).1
theorem Tx.keep {W V : World} {P : Nat} {a b : Value} (h : Tx W P a b) (k : Below W.heap.size W V) : Tx V P a b := (k.block P h.lt).trans h
theorem Tx.below {W V : World} {P m : Nat} {a b : Value} (h : Tx W P a b) (k : Below m W V) (hm : P < m) : Tx V P a b := (k.block P hm).trans h
theorem Tx.cells {W : World} {P : Nat} {a b : Value} (h : Tx W P a b) : W.cell? ⟨P, 0, none⟩ = some a ∧ W.cell? ⟨P, 1, none⟩ = some b ∧ W.frozen? ⟨P, 0, none⟩ = false ∧ W.frozen? ⟨P, 1, none⟩ = false := by
  unfold Tx at h
  simp [World.cell?, World.frozen?, h]
theorem Tx.new (w : World) (a b : Value) : Tx (w.alloc (.cells #[a, b] 24)) w.heap.size a b := World.alloc_heap_new w _
theorem Tx.set {W : World} {P : Nat} {a b : Value} (h : Tx W P a b) (c d : Value) : Tx ((W.setCell ⟨P, 0, none⟩ c).setCell ⟨P, 1, none⟩ d) P c d := by
  have h9 := set_atS (set_atS h 0 c) 1 d
  unfold Tx
  rw [h9]
  rfl
/-- What Splice tells: an error, or a text. -/
def splM (s : ByteArray) (D : List Sp) (a b : Int) (u : ByteArray) (E : List Sp) : Int × ByteArray × List Sp :=
  if chkT s D ≠ 0 then (chkT s D, ByteArray.empty, []) else if chkT u E ≠ 0 then (chkT u E, ByteArray.empty, [])
  else if betB a b (signs s).length = false then (1, ByteArray.empty, [])
  else if (glueM [cutM s 0 a.toNat, u, cutM s b.toNat (signs s).length]).2 ≠ 0 then ((glueM [cutM s 0 a.toNat, u, cutM s b.toNat (signs s).length]).2, ByteArray.empty, [])
  else if 256 < (aroundM a b (signs u).length (isort ltS D) ++ E.map (mvS a)).length then (2, ByteArray.empty, [])
  else (0, (glueM [cutM s 0 a.toNat, u, cutM s b.toNat (signs s).length]).1, aroundM a b (signs u).length (isort ltS D) ++ E.map (mvS a))
theorem chkT_ok {s : ByteArray} {D : List Sp} (h : chkT s D = 0) : s.size ≤ 4096 ∧ D.length ≤ 256 := by
  unfold chkT at h
  by_cases h1 : 4096 < s.size
  · rw [if_pos h1] at h; omega
  · rw [if_neg h1] at h
    by_cases h2 : 256 < D.length
    · rw [if_pos h2] at h; omega
    · omega
theorem signs_le (s : ByteArray) : (signs s).length ≤ s.size := sgns_length s s.size 0
theorem cutM_size (s : ByteArray) (i j : Nat) : (cutM s i j).size ≤ s.size := by unfold cutM; rw [ByteArray.size_extract]; omega
theorem aroundM_len (a b c : Int) (D : List Sp) : (aroundM a b c D).length ≤ D.length := by
  unfold aroundM
  exact Nat.le_trans (List.length_filter_le _ _) (by simp)
/-- The answer of Splice in memory. -/
def SplAns (w : World) (R : Int × ByteArray × List Sp) (e : Ending) (w' : World) : Prop :=
  ∃ v, e = .returned (.tuple #[.agg #[.string R.2.1, v], .int .i64 R.1]) ∧ w'.ownsRow w.heap.size 45 4 v R.2.2.length (flat4 R.2.2) ∧ Below w.heap.size w w'
theorem strR_new (w : World) (x y z : ByteArray) : StrR (w.alloc (.cells #[.string x, .string y, .string z] 9)) w.heap.size [x, y, z] := fun i s h => by
  have e0 : (w.alloc (.cells #[.string x, .string y, .string z] 9)).heap[w.heap.size]? = _ := World.alloc_heap_new w _
  match i, h with
  | 0, h | 1, h | 2, h =>
    simp at h
    subst h
    unfold World.cell?
    rw [e0]
    rfl
  | n + 3, h => simp at h
theorem pairA (w : World) (a b : Value) (t : TypeId) : (w.alloc (.cells #[a, b] t)).cell? ⟨w.heap.size, 0, none⟩ = some a := two_cellsA w a b t
theorem pairB (w : World) (a b : Value) (t : TypeId) : (w.alloc (.cells #[a, b] t)).cell? ⟨w.heap.size, 1, none⟩ = some b := two_cellsB w a b t
theorem gl_size {w W V : World} (h : Below W.heap.size W V) (hw : 2 ≤ w.heap.size) (k : Below w.heap.size w W) (o : Obj) : 2 ≤ (V.alloc o).heap.size := by
  have := h.size
  have := k.size
  rw [World.size_alloc]
  omega
set_option maxRecDepth 100000 in
set_option maxHeartbeats 4000000 in
theorem splice_any (s u : ByteArray) (D E : List Sp) (oa ob : Option Addr) (ca cb : Nat) (a b : Int) (hs : s.size ≤ 140737488355328) (hu : u.size ≤ 140737488355328) (hca : D.length ≤ ca ∧ ca ≤ maxLen) (hcb : E.length ≤ cb ∧ cb ≤ maxLen)
    (hna : oa = none → D = [] ∧ ca = 0) (hnb : ob = none → E = [] ∧ cb = 0) (w : World) (hw : 2 ≤ w.heap.size) (hT : Lib.Utf8Tabs 0 1 w) (hRa : SpO w oa D) (hRb : SpO w ob E) :
    Calls Tryd.prog 8 #[.agg #[.string s, .slice oa D.length ca], .int .i64 a, .int .i64 b, .agg #[.string u, .slice ob E.length cb]] w (SplAns w (splM s D a b u E)) := by
  have HC1 := hideS (fun (W : World) (h : Below w.heap.size w W) => check7_any s D oa ca hs hca hna W (hRa.keep h))
  have HC2 := hideS (fun (W : World) (h : Below w.heap.size w W) => check7_any u E ob cb hu hcb hnb W (hRb.keep h))
  have HCt := hideS (fun (W : World) => count7_any s W hs)
  have HCu := hideS (fun (W : World) => count7_any u W hu)
  obtain ⟨R, hR⟩ : ∃ R, splM s D a b u E = R := ⟨_, rfl⟩
  rw [hR]
  have HRd := hideS hR
  obtain ⟨c1, hc1⟩ : ∃ c, chkT s D = c := ⟨_, rfl⟩
  obtain ⟨c2, hc2⟩ : ∃ c, chkT u E = c := ⟨_, rfl⟩
  obtain ⟨n, hn⟩ : ∃ n, (signs s).length = n := ⟨_, rfl⟩
  obtain ⟨m, hm⟩ : ∃ m, (signs u).length = m := ⟨_, rfl⟩
  obtain ⟨ND, hND⟩ : ∃ ND, D.length = ND := ⟨_, rfl⟩
  obtain ⟨NE, hNE⟩ : ∃ NE, E.length = NE := ⟨_, rfl⟩
  have HX := hideS (And.intro (And.intro hc1 hc2) (And.intro (And.intro hn hm) (And.intro hND hNE)))
  have HY := hideS (And.intro (And.intro hRa hRb) (And.intro (And.intro hna hnb) (And.intro hT (And.intro hca hcb))))
  rw [hc1, hND] at HC1
  rw [hc2, hNE] at HC2
  rw [hn] at HCt
  rw [hm] at HCu
  rw [hND, hNE]
  clear hRa hRb hna hnb hT hca hcb hR hc1 hc2 hn hm hND hNE
  obtain ⟨PO, hPO⟩ : ∃ PO : Ending → World → Prop, PO = SplAns w R := ⟨_, rfl⟩
  rw [← hPO]
  have HPO := hideS hPO
  clear hPO
  have errs : Hid (∀ (er : Int) (W : World), R = (er, ByteArray.empty, []) → Below w.heap.size w W → PO (.returned (.tuple #[.agg #[.string ByteArray.empty, .slice none 0 0], .int .i64 er])) W) := hideS (fun er W h1 h2 => by
    rw [HPO.out, h1]
    exact ⟨_, rfl, World.ownsRow_nil _ _ _ _, h2⟩)
  go_enter Tryd.func8, Tryd.ntmps8
  go_wp2_with fail
  obtain ⟨W0, hW0⟩ : ∃ W0, ((w.alloc (.cells #[.string s, .slice oa ND ca] 24)).alloc (.cells #[.string u, .slice ob NE cb] 24)).alloc (.cells #[.string ⟨#[]⟩, .slice none 0 0] 24) = W0 := ⟨_, rfl⟩
  have t0 : Tx W0 w.heap.size (.string s) (.slice oa ND ca) := by rw [← hW0]; exact ((Tx.new w _ _).keep (bel1S _ _)).keep (bel1S _ _)
  have t1 : Tx W0 (w.heap.size + 1) (.string u) (.slice ob NE cb) := by
    rw [← hW0]
    have h9 := Tx.new (w.alloc (.cells #[.string s, .slice oa ND ca] 24)) (.string u) (.slice ob NE cb)
    rw [World.size_alloc] at h9
    exact h9.keep (bel1S _ _)
  have t2 : Tx W0 (w.heap.size + 1 + 1) (.string ⟨#[]⟩) (.slice none 0 0) := by
    rw [← hW0]
    have h9 := Tx.new ((w.alloc (.cells #[.string s, .slice oa ND ca] 24)).alloc (.cells #[.string u, .slice ob NE cb] 24)) (.string ⟨#[]⟩) (.slice none 0 0)
    rw [World.size_alloc, World.size_alloc] at h9
    exact h9
  have b0 : Below w.heap.size w W0 := by rw [← hW0]; exact bupS (bel1S _ _) (bupS (bel1S _ _) (bel1S _ _))
  rw [hW0]
  have H0 := hideS (And.intro t0 (And.intro t1 (And.intro t2 b0)))
  clear hW0 t0 t1 t2 b0
  refine (HC1.out W0 H0.out.2.2.2).mono ?_
  rintro e w1 ⟨rfl, b1⟩
  have H1 := hideS (show Tx w1 w.heap.size (.string s) (.slice oa ND ca) ∧ Tx w1 (w.heap.size + 1) (.string u) (.slice ob NE cb) ∧ Tx w1 (w.heap.size + 1 + 1) (.string ⟨#[]⟩) (.slice none 0 0) ∧ Below w.heap.size w w1 from ⟨H0.out.1.keep b1, H0.out.2.1.keep b1, H0.out.2.2.1.keep b1, bupS H0.out.2.2.2 b1⟩)
  clear b1 H0 HC1
  by_cases e1 : c1 = 0
  · subst e1
    obtain ⟨k0, k1, _, _⟩ := H1.out.2.1.cells
    go_wp2_with fail
    refine (HC2.out w1 H1.out.2.2.2).mono ?_
    rintro e w2 ⟨rfl, b2⟩
    have H2 := hideS (show Tx w2 w.heap.size (.string s) (.slice oa ND ca) ∧ Tx w2 (w.heap.size + 1) (.string u) (.slice ob NE cb) ∧ Tx w2 (w.heap.size + 1 + 1) (.string ⟨#[]⟩) (.slice none 0 0) ∧ Below w.heap.size w w2 from ⟨H1.out.1.keep b2, H1.out.2.1.keep b2, H1.out.2.2.1.keep b2, bupS H1.out.2.2.2 b2⟩)
    clear b2 H1 HC2 k0 k1
    by_cases e2 : c2 = 0
    · subst e2
      have hok1 := chkT_ok HX.out.1.1
      have hok2 := chkT_ok HX.out.1.2
      have hn4 := signs_le s
      have hm4 := signs_le u
      rw [HX.out.2.1.1] at hn4
      rw [HX.out.2.1.2] at hm4
      rw [HX.out.2.2.1] at hok1
      rw [HX.out.2.2.2] at hok2
      obtain ⟨k0, k1, _, _⟩ := H2.out.1.cells
      go_wp2_with fail
      refine (HCt.out w2).mono ?_
      rintro e w3 ⟨rfl, b3⟩
      have H3 := hideS (show Tx w3 w.heap.size (.string s) (.slice oa ND ca) ∧ Tx w3 (w.heap.size + 1) (.string u) (.slice ob NE cb) ∧ Tx w3 (w.heap.size + 1 + 1) (.string ⟨#[]⟩) (.slice none 0 0) ∧ Below w.heap.size w w3 from ⟨H2.out.1.keep b3, H2.out.2.1.keep b3, H2.out.2.2.1.keep b3, bupS H2.out.2.2.2 b3⟩)
      clear b3 H2 HCt k0 k1
      go_wp2_with fail
      refine (between_any a b n w3).mono ?_
      rintro e w4 ⟨rfl, rfl⟩
      obtain ⟨bt, hbt⟩ : ∃ bt, betB a b n = bt := ⟨_, rfl⟩
      rw [hbt]
      cases bt with
      | false =>
        obtain ⟨k0, k1, f0, f1⟩ := H3.out.2.2.1.cells
        have HE := hideS (errs.out 1 ((w4.setCell ⟨w.heap.size + 1 + 1, 0, none⟩ (.string ⟨#[]⟩)).setCell ⟨w.heap.size + 1 + 1, 1, none⟩ (.slice none 0 0)) (by
          rw [← HRd.out]
          unfold splM
          rw [HX.out.1.1, HX.out.1.2, HX.out.2.1.1, hbt]
          rfl) ((H3.out.2.2.2.setCell (p := ⟨w.heap.size + 1 + 1, 0, none⟩) (by show w.heap.size ≤ w.heap.size + 1 + 1; omega) _).setCell (p := ⟨w.heap.size + 1 + 1, 1, none⟩) (by show w.heap.size ≤ w.heap.size + 1 + 1; omega) _))
        have t9 := H3.out.2.2.1.set (.string ⟨#[]⟩) (.slice none 0 0)
        go_wp2_with fail
        generalize ((w4.setCell ⟨w.heap.size + 1 + 1, 0, none⟩ (.string ⟨#[]⟩)).setCell ⟨w.heap.size + 1 + 1, 1, none⟩ (.slice none 0 0)) = W9 at *
        obtain ⟨r0, r1, _, _⟩ := t9.cells
        exact bodyPost_ret (v := .tuple #[.agg #[.string ByteArray.empty, .slice none 0 0], .int .i64 1]) (by simp [results, Tryd.results8, go_sem, r0, r1]; rfl) rfl HE.out
      | true =>
        have hb3 := of_decide_eq_true (show decide (0 ≤ a ∧ a ≤ b ∧ b ≤ n) = true from hbt)
        obtain ⟨i, rfl⟩ : ∃ i : Nat, a = (i : Int) := ⟨a.toNat, by omega⟩
        obtain ⟨j, rfl⟩ : ∃ j : Nat, b = (j : Int) := ⟨b.toNat, by omega⟩
        obtain ⟨x, hx⟩ : ∃ x, cutM s 0 i = x := ⟨_, rfl⟩
        obtain ⟨y, hy⟩ : ∃ y, cutM s j n = y := ⟨_, rfl⟩
        have hxs := cutM_size s 0 i
        have hys := cutM_size s j n
        have HS1 := hideS (fun W => signsOf_any s hs 0 i (by omega) (by rw [HX.out.2.1.1]; omega) W)
        have HS2 := hideS (fun W => signsOf_any s hs j n (by omega) (by rw [HX.out.2.1.1]; omega) W)
        rw [hx] at HS1 hxs
        rw [hy] at HS2 hys
        change Hid (∀ W, Calls Tryd.prog 20 #[.string s, .int .i64 0, .int .i64 (i : Nat)] W fun e w' => e = .returned (.string x) ∧ Below W.heap.size W w') at HS1
        obtain ⟨g, hg⟩ : ∃ g, glueM [x, u, y] = g := ⟨_, rfl⟩
        have HGl := hideS (fun (W : World) (G : Nat) (h2 : 2 ≤ W.heap.size) (hT : Lib.Utf8Tabs 0 1 W) (hG : G < W.heap.size) (hR : StrR W G [x, u, y]) => glue_any [x, u, y] G 3 (by simp) (by simp [lenB]; omega) W h2 hT hG hR)
        rw [hg] at HGl
        change Hid (∀ (W : World) (G : Nat), 2 ≤ W.heap.size → Lib.Utf8Tabs 0 1 W → G < W.heap.size → StrR W G [x, u, y] → Calls Tryd.prog 19 #[.slice (some ⟨G, 0, none⟩) 3 3] W fun e w' => e = .returned (.tuple #[.string g.1, .int .i64 g.2]) ∧ Below W.heap.size W w') at HGl
        have HRr : Hid (R = if g.2 ≠ 0 then (g.2, ByteArray.empty, []) else if 256 < (aroundM i j m (isort ltS D) ++ E.map (mvS i)).length then (2, ByteArray.empty, []) else (0, g.1, aroundM i j m (isort ltS D) ++ E.map (mvS i))) := hideS (by
          rw [← HRd.out]
          unfold splM
          rw [HX.out.1.1, HX.out.1.2, HX.out.2.1.1, HX.out.2.1.2, hbt, if_neg (by simp), if_neg (by simp), if_neg (by simp), Int.toNat_natCast, Int.toNat_natCast, hx, hy, hg])
        obtain ⟨gs, ge⟩ := g
        simp only at HGl HRr
        obtain ⟨k0, k1, _, _⟩ := H3.out.1.cells
        obtain ⟨k2, k3, _, _⟩ := H3.out.2.1.cells
        have hl0 := H3.out.1.lt
        have hl1 := H3.out.2.1.lt
        have hl2 := H3.out.2.2.1.lt
        clear hbt hb3 hx hy hg
        go_upto_region 10 with fail
        go_cut [13, 14] (fun sv ev wx => sv = .string gs ∧ ev = .int .i64 ge ∧ Below w4.heap.size w4 wx)
        case first =>
          go_region_held3 (fun w' => w'.cell? ⟨w.heap.size, 0, none⟩ = some (.string s) ∧ w'.cell? ⟨w.heap.size + 1, 0, none⟩ = some (.string u)) (first | go_keep | assumption | exact kA9 | exact kB9 | exact kC9) (first
            | (go_at_call 20; first
              | ((with_reducible refine (HS1.out _).mono ?_); rintro e wA ⟨rfl, bA⟩; have bA : Below w4.heap.size w4 wA := (by first | exact ⟨bA.os, bA.tape, bA.output, bA.size, bA.block⟩ | exact bA); have kA9 : wA.cell? ⟨w.heap.size, 0, none⟩ = some (.string s) ∧ wA.cell? ⟨w.heap.size + 1, 0, none⟩ = some (.string u) := ⟨(bA.cell (p := ⟨w.heap.size, 0, none⟩) hl0).trans k0, (bA.cell (p := ⟨w.heap.size + 1, 0, none⟩) hl1).trans k2⟩; have HbA := hideS bA; clear bA)
              | ((with_reducible refine (HS2.out _).mono ?_); rintro e wB ⟨rfl, bB⟩; have bB : Below w4.heap.size w4 wB := bupS HbA.out bB; have kB9 : wB.cell? ⟨w.heap.size, 0, none⟩ = some (.string s) ∧ wB.cell? ⟨w.heap.size + 1, 0, none⟩ = some (.string u) := ⟨(bB.cell (p := ⟨w.heap.size, 0, none⟩) hl0).trans k0, (bB.cell (p := ⟨w.heap.size + 1, 0, none⟩) hl1).trans k2⟩; have HbB := hideS bB; clear bB))
            | (go_at_call 19; (with_reducible refine (HGl.out _ wB.heap.size (gl_size HbB.out hw H3.out.2.2.2 _) (tabs_below hw HY.out.2.2.1 (bupS H3.out.2.2.2 (bupS HbB.out (bel1S _ _)))) (by simp) (strR_new wB x u y)).mono ?_); rintro e wC ⟨rfl, bC⟩; have bC : Below w4.heap.size w4 wC := bupS (bupS HbB.out (bel1S _ _)) bC; have kC9 : wC.cell? ⟨w.heap.size, 0, none⟩ = some (.string s) ∧ wC.cell? ⟨w.heap.size + 1, 0, none⟩ = some (.string u) := ⟨(bC.cell (p := ⟨w.heap.size, 0, none⟩) hl0).trans k0, (bC.cell (p := ⟨w.heap.size + 1, 0, none⟩) hl1).trans k2⟩; have HbC := hideS bC; clear bC))
          all_goals first | go_wp2_with fail | skip
          all_goals go_meet
          all_goals exact ⟨rfl, rfl, HbC.out⟩
        case rest =>
          obtain ⟨rfl, rfl, bc⟩ := hcut
          have H4 := hideS (show Tx wc w.heap.size (.string s) (.slice oa ND ca) ∧ Tx wc (w.heap.size + 1) (.string u) (.slice ob NE cb) ∧ Tx wc (w.heap.size + 1 + 1) (.string ⟨#[]⟩) (.slice none 0 0) ∧ Below w.heap.size w wc from ⟨H3.out.1.keep bc, H3.out.2.1.keep bc, H3.out.2.2.1.keep bc, bupS H3.out.2.2.2 bc⟩)
          clear bc H3 HS1 HS2 HGl k0 k1 k2 k3 hl0 hl1 hl2 HRd
          by_cases hge : ge = 0
          · subst hge
            rw [if_neg (by simp)] at HRr
            obtain ⟨k2, k3, _, _⟩ := H4.out.2.1.cells
            go_wp2_with fail
            refine (HCu.out wc).mono ?_
            rintro e w5 ⟨rfl, b5⟩
            have H5 := hideS (show Tx w5 w.heap.size (.string s) (.slice oa ND ca) ∧ Tx w5 (w.heap.size + 1) (.string u) (.slice ob NE cb) ∧ Tx w5 (w.heap.size + 1 + 1) (.string ⟨#[]⟩) (.slice none 0 0) ∧ Below w.heap.size w w5 from ⟨H4.out.1.keep b5, H4.out.2.1.keep b5, H4.out.2.2.1.keep b5, bupS H4.out.2.2.2 b5⟩)
            clear b5 H4 k2 k3 HCu
            obtain ⟨V, hV⟩ : ∃ V, w5.alloc (.cells #[.int .i64 (i : Nat), .int .i64 (j : Nat), .int .i64 (m : Nat)] 60) = V := ⟨_, rfl⟩
            have nH : V.heap[w5.heap.size]? = some (.cells #[.int .i64 (i : Nat), .int .i64 (j : Nat), .int .i64 (m : Nat)] 60 (0, 0)) := by rw [← hV]; exact World.alloc_heap_new w5 _
            have bV : Below w5.heap.size w5 V := by rw [← hV]; exact bel1S _ _
            have H6 := hideS (show Tx V w.heap.size (.string s) (.slice oa ND ca) ∧ Tx V (w.heap.size + 1) (.string u) (.slice ob NE cb) ∧ Tx V (w.heap.size + 1 + 1) (.string ⟨#[]⟩) (.slice none 0 0) ∧ (w.heap.size + 1 + 1 < w5.heap.size) ∧ Below w.heap.size w V from ⟨H5.out.1.keep bV, H5.out.2.1.keep bV, H5.out.2.2.1.keep bV, H5.out.2.2.1.lt, bupS H5.out.2.2.2 bV⟩)
            have hHl : w5.heap.size < V.heap.size := (Array.getElem?_eq_some_iff.1 nH).1
            have q0 : V.cell? ⟨w5.heap.size, 0, none⟩ = some (.int .i64 (i : Nat)) := by simp [World.cell?, nH]
            have q1 : V.cell? ⟨w5.heap.size, 1, none⟩ = some (.int .i64 (j : Nat)) := by simp [World.cell?, nH]
            have q2 : V.cell? ⟨w5.heap.size, 2, none⟩ = some (.int .i64 (m : Nat)) := by simp [World.cell?, nH]
            have q3 := H6.out.1.cells.2.1
            have q4 := H6.out.2.1.cells.2.1
            have hP0 := H6.out.1.lt
            have hP1 := H6.out.2.1.lt
            have hP2 := H6.out.2.2.1.lt
            have hne1 : w.heap.size + 1 + 1 ≠ w5.heap.size := by have := H6.out.2.2.2.1; omega
            obtain ⟨Hb, hHb⟩ : ∃ Hb, w5.heap.size = Hb := ⟨_, rfl⟩
            have hAl := aroundM_len i j m (isort ltS D)
            rw [isort_length, HX.out.2.2.1] at hAl
            have HAr := hideS (fun (W : World) (h : Below w.heap.size w W) => around_any D oa ca i j m (by rw [HX.out.2.2.1]; omega) HY.out.2.1.1 W (HY.out.1.1.keep h))
            have HMv := hideS (fun (W : World) (h : Below w.heap.size w W) => moved_any E ob cb i (by rw [HX.out.2.2.2]; omega) HY.out.2.1.2 W (HY.out.1.2.keep h))
            rw [HX.out.2.2.1] at HAr
            rw [HX.out.2.2.2] at HMv
            have hBl : (E.map (mvS i)).length = NE := by rw [List.length_map, HX.out.2.2.2]
            generalize aroundM i j m (isort ltS D) = A at *
            generalize E.map (mvS i) = B at *
            obtain ⟨LA, hA9⟩ : ∃ LA, A.length = LA := ⟨_, rfl⟩
            rw [hA9] at HAr hAl
            have hLA := hideS hA9
            have hLB := hideS hBl
            obtain ⟨LL, hL9⟩ : ∃ LL, LA + NE = LL := ⟨_, rfl⟩
            have hLL : Hid ((A ++ B).length = LL) := hideS (by rw [List.length_append, hA9, hBl, hL9])
            have HCc := hideS (fun (W : World) (o1 o2 : Option Addr) (c1 c2 G : Nat) (h1 : o1 = none → A = [] ∧ c1 = 0) (h2 : o2 = none → B = [] ∧ c2 = 0) (hr1 : SpO W o1 A) (hr2 : SpO W o2 B) (g0 : W.cell? ⟨G, 0, none⟩ = some (.slice o1 A.length c1)) (g1 : W.cell? ⟨G, 1, none⟩ = some (.slice o2 B.length c2)) (hG : G < W.heap.size) => concat_any A B o1 o2 c1 c2 G (by omega) (by omega) h1 h2 W hr1 hr2 g0 g1 hG)
            rw [hLL.out] at HCc HRr
            rw [hA9, hBl] at HCc
            clear hA9 hBl hL9 nH bV
            go_upto_region 14 with fail
            rw [hHb] at q0 q1 q2 hHl hne1
            clear hV
            have hne0 : w.heap.size + 1 + 1 ≠ w.heap.size := by omega
            have Hdr : Hid (Below w.heap.size w V.drew) := hideS H6.out.2.2.2.2.drew
            by_cases hbig : 256 < LL
            · rw [if_pos hbig] at HRr
              have HTo := hideS (fun (W : World) (o : Option Addr) (c : Nat) => (by have h := textOf_any gs o LL c W; rw [if_pos hbig] at h; exact h : Calls Tryd.prog 21 #[.string gs, .slice o LL c] W fun e w' => e = .returned (.tuple #[.agg #[.string ByteArray.empty, .slice none 0 0], .int .i64 2]) ∧ Below W.heap.size W w'))
              go_region_held3 (fun w' => w'.cell? ⟨Hb, 0, none⟩ = some (.int .i64 (i : Nat)) ∧ w'.cell? ⟨Hb, 1, none⟩ = some (.int .i64 (j : Nat)) ∧ w'.cell? ⟨Hb, 2, none⟩ = some (.int .i64 (m : Nat)) ∧ w'.cell? ⟨w.heap.size, 1, none⟩ = some (.slice oa ND ca) ∧ w'.cell? ⟨w.heap.size + 1, 1, none⟩ = some (.slice ob NE cb)) (first | go_keep | assumption | exact kA9 | exact kB9 | exact kC9 | exact kD9 | (simp [*, World.cell?_setCell_far]; done)) (first
                | (go_at_call 23; (with_reducible refine (HAr.out V.drew Hdr.out).mono ?_); rintro e wA ⟨v1, rfl, own1, bA⟩; obtain ⟨o1, cp1, rfl, hc1, hn1, hR1⟩ := own_flat own1 hLA.out; have bA : Below V.heap.size V wA := (by first | exact ⟨bA.os, bA.tape, bA.output, bA.size, bA.block⟩ | exact bA); have kA9 : wA.cell? ⟨Hb, 0, none⟩ = some (.int .i64 (i : Nat)) ∧ wA.cell? ⟨Hb, 1, none⟩ = some (.int .i64 (j : Nat)) ∧ wA.cell? ⟨Hb, 2, none⟩ = some (.int .i64 (m : Nat)) ∧ wA.cell? ⟨w.heap.size, 1, none⟩ = some (.slice oa ND ca) ∧ wA.cell? ⟨w.heap.size + 1, 1, none⟩ = some (.slice ob NE cb) := ⟨(bA.cell (p := ⟨Hb, 0, none⟩) hHl).trans q0, (bA.cell (p := ⟨Hb, 1, none⟩) hHl).trans q1, (bA.cell (p := ⟨Hb, 2, none⟩) hHl).trans q2, (bA.cell (p := ⟨w.heap.size, 1, none⟩) hP0).trans q3, (bA.cell (p := ⟨w.heap.size + 1, 1, none⟩) hP1).trans q4⟩; have HbA := hideS (And.intro bA (And.intro hR1 hn1)); clear bA hR1 hn1 own1)
                | (go_at_call 24; (with_reducible refine (HMv.out _ (bupS H6.out.2.2.2.2 HbA.out.1)).mono ?_); rintro e wB ⟨v2, rfl, own2, bB⟩; obtain ⟨o2, cp2, rfl, hc2, hn2, hR2⟩ := own_flat own2 hLB.out; have bAB := bB; have bB : Below V.heap.size V wB := bupS HbA.out.1 bB; have kB9 : wB.cell? ⟨Hb, 0, none⟩ = some (.int .i64 (i : Nat)) ∧ wB.cell? ⟨Hb, 1, none⟩ = some (.int .i64 (j : Nat)) ∧ wB.cell? ⟨Hb, 2, none⟩ = some (.int .i64 (m : Nat)) ∧ wB.cell? ⟨w.heap.size, 1, none⟩ = some (.slice oa ND ca) ∧ wB.cell? ⟨w.heap.size + 1, 1, none⟩ = some (.slice ob NE cb) := ⟨(bB.cell (p := ⟨Hb, 0, none⟩) hHl).trans q0, (bB.cell (p := ⟨Hb, 1, none⟩) hHl).trans q1, (bB.cell (p := ⟨Hb, 2, none⟩) hHl).trans q2, (bB.cell (p := ⟨w.heap.size, 1, none⟩) hP0).trans q3, (bB.cell (p := ⟨w.heap.size + 1, 1, none⟩) hP1).trans q4⟩; have HbB := hideS (And.intro bB (And.intro (HbA.out.2.1.keep bAB) (And.intro hR2 hn2))); clear bB hR2 hn2 own2 bAB)
                | (go_at_call 22; (with_reducible refine (HCc.out _ o1 o2 cp1 cp2 wB.heap.size HbA.out.2.2 HbB.out.2.2.2 (HbB.out.2.1.keep (bel1S _ _)) (HbB.out.2.2.1.keep (bel1S _ _)) (pairA _ _ _ _) (pairB _ _ _ _) (by simp)).mono ?_); rintro e wC ⟨v3, rfl, own3, bC⟩; obtain ⟨o3, c3, rfl, hc3, hn3, hR3⟩ := own_flat own3 hLL.out; have bC : Below V.heap.size V wC := bupS (bupS HbB.out.1 (bel1S _ _)) bC; have kC9 : wC.cell? ⟨Hb, 0, none⟩ = some (.int .i64 (i : Nat)) ∧ wC.cell? ⟨Hb, 1, none⟩ = some (.int .i64 (j : Nat)) ∧ wC.cell? ⟨Hb, 2, none⟩ = some (.int .i64 (m : Nat)) ∧ wC.cell? ⟨w.heap.size, 1, none⟩ = some (.slice oa ND ca) ∧ wC.cell? ⟨w.heap.size + 1, 1, none⟩ = some (.slice ob NE cb) := ⟨(bC.cell (p := ⟨Hb, 0, none⟩) hHl).trans q0, (bC.cell (p := ⟨Hb, 1, none⟩) hHl).trans q1, (bC.cell (p := ⟨Hb, 2, none⟩) hHl).trans q2, (bC.cell (p := ⟨w.heap.size, 1, none⟩) hP0).trans q3, (bC.cell (p := ⟨w.heap.size + 1, 1, none⟩) hP1).trans q4⟩; have HbC := hideS (And.intro bC (own_fromS own3 (show V.heap.size ≤ _ from by have := HbB.out.1.size; simp; omega))); clear bC own3 hn3 hR3)
                | (go_at_call 21; (with_reducible refine (HTo.out _ o3 c3).mono ?_); rintro e wD ⟨rfl, bD⟩; have bCD := bD; have bD : Below V.heap.size V wD := bupS HbC.out.1 bD; have kD9 : wD.cell? ⟨Hb, 0, none⟩ = some (.int .i64 (i : Nat)) ∧ wD.cell? ⟨Hb, 1, none⟩ = some (.int .i64 (j : Nat)) ∧ wD.cell? ⟨Hb, 2, none⟩ = some (.int .i64 (m : Nat)) ∧ wD.cell? ⟨w.heap.size, 1, none⟩ = some (.slice oa ND ca) ∧ wD.cell? ⟨w.heap.size + 1, 1, none⟩ = some (.slice ob NE cb) := ⟨(bD.cell (p := ⟨Hb, 0, none⟩) hHl).trans q0, (bD.cell (p := ⟨Hb, 1, none⟩) hHl).trans q1, (bD.cell (p := ⟨Hb, 2, none⟩) hHl).trans q2, (bD.cell (p := ⟨w.heap.size, 1, none⟩) hP0).trans q3, (bD.cell (p := ⟨w.heap.size + 1, 1, none⟩) hP1).trans q4⟩; obtain ⟨z0, z1, z2, z3⟩ := (H6.out.2.2.1.keep bD).cells; have HbD := hideS (And.intro bD (own_keepS HbC.out.2 bCD)); clear bD bCD))
              have HE := hideS (errs.out 2 ((wD.setCell ⟨w.heap.size + 1 + 1, 0, none⟩ (.string ByteArray.empty)).setCell ⟨w.heap.size + 1 + 1, 1, none⟩ (.slice none 0 0)) HRr.out (((bupS H6.out.2.2.2.2 HbD.out.1).setCell (p := ⟨w.heap.size + 1 + 1, 0, none⟩) (by show w.heap.size ≤ w.heap.size + 1 + 1; omega) _).setCell (p := ⟨w.heap.size + 1 + 1, 1, none⟩) (by show w.heap.size ≤ w.heap.size + 1 + 1; omega) _))
              have t9 := (H6.out.2.2.1.keep HbD.out.1).set (.string ByteArray.empty) (.slice none 0 0)
              first | go_wp2_with fail | skip
              generalize ((wD.setCell ⟨w.heap.size + 1 + 1, 0, none⟩ (.string ByteArray.empty)).setCell ⟨w.heap.size + 1 + 1, 1, none⟩ (.slice none 0 0)) = W9 at *
              obtain ⟨r0, r1, _, _⟩ := t9.cells
              exact bodyPost_ret (v := .tuple #[.agg #[.string ByteArray.empty, .slice none 0 0], .int .i64 2]) (by simp [results, Tryd.results8, go_sem, r0, r1]) rfl HE.out
            · rw [if_neg hbig] at HRr
              have HTo := hideS (fun (W : World) (o : Option Addr) (c : Nat) => (by have h := textOf_any gs o LL c W; rw [if_neg hbig] at h; exact h : Calls Tryd.prog 21 #[.string gs, .slice o LL c] W fun e w' => e = .returned (.tuple #[.agg #[.string gs, .slice o LL c], .int .i64 0]) ∧ Below W.heap.size W w'))
              go_region_held3 (fun w' => w'.cell? ⟨Hb, 0, none⟩ = some (.int .i64 (i : Nat)) ∧ w'.cell? ⟨Hb, 1, none⟩ = some (.int .i64 (j : Nat)) ∧ w'.cell? ⟨Hb, 2, none⟩ = some (.int .i64 (m : Nat)) ∧ w'.cell? ⟨w.heap.size, 1, none⟩ = some (.slice oa ND ca) ∧ w'.cell? ⟨w.heap.size + 1, 1, none⟩ = some (.slice ob NE cb)) (first | go_keep | assumption | exact kA9 | exact kB9 | exact kC9 | exact kD9 | (simp [*, World.cell?_setCell_far]; done)) (first
                | (go_at_call 23; (with_reducible refine (HAr.out V.drew Hdr.out).mono ?_); rintro e wA ⟨v1, rfl, own1, bA⟩; obtain ⟨o1, cp1, rfl, hc1, hn1, hR1⟩ := own_flat own1 hLA.out; have bA : Below V.heap.size V wA := (by first | exact ⟨bA.os, bA.tape, bA.output, bA.size, bA.block⟩ | exact bA); have kA9 : wA.cell? ⟨Hb, 0, none⟩ = some (.int .i64 (i : Nat)) ∧ wA.cell? ⟨Hb, 1, none⟩ = some (.int .i64 (j : Nat)) ∧ wA.cell? ⟨Hb, 2, none⟩ = some (.int .i64 (m : Nat)) ∧ wA.cell? ⟨w.heap.size, 1, none⟩ = some (.slice oa ND ca) ∧ wA.cell? ⟨w.heap.size + 1, 1, none⟩ = some (.slice ob NE cb) := ⟨(bA.cell (p := ⟨Hb, 0, none⟩) hHl).trans q0, (bA.cell (p := ⟨Hb, 1, none⟩) hHl).trans q1, (bA.cell (p := ⟨Hb, 2, none⟩) hHl).trans q2, (bA.cell (p := ⟨w.heap.size, 1, none⟩) hP0).trans q3, (bA.cell (p := ⟨w.heap.size + 1, 1, none⟩) hP1).trans q4⟩; have HbA := hideS (And.intro bA (And.intro hR1 hn1)); clear bA hR1 hn1 own1)
                | (go_at_call 24; (with_reducible refine (HMv.out _ (bupS H6.out.2.2.2.2 HbA.out.1)).mono ?_); rintro e wB ⟨v2, rfl, own2, bB⟩; obtain ⟨o2, cp2, rfl, hc2, hn2, hR2⟩ := own_flat own2 hLB.out; have bAB := bB; have bB : Below V.heap.size V wB := bupS HbA.out.1 bB; have kB9 : wB.cell? ⟨Hb, 0, none⟩ = some (.int .i64 (i : Nat)) ∧ wB.cell? ⟨Hb, 1, none⟩ = some (.int .i64 (j : Nat)) ∧ wB.cell? ⟨Hb, 2, none⟩ = some (.int .i64 (m : Nat)) ∧ wB.cell? ⟨w.heap.size, 1, none⟩ = some (.slice oa ND ca) ∧ wB.cell? ⟨w.heap.size + 1, 1, none⟩ = some (.slice ob NE cb) := ⟨(bB.cell (p := ⟨Hb, 0, none⟩) hHl).trans q0, (bB.cell (p := ⟨Hb, 1, none⟩) hHl).trans q1, (bB.cell (p := ⟨Hb, 2, none⟩) hHl).trans q2, (bB.cell (p := ⟨w.heap.size, 1, none⟩) hP0).trans q3, (bB.cell (p := ⟨w.heap.size + 1, 1, none⟩) hP1).trans q4⟩; have HbB := hideS (And.intro bB (And.intro (HbA.out.2.1.keep bAB) (And.intro hR2 hn2))); clear bB hR2 hn2 own2 bAB)
                | (go_at_call 22; (with_reducible refine (HCc.out _ o1 o2 cp1 cp2 wB.heap.size HbA.out.2.2 HbB.out.2.2.2 (HbB.out.2.1.keep (bel1S _ _)) (HbB.out.2.2.1.keep (bel1S _ _)) (pairA _ _ _ _) (pairB _ _ _ _) (by simp)).mono ?_); rintro e wC ⟨v3, rfl, own3, bC⟩; obtain ⟨o3, c3, rfl, hc3, hn3, hR3⟩ := own_flat own3 hLL.out; have bC : Below V.heap.size V wC := bupS (bupS HbB.out.1 (bel1S _ _)) bC; have kC9 : wC.cell? ⟨Hb, 0, none⟩ = some (.int .i64 (i : Nat)) ∧ wC.cell? ⟨Hb, 1, none⟩ = some (.int .i64 (j : Nat)) ∧ wC.cell? ⟨Hb, 2, none⟩ = some (.int .i64 (m : Nat)) ∧ wC.cell? ⟨w.heap.size, 1, none⟩ = some (.slice oa ND ca) ∧ wC.cell? ⟨w.heap.size + 1, 1, none⟩ = some (.slice ob NE cb) := ⟨(bC.cell (p := ⟨Hb, 0, none⟩) hHl).trans q0, (bC.cell (p := ⟨Hb, 1, none⟩) hHl).trans q1, (bC.cell (p := ⟨Hb, 2, none⟩) hHl).trans q2, (bC.cell (p := ⟨w.heap.size, 1, none⟩) hP0).trans q3, (bC.cell (p := ⟨w.heap.size + 1, 1, none⟩) hP1).trans q4⟩; have HbC := hideS (And.intro bC (own_fromS own3 (show V.heap.size ≤ _ from by have := HbB.out.1.size; simp; omega))); clear bC own3 hn3 hR3)
                | (go_at_call 21; (with_reducible refine (HTo.out _ o3 c3).mono ?_); rintro e wD ⟨rfl, bD⟩; have bCD := bD; have bD : Below V.heap.size V wD := bupS HbC.out.1 bD; have kD9 : wD.cell? ⟨Hb, 0, none⟩ = some (.int .i64 (i : Nat)) ∧ wD.cell? ⟨Hb, 1, none⟩ = some (.int .i64 (j : Nat)) ∧ wD.cell? ⟨Hb, 2, none⟩ = some (.int .i64 (m : Nat)) ∧ wD.cell? ⟨w.heap.size, 1, none⟩ = some (.slice oa ND ca) ∧ wD.cell? ⟨w.heap.size + 1, 1, none⟩ = some (.slice ob NE cb) := ⟨(bD.cell (p := ⟨Hb, 0, none⟩) hHl).trans q0, (bD.cell (p := ⟨Hb, 1, none⟩) hHl).trans q1, (bD.cell (p := ⟨Hb, 2, none⟩) hHl).trans q2, (bD.cell (p := ⟨w.heap.size, 1, none⟩) hP0).trans q3, (bD.cell (p := ⟨w.heap.size + 1, 1, none⟩) hP1).trans q4⟩; obtain ⟨z0, z1, z2, z3⟩ := (H6.out.2.2.1.keep bD).cells; have HbD := hideS (And.intro bD (own_keepS HbC.out.2 bCD)); clear bD bCD))
              have HE : Hid (PO (.returned (.tuple #[.agg #[.string gs, .slice o3 LL c3], .int .i64 0])) ((wD.setCell ⟨w.heap.size + 1 + 1, 0, none⟩ (.string gs)).setCell ⟨w.heap.size + 1 + 1, 1, none⟩ (.slice o3 LL c3))) := hideS (by
                rw [HPO.out, HRr.out]
                refine ⟨_, rfl, ?_, ((bupS H6.out.2.2.2.2 HbD.out.1).setCell (p := ⟨w.heap.size + 1 + 1, 0, none⟩) (by show w.heap.size ≤ w.heap.size + 1 + 1; omega) _).setCell (p := ⟨w.heap.size + 1 + 1, 1, none⟩) (by show w.heap.size ≤ w.heap.size + 1 + 1; omega) _⟩
                show World.ownsRow _ _ _ _ _ (A ++ B).length _
                rw [hLL.out]
                exact own_fromS (ownsRow_setCell_below (ownsRow_setCell_below HbD.out.2 (a := ⟨w.heap.size + 1 + 1, 0, none⟩) hP2 _) (a := ⟨w.heap.size + 1 + 1, 1, none⟩) hP2 _) H6.out.2.2.2.2.size)
              have t9 := (H6.out.2.2.1.keep HbD.out.1).set (.string gs) (.slice o3 LL c3)
              first | go_wp2_with fail | skip
              generalize ((wD.setCell ⟨w.heap.size + 1 + 1, 0, none⟩ (.string gs)).setCell ⟨w.heap.size + 1 + 1, 1, none⟩ (.slice o3 LL c3)) = W9 at *
              obtain ⟨r0, r1, _, _⟩ := t9.cells
              exact bodyPost_ret (v := .tuple #[.agg #[.string gs, .slice o3 LL c3], .int .i64 0]) (by simp [results, Tryd.results8, go_sem, r0, r1]) rfl HE.out
          · have hge2 : (ge != 0) = true := by simpa using hge
            obtain ⟨k0, k1, f0, f1⟩ := H4.out.2.2.1.cells
            have HE := hideS (errs.out ge ((wc.setCell ⟨w.heap.size + 1 + 1, 0, none⟩ (.string ⟨#[]⟩)).setCell ⟨w.heap.size + 1 + 1, 1, none⟩ (.slice none 0 0)) (by
              rw [HRr.out, if_pos hge]) ((H4.out.2.2.2.setCell (p := ⟨w.heap.size + 1 + 1, 0, none⟩) (by show w.heap.size ≤ w.heap.size + 1 + 1; omega) _).setCell (p := ⟨w.heap.size + 1 + 1, 1, none⟩) (by show w.heap.size ≤ w.heap.size + 1 + 1; omega) _))
            have t9 := H4.out.2.2.1.set (.string ⟨#[]⟩) (.slice none 0 0)
            go_wp2_with fail
            generalize ((wc.setCell ⟨w.heap.size + 1 + 1, 0, none⟩ (.string ⟨#[]⟩)).setCell ⟨w.heap.size + 1 + 1, 1, none⟩ (.slice none 0 0)) = W9 at *
            obtain ⟨r0, r1, _, _⟩ := t9.cells
            exact bodyPost_ret (v := .tuple #[.agg #[.string ByteArray.empty, .slice none 0 0], .int .i64 ge]) (by simp [results, Tryd.results8, go_sem, r0, r1]; rfl) rfl HE.out
    · have e2b : (c2 != 0) = true := by simpa using e2
      obtain ⟨k0, k1, f0, f1⟩ := H2.out.2.2.1.cells
      have HE := hideS (errs.out c2 ((w2.setCell ⟨w.heap.size + 1 + 1, 0, none⟩ (.string ⟨#[]⟩)).setCell ⟨w.heap.size + 1 + 1, 1, none⟩ (.slice none 0 0)) (by
        rw [← HRd.out]
        unfold splM
        rw [HX.out.1.1, HX.out.1.2, if_neg (by simp), if_pos e2]) ((H2.out.2.2.2.setCell (p := ⟨w.heap.size + 1 + 1, 0, none⟩) (by show w.heap.size ≤ w.heap.size + 1 + 1; omega) _).setCell (p := ⟨w.heap.size + 1 + 1, 1, none⟩) (by show w.heap.size ≤ w.heap.size + 1 + 1; omega) _))
      have t9 := H2.out.2.2.1.set (.string ⟨#[]⟩) (.slice none 0 0)
      go_wp2_with fail
      generalize ((w2.setCell ⟨w.heap.size + 1 + 1, 0, none⟩ (.string ⟨#[]⟩)).setCell ⟨w.heap.size + 1 + 1, 1, none⟩ (.slice none 0 0)) = W9 at *
      obtain ⟨r0, r1, _, _⟩ := t9.cells
      exact bodyPost_ret (v := .tuple #[.agg #[.string ByteArray.empty, .slice none 0 0], .int .i64 c2]) (by simp [results, Tryd.results8, go_sem, r0, r1]; rfl) rfl HE.out
  · have e1b : (c1 != 0) = true := by simpa using e1
    obtain ⟨k0, k1, f0, f1⟩ := H1.out.2.2.1.cells
    have HE := hideS (errs.out c1 ((w1.setCell ⟨w.heap.size + 1 + 1, 0, none⟩ (.string ⟨#[]⟩)).setCell ⟨w.heap.size + 1 + 1, 1, none⟩ (.slice none 0 0)) (by
      rw [← HRd.out]
      unfold splM
      rw [HX.out.1.1, if_pos e1]) ((H1.out.2.2.2.setCell (p := ⟨w.heap.size + 1 + 1, 0, none⟩) (by show w.heap.size ≤ w.heap.size + 1 + 1; omega) _).setCell (p := ⟨w.heap.size + 1 + 1, 1, none⟩) (by show w.heap.size ≤ w.heap.size + 1 + 1; omega) _))
    have t9 := H1.out.2.2.1.set (.string ⟨#[]⟩) (.slice none 0 0)
    go_wp2_with fail
    generalize ((w1.setCell ⟨w.heap.size + 1 + 1, 0, none⟩ (.string ⟨#[]⟩)).setCell ⟨w.heap.size + 1 + 1, 1, none⟩ (.slice none 0 0)) = W9 at *
    obtain ⟨r0, r1, _, _⟩ := t9.cells
    exact bodyPost_ret (v := .tuple #[.agg #[.string ByteArray.empty, .slice none 0 0], .int .i64 c1]) (by simp [results, Tryd.results8, go_sem, r0, r1]; rfl) rfl HE.out
end Go.Proofs.YtbiodfeanngkdaaDoor
