/- Several texts, one behind the other. -/
import Derived.Lib.SmallJoins
import Derived.Deep.Slices
import Derived.ChangeOld
import Derived.ShutString
import Derived.DataShut
import Derived.Test.YtijgpdccemfhgaaGreatDoorGA
import Derived.Test.YtijgpdccemfhgaaGreatDoorGK
import Derived.Test.YtijgpdccemfhgaaGreatDoorGZ
import Derived.Test.YtijgpdccemfhgaaGreatDoorSpA
/- style.Join at every argument (P0707). -/
namespace Go.Proofs.YtijgpdccemfhgaaGreatDoor
open Go.RowKit Go.Shelf
attribute [local go_sem] Oper.semAt_some

/-- What Join tells: an error, or a text. -/
def joiM (s : ByteArray) (D : List Sp) (u : ByteArray) (E : List Sp) : Int × ByteArray × List Sp :=
  if chkT s D ≠ 0 then (chkT s D, ByteArray.empty, []) else if chkT u E ≠ 0 then (chkT u E, ByteArray.empty, [])
  else if (glueM [s, u]).2 ≠ 0 then ((glueM [s, u]).2, ByteArray.empty, [])
  else if 256 < (D ++ E.map (mvS (signs s).length)).length then (2, ByteArray.empty, [])
  else (0, (glueM [s, u]).1, D ++ E.map (mvS (signs s).length))
theorem strR_two (w : World) (x y : ByteArray) : StrR (w.alloc (.cells #[.string x, .string y] 9)) w.heap.size [x, y] := fun i s h => by
  have e0 : (w.alloc (.cells #[.string x, .string y] 9)).heap[w.heap.size]? = _ := World.alloc_heap_new w _
  match i, h with
  | 0, h | 1, h =>
    simp at h
    subst h
    unfold World.cell?
    rw [e0]
    rfl
  | n + 2, h => simp at h
set_option maxRecDepth 100000 in
set_option maxHeartbeats 4000000 in
theorem join_any (s u : ByteArray) (D E : List Sp) (oa ob : Option Addr) (ca cb : Nat) (hs : s.size ≤ 140737488355328) (hu : u.size ≤ 140737488355328) (hca : D.length ≤ ca ∧ ca ≤ maxLen) (hcb : E.length ≤ cb ∧ cb ≤ maxLen)
    (hna : oa = none → D = [] ∧ ca = 0) (hnb : ob = none → E = [] ∧ cb = 0) (w : World) (hw : 2 ≤ w.heap.size) (hT : Lib.Utf8Tabs 0 1 w) (hRa : SpO w oa D) (hRb : SpO w ob E) :
    Calls Tryz.prog 6 #[.agg #[.string s, .slice oa D.length ca], .agg #[.string u, .slice ob E.length cb]] w (SplAns w (joiM s D u E)) := by
  have HC1 := hideS (fun (W : World) (h : Below w.heap.size w W) => check7_any s D oa ca hs hca hna W (hRa.keep h))
  have HC2 := hideS (fun (W : World) (h : Below w.heap.size w W) => check7_any u E ob cb hu hcb hnb W (hRb.keep h))
  have HCt := hideS (fun (W : World) => count7_any s W hs)
  obtain ⟨R, hR⟩ : ∃ R, joiM s D u E = R := ⟨_, rfl⟩
  rw [hR]
  have HRd := hideS hR
  obtain ⟨c1, hc1⟩ : ∃ c, chkT s D = c := ⟨_, rfl⟩
  obtain ⟨c2, hc2⟩ : ∃ c, chkT u E = c := ⟨_, rfl⟩
  obtain ⟨n, hn⟩ : ∃ n, (signs s).length = n := ⟨_, rfl⟩
  obtain ⟨ND, hND⟩ : ∃ ND, D.length = ND := ⟨_, rfl⟩
  obtain ⟨NE, hNE⟩ : ∃ NE, E.length = NE := ⟨_, rfl⟩
  have HX := hideS (And.intro (And.intro hc1 hc2) (And.intro hn (And.intro hND hNE)))
  have HY := hideS (And.intro (And.intro hRa hRb) (And.intro (And.intro hna hnb) hT))
  rw [hc1, hND] at HC1
  rw [hc2, hNE] at HC2
  rw [hn] at HCt
  rw [hND, hNE]
  clear hRa hRb hna hnb hT hca hcb hR hc1 hc2 hn hND hNE
  obtain ⟨PO, hPO⟩ : ∃ PO : Ending → World → Prop, PO = SplAns w R := ⟨_, rfl⟩
  rw [← hPO]
  have HPO := hideS hPO
  clear hPO
  have errs : Hid (∀ (er : Int) (W : World), R = (er, ByteArray.empty, []) → Below w.heap.size w W → PO (.returned (.tuple #[.agg #[.string ByteArray.empty, .slice none 0 0], .int .i64 er])) W) := hideS (fun er W h1 h2 => by
    rw [HPO.out, h1]
    exact ⟨_, rfl, World.ownsRow_nil _ _ _ _, h2⟩)
  have hsb : ∀ (W : World) (q v : Value), Below w.heap.size w W → Below w.heap.size w ((W.setCell ⟨w.heap.size + 1 + 1, 0, none⟩ q).setCell ⟨w.heap.size + 1 + 1, 1, none⟩ v) := fun W q v h => (h.setCell (p := ⟨w.heap.size + 1 + 1, 0, none⟩) (by show w.heap.size ≤ w.heap.size + 1 + 1; omega) _).setCell (p := ⟨w.heap.size + 1 + 1, 1, none⟩) (by show w.heap.size ≤ w.heap.size + 1 + 1; omega) _
  have HSB := hideS hsb
  clear hsb
  go_enter Tryz.func6, Tryz.ntmps6
  go_wp2_with fail
  obtain ⟨W0, hW0⟩ : ∃ W0, ((w.alloc (.cells #[.string s, .slice oa ND ca] 24)).alloc (.cells #[.string u, .slice ob NE cb] 24)).alloc (.cells #[.string ⟨#[]⟩, .slice none 0 0] 24) = W0 := ⟨_, rfl⟩
  have t0 : Tx W0 w.heap.size (.string s) (.slice oa ND ca) := by rw [← hW0]; exact ((Tx.new w _ _).keep (bel1S _ _)).keep (bel1S _ _)
  have t1 : Tx W0 (w.heap.size + 1) (.string u) (.slice ob NE cb) := by
    rw [← hW0]
    have h9 := Tx.new (w.alloc (.cells #[.string s, .slice oa ND ca] 24)) (.string u) (.slice ob NE cb)
    rw [World.size_alloc] at h9
    exact h9.keep (bel1S _ _)
  have t2 : Tx W0 (w.heap.size + 1 + 1) (.string ⟨#[]⟩) (.slice none 0 0) := by
    rw [← hW0]
    have h9 := Tx.new ((w.alloc (.cells #[.string s, .slice oa ND ca] 24)).alloc (.cells #[.string u, .slice ob NE cb] 24)) (.string ⟨#[]⟩) (.slice none 0 0)
    rw [World.size_alloc, World.size_alloc] at h9
    exact h9
  have b0 : Below w.heap.size w W0 := by rw [← hW0]; exact bupS (bel1S _ _) (bupS (bel1S _ _) (bel1S _ _))
  rw [hW0]
  have H0 := hideS (And.intro t0 (And.intro t1 (And.intro t2 b0)))
  clear hW0 t0 t1 t2 b0
  refine (HC1.out W0 H0.out.2.2.2).mono ?_
  rintro e w1 ⟨rfl, b1⟩
  have H1 := hideS (show Tx w1 w.heap.size (.string s) (.slice oa ND ca) ∧ Tx w1 (w.heap.size + 1) (.string u) (.slice ob NE cb) ∧ Tx w1 (w.heap.size + 1 + 1) (.string ⟨#[]⟩) (.slice none 0 0) ∧ Below w.heap.size w w1 from ⟨H0.out.1.keep b1, H0.out.2.1.keep b1, H0.out.2.2.1.keep b1, bupS H0.out.2.2.2 b1⟩)
  clear b1 H0 HC1
  by_cases e1 : c1 = 0
  · subst e1
    obtain ⟨k0, k1, _, _⟩ := H1.out.2.1.cells
    go_wp2_with fail
    refine (HC2.out w1 H1.out.2.2.2).mono ?_
    rintro e w2 ⟨rfl, b2⟩
    have H2 := hideS (show Tx w2 w.heap.size (.string s) (.slice oa ND ca) ∧ Tx w2 (w.heap.size + 1) (.string u) (.slice ob NE cb) ∧ Tx w2 (w.heap.size + 1 + 1) (.string ⟨#[]⟩) (.slice none 0 0) ∧ Below w.heap.size w w2 from ⟨H1.out.1.keep b2, H1.out.2.1.keep b2, H1.out.2.2.1.keep b2, bupS H1.out.2.2.2 b2⟩)
    clear b2 H1 HC2 k0 k1
    by_cases e2 : c2 = 0
    · subst e2
      have hok1 := chkT_ok HX.out.1.1
      have hok2 := chkT_ok HX.out.1.2
      have hn4 := signs_le s
      rw [HX.out.2.1] at hn4
      rw [HX.out.2.2.1] at hok1
      rw [HX.out.2.2.2] at hok2
      obtain ⟨g, hg⟩ : ∃ g, glueM [s, u] = g := ⟨_, rfl⟩
      have HGl := hideS (fun (W : World) (G : Nat) (h2 : 2 ≤ W.heap.size) (hT : Lib.Utf8Tabs 0 1 W) (hG : G < W.heap.size) (hR : StrR W G [s, u]) => glue_any [s, u] G 2 (by simp) (by simp [lenB]; omega) W h2 hT hG hR)
      rw [hg] at HGl
      change Hid (∀ (W : World) (G : Nat), 2 ≤ W.heap.size → Lib.Utf8Tabs 0 1 W → G < W.heap.size → StrR W G [s, u] → Calls Tryz.prog 14 #[.slice (some ⟨G, 0, none⟩) 2 2] W fun e w' => e = .returned (.tuple #[.string g.1, .int .i64 g.2]) ∧ Below W.heap.size W w') at HGl
      have HRr : Hid (R = if g.2 ≠ 0 then (g.2, ByteArray.empty, []) else if 256 < (D ++ E.map (mvS n)).length then (2, ByteArray.empty, []) else (0, g.1, D ++ E.map (mvS n))) := hideS (by
        rw [← HRd.out]
        unfold joiM
        rw [HX.out.1.1, HX.out.1.2, HX.out.2.1, if_neg (by simp), if_neg (by simp), hg])
      obtain ⟨gs, ge⟩ := g
      simp only at HGl HRr
      obtain ⟨k0, k1, _, _⟩ := H2.out.1.cells
      obtain ⟨k2, k3, _, _⟩ := H2.out.2.1.cells
      clear hg HRd
      go_wp2_with fail
      refine (HGl.out _ w2.heap.size (by have := H2.out.2.2.2.size; simp; omega) (tabs_below hw HY.out.2.2 (bupS H2.out.2.2.2 (bel1S _ _))) (by simp) (strR_two w2 s u)).mono ?_
      rintro e wc ⟨rfl, bc⟩
      have bc : Below w2.heap.size w2 wc := bupS (bel1S _ _) bc
      have H4 := hideS (show Tx wc w.heap.size (.string s) (.slice oa ND ca) ∧ Tx wc (w.heap.size + 1) (.string u) (.slice ob NE cb) ∧ Tx wc (w.heap.size + 1 + 1) (.string ⟨#[]⟩) (.slice none 0 0) ∧ Below w.heap.size w wc from ⟨H2.out.1.keep bc, H2.out.2.1.keep bc, H2.out.2.2.1.keep bc, bupS H2.out.2.2.2 bc⟩)
      clear bc H2 HGl k0 k1 k2 k3
      by_cases hge : ge = 0
      · subst hge
        rw [if_neg (by simp)] at HRr
        have q1 := H4.out.1.cells.1
        have q3 := H4.out.1.cells.2.1
        have q4 := H4.out.2.1.cells.2.1
        have hP0 := H4.out.1.lt
        have hP1 := H4.out.2.1.lt
        have hP2 := H4.out.2.2.1.lt
        have HMv := hideS (fun (W : World) (h : Below w.heap.size w W) => moved_any E ob cb n (by rw [HX.out.2.2.2]; omega) HY.out.2.1.2 W (HY.out.1.2.keep h))
        rw [HX.out.2.2.2] at HMv
        have hBl : (E.map (mvS n)).length = NE := by rw [List.length_map, HX.out.2.2.2]
        generalize E.map (mvS n) = B at *
        have hLB := hideS hBl
        have hA9 := HX.out.2.2.1
        obtain ⟨LL, hL9⟩ : ∃ LL, ND + NE = LL := ⟨_, rfl⟩
        have hLL : Hid ((D ++ B).length = LL) := hideS (by rw [List.length_append, hA9, hBl, hL9])
        have HCc := hideS (fun (W : World) (o2 : Option Addr) (c2 G : Nat) (hr1 : SpO W oa D) (h2 : o2 = none → B = [] ∧ c2 = 0) (hr2 : SpO W o2 B) (g0 : W.cell? ⟨G, 0, none⟩ = some (.slice oa D.length ca)) (g1 : W.cell? ⟨G, 1, none⟩ = some (.slice o2 B.length c2)) (hG : G < W.heap.size) => concat_any D B oa o2 ca c2 G (by omega) (by omega) HY.out.2.1.1 h2 W hr1 hr2 g0 g1 hG)
        rw [hLL.out] at HCc HRr
        rw [hA9, hBl] at HCc
        clear hA9 hBl hL9
        go_upto_region 10 with fail
        have Hdr : Hid (Below w.heap.size w wc.drew) := hideS H4.out.2.2.2.drew
        have hne0 : w.heap.size + 1 + 1 ≠ w.heap.size := by omega
        by_cases hbig : 256 < LL
        · rw [if_pos hbig] at HRr
          have HTo := hideS (fun (W : World) (o : Option Addr) (c : Nat) => (by have h := textOf_any gs o LL c W; rw [if_pos hbig] at h; exact h : Calls Tryz.prog 15 #[.string gs, .slice o LL c] W fun e w' => e = .returned (.tuple #[.agg #[.string ByteArray.empty, .slice none 0 0], .int .i64 2]) ∧ Below W.heap.size W w'))
          go_region_held3 (fun w' => w'.cell? ⟨w.heap.size, 1, none⟩ = some (.slice oa ND ca) ∧ w'.cell? ⟨w.heap.size + 1, 1, none⟩ = some (.slice ob NE cb) ∧ w'.cell? ⟨w.heap.size, 0, none⟩ = some (.string s)) (first | go_keep | assumption | exact kA9 | exact kB9 | exact kC9 | exact kD9 | (simp [*, World.cell?_setCell_far]; done)) (first
            | (go_at_call 18; (with_reducible refine (HCt.out wc.drew).mono ?_); rintro e wA ⟨rfl, bA⟩; have bA : Below wc.heap.size wc wA := (by first | exact ⟨bA.os, bA.tape, bA.output, bA.size, bA.block⟩ | exact bA); have kA9 : wA.cell? ⟨w.heap.size, 1, none⟩ = some (.slice oa ND ca) ∧ wA.cell? ⟨w.heap.size + 1, 1, none⟩ = some (.slice ob NE cb) ∧ wA.cell? ⟨w.heap.size, 0, none⟩ = some (.string s) := ⟨(bA.cell (p := ⟨w.heap.size, 1, none⟩) hP0).trans q3, (bA.cell (p := ⟨w.heap.size + 1, 1, none⟩) hP1).trans q4, (bA.cell (p := ⟨w.heap.size, 0, none⟩) hP0).trans q1⟩; have HbA := hideS bA; clear bA)
            | (go_at_call 17; (with_reducible refine (HMv.out _ (bupS H4.out.2.2.2 HbA.out)).mono ?_); rintro e wB ⟨v2, rfl, own2, bB⟩; obtain ⟨o2, cp2, rfl, hc2, hn2, hR2⟩ := own_flat own2 hLB.out; have bB : Below wc.heap.size wc wB := bupS HbA.out bB; have kB9 : wB.cell? ⟨w.heap.size, 1, none⟩ = some (.slice oa ND ca) ∧ wB.cell? ⟨w.heap.size + 1, 1, none⟩ = some (.slice ob NE cb) ∧ wB.cell? ⟨w.heap.size, 0, none⟩ = some (.string s) := ⟨(bB.cell (p := ⟨w.heap.size, 1, none⟩) hP0).trans q3, (bB.cell (p := ⟨w.heap.size + 1, 1, none⟩) hP1).trans q4, (bB.cell (p := ⟨w.heap.size, 0, none⟩) hP0).trans q1⟩; have HbB := hideS (And.intro bB (And.intro hR2 hn2)); clear bB hR2 hn2 own2)
            | (go_at_call 16; (with_reducible refine (HCc.out _ o2 cp2 wB.heap.size (HY.out.1.1.keep (bupS H4.out.2.2.2 (bupS HbB.out.1 (bel1S _ _)))) HbB.out.2.2 (HbB.out.2.1.keep (bel1S _ _)) (pairA _ _ _ _) (pairB _ _ _ _) (by simp)).mono ?_); rintro e wC ⟨v3, rfl, own3, bC⟩; obtain ⟨o3, c3, rfl, hc3, hn3, hR3⟩ := own_flat own3 hLL.out; have bC : Below wc.heap.size wc wC := bupS (bupS HbB.out.1 (bel1S _ _)) bC; have kC9 : wC.cell? ⟨w.heap.size, 1, none⟩ = some (.slice oa ND ca) ∧ wC.cell? ⟨w.heap.size + 1, 1, none⟩ = some (.slice ob NE cb) ∧ wC.cell? ⟨w.heap.size, 0, none⟩ = some (.string s) := ⟨(bC.cell (p := ⟨w.heap.size, 1, none⟩) hP0).trans q3, (bC.cell (p := ⟨w.heap.size + 1, 1, none⟩) hP1).trans q4, (bC.cell (p := ⟨w.heap.size, 0, none⟩) hP0).trans q1⟩; have HbC := hideS (And.intro bC (own_fromS own3 (show wc.heap.size ≤ _ from by have := HbB.out.1.size; simp; omega))); clear bC own3 hn3 hR3)
            | (go_at_call 15; (with_reducible refine (HTo.out _ o3 c3).mono ?_); rintro e wD ⟨rfl, bD⟩; have bCD := bD; have bD : Below wc.heap.size wc wD := bupS HbC.out.1 bD; have kD9 : wD.cell? ⟨w.heap.size, 1, none⟩ = some (.slice oa ND ca) ∧ wD.cell? ⟨w.heap.size + 1, 1, none⟩ = some (.slice ob NE cb) ∧ wD.cell? ⟨w.heap.size, 0, none⟩ = some (.string s) := ⟨(bD.cell (p := ⟨w.heap.size, 1, none⟩) hP0).trans q3, (bD.cell (p := ⟨w.heap.size + 1, 1, none⟩) hP1).trans q4, (bD.cell (p := ⟨w.heap.size, 0, none⟩) hP0).trans q1⟩; obtain ⟨z0, z1, z2, z3⟩ := (H4.out.2.2.1.keep bD).cells; have HbD := hideS (And.intro bD (own_keepS HbC.out.2 bCD)); clear bD bCD))
          have HE := hideS (errs.out 2 ((wD.setCell ⟨w.heap.size + 1 + 1, 0, none⟩ (.string ByteArray.empty)).setCell ⟨w.heap.size + 1 + 1, 1, none⟩ (.slice none 0 0)) HRr.out (HSB.out wD _ _ (bupS H4.out.2.2.2 HbD.out.1)))
          have t9 := (H4.out.2.2.1.keep HbD.out.1).set (.string ByteArray.empty) (.slice none 0 0)
          first | go_wp2_with fail | skip
          generalize ((wD.setCell ⟨w.heap.size + 1 + 1, 0, none⟩ (.string ByteArray.empty)).setCell ⟨w.heap.size + 1 + 1, 1, none⟩ (.slice none 0 0)) = W9 at *
          obtain ⟨r0, r1, _, _⟩ := t9.cells
          exact bodyPost_ret (v := .tuple #[.agg #[.string ByteArray.empty, .slice none 0 0], .int .i64 2]) (by simp [results, Tryz.results6, go_sem, r0, r1]) rfl HE.out
        · rw [if_neg hbig] at HRr
          have HTo := hideS (fun (W : World) (o : Option Addr) (c : Nat) => (by have h := textOf_any gs o LL c W; rw [if_neg hbig] at h; exact h : Calls Tryz.prog 15 #[.string gs, .slice o LL c] W fun e w' => e = .returned (.tuple #[.agg #[.string gs, .slice o LL c], .int .i64 0]) ∧ Below W.heap.size W w'))
          go_region_held3 (fun w' => w'.cell? ⟨w.heap.size, 1, none⟩ = some (.slice oa ND ca) ∧ w'.cell? ⟨w.heap.size + 1, 1, none⟩ = some (.slice ob NE cb) ∧ w'.cell? ⟨w.heap.size, 0, none⟩ = some (.string s)) (first | go_keep | assumption | exact kA9 | exact kB9 | exact kC9 | exact kD9 | (simp [*, World.cell?_setCell_far]; done)) (first
            | (go_at_call 18; (with_reducible refine (HCt.out wc.drew).mono ?_); rintro e wA ⟨rfl, bA⟩; have bA : Below wc.heap.size wc wA := (by first | exact ⟨bA.os, bA.tape, bA.output, bA.size, bA.block⟩ | exact bA); have kA9 : wA.cell? ⟨w.heap.size, 1, none⟩ = some (.slice oa ND ca) ∧ wA.cell? ⟨w.heap.size + 1, 1, none⟩ = some (.slice ob NE cb) ∧ wA.cell? ⟨w.heap.size, 0, none⟩ = some (.string s) := ⟨(bA.cell (p := ⟨w.heap.size, 1, none⟩) hP0).trans q3, (bA.cell (p := ⟨w.heap.size + 1, 1, none⟩) hP1).trans q4, (bA.cell (p := ⟨w.heap.size, 0, none⟩) hP0).trans q1⟩; have HbA := hideS bA; clear bA)
            | (go_at_call 17; (with_reducible refine (HMv.out _ (bupS H4.out.2.2.2 HbA.out)).mono ?_); rintro e wB ⟨v2, rfl, own2, bB⟩; obtain ⟨o2, cp2, rfl, hc2, hn2, hR2⟩ := own_flat own2 hLB.out; have bB : Below wc.heap.size wc wB := bupS HbA.out bB; have kB9 : wB.cell? ⟨w.heap.size, 1, none⟩ = some (.slice oa ND ca) ∧ wB.cell? ⟨w.heap.size + 1, 1, none⟩ = some (.slice ob NE cb) ∧ wB.cell? ⟨w.heap.size, 0, none⟩ = some (.string s) := ⟨(bB.cell (p := ⟨w.heap.size, 1, none⟩) hP0).trans q3, (bB.cell (p := ⟨w.heap.size + 1, 1, none⟩) hP1).trans q4, (bB.cell (p := ⟨w.heap.size, 0, none⟩) hP0).trans q1⟩; have HbB := hideS (And.intro bB (And.intro hR2 hn2)); clear bB hR2 hn2 own2)
            | (go_at_call 16; (with_reducible refine (HCc.out _ o2 cp2 wB.heap.size (HY.out.1.1.keep (bupS H4.out.2.2.2 (bupS HbB.out.1 (bel1S _ _)))) HbB.out.2.2 (HbB.out.2.1.keep (bel1S _ _)) (pairA _ _ _ _) (pairB _ _ _ _) (by simp)).mono ?_); rintro e wC ⟨v3, rfl, own3, bC⟩; obtain ⟨o3, c3, rfl, hc3, hn3, hR3⟩ := own_flat own3 hLL.out; have bC : Below wc.heap.size wc wC := bupS (bupS HbB.out.1 (bel1S _ _)) bC; have kC9 : wC.cell? ⟨w.heap.size, 1, none⟩ = some (.slice oa ND ca) ∧ wC.cell? ⟨w.heap.size + 1, 1, none⟩ = some (.slice ob NE cb) ∧ wC.cell? ⟨w.heap.size, 0, none⟩ = some (.string s) := ⟨(bC.cell (p := ⟨w.heap.size, 1, none⟩) hP0).trans q3, (bC.cell (p := ⟨w.heap.size + 1, 1, none⟩) hP1).trans q4, (bC.cell (p := ⟨w.heap.size, 0, none⟩) hP0).trans q1⟩; have HbC := hideS (And.intro bC (own_fromS own3 (show wc.heap.size ≤ _ from by have := HbB.out.1.size; simp; omega))); clear bC own3 hn3 hR3)
            | (go_at_call 15; (with_reducible refine (HTo.out _ o3 c3).mono ?_); rintro e wD ⟨rfl, bD⟩; have bCD := bD; have bD : Below wc.heap.size wc wD := bupS HbC.out.1 bD; have kD9 : wD.cell? ⟨w.heap.size, 1, none⟩ = some (.slice oa ND ca) ∧ wD.cell? ⟨w.heap.size + 1, 1, none⟩ = some (.slice ob NE cb) ∧ wD.cell? ⟨w.heap.size, 0, none⟩ = some (.string s) := ⟨(bD.cell (p := ⟨w.heap.size, 1, none⟩) hP0).trans q3, (bD.cell (p := ⟨w.heap.size + 1, 1, none⟩) hP1).trans q4, (bD.cell (p := ⟨w.heap.size, 0, none⟩) hP0).trans q1⟩; obtain ⟨z0, z1, z2, z3⟩ := (H4.out.2.2.1.keep bD).cells; have HbD := hideS (And.intro bD (own_keepS HbC.out.2 bCD)); clear bD bCD))
          have HE : Hid (PO (.returned (.tuple #[.agg #[.string gs, .slice o3 LL c3], .int .i64 0])) ((wD.setCell ⟨w.heap.size + 1 + 1, 0, none⟩ (.string gs)).setCell ⟨w.heap.size + 1 + 1, 1, none⟩ (.slice o3 LL c3))) := hideS (by
            rw [HPO.out, HRr.out]
            refine ⟨_, rfl, ?_, HSB.out wD _ _ (bupS H4.out.2.2.2 HbD.out.1)⟩
            show World.ownsRow _ _ _ _ _ (D ++ B).length _
            rw [hLL.out]
            exact own_fromS (ownsRow_setCell_below (ownsRow_setCell_below HbD.out.2 (a := ⟨w.heap.size + 1 + 1, 0, none⟩) hP2 _) (a := ⟨w.heap.size + 1 + 1, 1, none⟩) hP2 _) H4.out.2.2.2.size)
          have t9 := (H4.out.2.2.1.keep HbD.out.1).set (.string gs) (.slice o3 LL c3)
          first | go_wp2_with fail | skip
          generalize ((wD.setCell ⟨w.heap.size + 1 + 1, 0, none⟩ (.string gs)).setCell ⟨w.heap.size + 1 + 1, 1, none⟩ (.slice o3 LL c3)) = W9 at *
          obtain ⟨r0, r1, _, _⟩ := t9.cells
          exact bodyPost_ret (v := .tuple #[.agg #[.string gs, .slice o3 LL c3], .int .i64 0]) (by simp [results, Tryz.results6, go_sem, r0, r1]) rfl HE.out
      · have hge2 : (ge != 0) = true := by simpa using hge
        obtain ⟨k0, k1, f0, f1⟩ := H4.out.2.2.1.cells
        have HE := hideS (errs.out ge _ (by rw [HRr.out, if_pos hge]) (HSB.out wc (.string ⟨#[]⟩) (.slice none 0 0) H4.out.2.2.2))
        have t9 := H4.out.2.2.1.set (.string ⟨#[]⟩) (.slice none 0 0)
        go_wp2_with fail
        generalize ((wc.setCell ⟨w.heap.size + 1 + 1, 0, none⟩ (.string ⟨#[]⟩)).setCell ⟨w.heap.size + 1 + 1, 1, none⟩ (.slice none 0 0)) = W9 at *
        obtain ⟨r0, r1, _, _⟩ := t9.cells
        exact bodyPost_ret (v := .tuple #[.agg #[.string ByteArray.empty, .slice none 0 0], .int .i64 ge]) (by simp [results, Tryz.results6, go_sem, r0, r1]; rfl) rfl HE.out
    · have e2b : (c2 != 0) = true := by simpa using e2
      obtain ⟨k0, k1, f0, f1⟩ := H2.out.2.2.1.cells
      have HE := hideS (errs.out c2 _ (by
        rw [← HRd.out]
        unfold joiM
        rw [HX.out.1.1, HX.out.1.2, if_neg (by simp), if_pos e2]) (HSB.out w2 (.string ⟨#[]⟩) (.slice none 0 0) H2.out.2.2.2))
      have t9 := H2.out.2.2.1.set (.string ⟨#[]⟩) (.slice none 0 0)
      go_wp2_with fail
      generalize ((w2.setCell ⟨w.heap.size + 1 + 1, 0, none⟩ (.string ⟨#[]⟩)).setCell ⟨w.heap.size + 1 + 1, 1, none⟩ (.slice none 0 0)) = W9 at *
      obtain ⟨r0, r1, _, _⟩ := t9.cells
      exact bodyPost_ret (v := .tuple #[.agg #[.string ByteArray.empty, .slice none 0 0], .int .i64 c2]) (by simp [results, Tryz.results6, go_sem, r0, r1]; rfl) rfl HE.out
  · have e1b : (c1 != 0) = true := by simpa using e1
    obtain ⟨k0, k1, f0, f1⟩ := H1.out.2.2.1.cells
    have HE := hideS (errs.out c1 _ (by
      rw [← HRd.out]
      unfold joiM
      rw [HX.out.1.1, if_pos e1]) (HSB.out w1 (.string ⟨#[]⟩) (.slice none 0 0) H1.out.2.2.2))
    have t9 := H1.out.2.2.1.set (.string ⟨#[]⟩) (.slice none 0 0)
    go_wp2_with fail
    generalize ((w1.setCell ⟨w.heap.size + 1 + 1, 0, none⟩ (.string ⟨#[]⟩)).setCell ⟨w.heap.size + 1 + 1, 1, none⟩ (.slice none 0 0)) = W9 at *
    obtain ⟨r0, r1, _, _⟩ := t9.cells
    exact bodyPost_ret (v := .tuple #[.agg #[.string ByteArray.empty, .slice none 0 0], .int .i64 c1]) (by simp [results, Tryz.results6, go_sem, r0, r1]; rfl) rfl HE.out
end Go.Proofs.YtijgpdccemfhgaaGreatDoor

/- The reference's Splice at every argument (P0708). -/
namespace Go.Proofs.YtijgpdccemfhgaaGreatDoor
open Go.RowKit Go.Shelf
attribute [local go_sem] Oper.semAt_some

/-- append to a row of one's own, of a slice that may be nil: a step of a region that draws. -/
theorem step_spans2 {P : Program} (w : World) {ops : Array Oper} {o : Oper} {a : Act} {K : Act → World → Prop} {Q : Exit → Act → World → Prop} {E : Prop} (hg : o.guard = none) (s x : Operand) (t : TypeId)
    (ho : o.op = .call { callee := .builtin .append, args := #[s, x], argTypes := #[t, t] })
    (base : Nat) (e : TypeId) (i : TypeInfo) (z : Value) (size bytes : Nat) (ht : P.underlying t = some (.slice e)) (hi : P.info? e = some i) (hz : i.zero = some z)
    (hsize : i.size = size) (hby : i.bytes = bytes) (hzs : z.cells.size = size) (hsz : 0 < size)
    (v : Value) (n : Nat) (xs : List Value) (hs : a.eval s = v) (hown : w.ownsRow base e size v n xs)
    (oa : Option Addr) (m c : Nat) (news : List Value) (hx : a.eval x = .slice oa m c) (hn : oa = none → m = 0 ∧ c = 0) (hl : news.length = m * size) (hnews : ∀ ad, oa = some ad → ∀ j u, news[j]? = some u → w.cell? (ad.add j) = some u) (h1 : ∀ u ∈ news, u.oneCell' = true)
    (h63 : n + m ≤ maxLen) (hbytes : (n + m) * bytes ≤ 140737488355328) (hbase : base ≤ w.heap.size)
    (h : ∀ v' w', w'.ownsRow base e size v' (n + m) (xs ++ news) → w.grownBy w' v.ownBlock → K (a.put o.dst v') w') :
    if Region.wanted o (yielded ops a.tmps) = true then Oper.wp P o a w K Q else E := by
  have hw : Region.wanted o (yielded ops a.tmps) = true := by simp [Region.wanted, hg]
  rw [if_pos hw]
  cases oa with
  | none =>
    obtain ⟨rfl, rfl⟩ := hn rfl
    have hbv : news = [] := List.length_eq_zero_iff.1 (by rw [hl, Nat.zero_mul])
    subst hbv
    have h2 := h v w (by rw [List.append_nil]; exact hown) (World.grownBy.refl w _)
    have hrun := run_append_owned_none (P := P) (w := w) base t o.type e i size ht hi v n xs hown
    unfold Oper.wp
    simp [execOp, ho, resolve, invoke, builtin, hs, hx, hrun, Result.andThen]
    exact h2
  | some ad => exact wp_append_own w s x t ho base e i z size bytes ht hi hz hsize hby hzs hsz v n xs hs hown ad m c news hx hl (hnews ad rfl) h1 h63 hbytes hbase fun v' w' h2 h3 _ => h v' w' h2 h3
theorem own_read9 {W : World} {base n : Nat} {v : Value} {Q : List Sp} (h : W.ownsRow base 37 4 v n (flat4 Q)) (hn : Q.length = n) : ∃ o cap, v = .slice o n cap ∧ (n ≤ cap ∧ cap ≤ maxLen) ∧ SpO W o Q ∧ (∀ a, o = some a → base ≤ a.block) := by
  obtain ⟨o, cap, e, hc, _, hs, hel⟩ := own_sc h hn
  refine ⟨o, cap, e, hc, ?_, fun a ha => ?_⟩
  · cases o with
    | none => rw [hel rfl]; exact SpO.nil _ _
    | some ad =>
      obtain ⟨g, rfl, _, hsc⟩ := hs ad rfl
      exact hsc.spo
  · obtain ⟨g, rfl, hg, _⟩ := hs a ha
    exact hg
theorem take_snoc9 {α : Type} {L : List α} {k : Nat} {p : α} (h : L[k]? = some p) : L.take (k + 1) = L.take k ++ [p] := by rw [List.take_add_one, h]; rfl
theorem sp_cells9 {W : World} {G : Nat} {a b c d : Value} (h : W.heap[G]? = some (.cells #[a, b, c, d] 37)) : W.cell? ⟨G, 0, none⟩ = some a ∧ W.cell? ⟨G, 1, none⟩ = some b ∧ W.cell? ⟨G, 2, none⟩ = some c ∧ W.cell? ⟨G, 3, none⟩ = some d ∧ W.frozen? ⟨G, 0, none⟩ = false ∧ W.frozen? ⟨G, 1, none⟩ = false := by
  simp [World.cell?, World.frozen?, h]
/-- Splice, where both texts and the part are right. -/
theorem splM_ok (s : ByteArray) (D : List Sp) (i j n : Nat) (u : ByteArray) (E : List Sp) (x y : ByteArray) (m : Nat) (h1 : chkT s D = 0) (h2 : chkT u E = 0) (hn : (signs s).length = n) (hm : (signs u).length = m) (hb : betB i j n = true) (hx : cutM s 0 i = x) (hy : cutM s j n = y) :
    splM s D i j u E = if 4096 < (x ++ u ++ y).size then (3, ByteArray.empty, []) else if meltsB x u = true then (22, ByteArray.empty, []) else if meltsB (x ++ u) y = true then (22, ByteArray.empty, [])
      else if 256 < (aroundM i j m (isort ltS D) ++ E.map (mvS i)).length then (2, ByteArray.empty, []) else (0, x ++ u ++ y, aroundM i j m (isort ltS D) ++ E.map (mvS i)) := by
  unfold splM
  rw [h1, h2, hn, hm, hb, if_neg (by simp), if_neg (by simp), if_neg (by simp), Int.toNat_natCast, Int.toNat_natCast, hx, hy, glue3]
  by_cases c1 : 4096 < (x ++ u ++ y).size
  · rw [if_pos c1, if_pos c1]
    rfl
  · rw [if_neg c1, if_neg c1]
    by_cases c2 : meltsB x u = true
    · rw [if_pos c2, if_pos c2]
      rfl
    · rw [if_neg c2, if_neg c2]
      by_cases c3 : meltsB (x ++ u) y = true
      · rw [if_pos c3, if_pos c3]
        rfl
      · rw [if_neg c3, if_neg c3, if_neg (by simp)]
set_option maxRecDepth 100000 in
set_option maxHeartbeats 4000000 in
theorem rsplice_any (s u : ByteArray) (D E : List Sp) (oa ob : Option Addr) (ca cb : Nat) (a b : Int) (hnb : ob = none → E = [] ∧ cb = 0) (w : World) (hRa : SpO w oa D) (hRb : SpO w ob E) :
    Calls Tryz.prog 12 #[.agg #[.string s, .slice oa D.length ca], .int .i64 a, .int .i64 b, .agg #[.string u, .slice ob E.length cb]] w (SplAns w (splM s D a b u E)) := by
  obtain ⟨i0, hi, hz0, hz1, hz2⟩ := info_parts infoSp
  have HC1 := hideS (fun (W : World) (h : Below w.heap.size w W) => rcheck_any s D oa ca W (hRa.keep h))
  have HC2 := hideS (fun (W : World) (h : Below w.heap.size w W) => rcheck_any u E ob cb W (hRb.keep h))
  obtain ⟨R, hR⟩ : ∃ R, splM s D a b u E = R := ⟨_, rfl⟩
  rw [hR]
  have HRd := hideS hR
  obtain ⟨c1, hc1⟩ : ∃ c, chkT s D = c := ⟨_, rfl⟩
  obtain ⟨c2, hc2⟩ : ∃ c, chkT u E = c := ⟨_, rfl⟩
  obtain ⟨n, hn⟩ : ∃ n, (signs s).length = n := ⟨_, rfl⟩
  obtain ⟨m, hm⟩ : ∃ m, (signs u).length = m := ⟨_, rfl⟩
  obtain ⟨ND, hND⟩ : ∃ ND, D.length = ND := ⟨_, rfl⟩
  obtain ⟨NE, hNE⟩ : ∃ NE, E.length = NE := ⟨_, rfl⟩
  have HX := hideS (And.intro (And.intro hc1 hc2) (And.intro (And.intro hn hm) (And.intro hND hNE)))
  have HY := hideS (And.intro hRa (And.intro hRb hnb))
  rw [hc1, hND] at HC1
  rw [hc2, hNE] at HC2
  rw [hND, hNE]
  clear hRa hRb hnb hR hc1 hc2 hn hm hND hNE
  obtain ⟨PO, hPO⟩ : ∃ PO : Ending → World → Prop, PO = SplAns w R := ⟨_, rfl⟩
  rw [← hPO]
  have HPO := hideS hPO
  clear hPO
  have errs : Hid (∀ (er : Int) (W : World), R = (er, ByteArray.empty, []) → Below w.heap.size w W → PO (.returned (.tuple #[.agg #[.string ByteArray.empty, .slice none 0 0], .int .i64 er])) W) := hideS (fun er W h1 h2 => by
    rw [HPO.out, h1]
    exact ⟨_, rfl, World.ownsRow_nil _ _ _ _, h2⟩)
  have hsb : ∀ (W : World) (v : Value), Below w.heap.size w W → Below w.heap.size w ((W.setCell ⟨w.heap.size + 1 + 1, 0, none⟩ (.string ⟨#[]⟩)).setCell ⟨w.heap.size + 1 + 1, 1, none⟩ v) := fun W v h => (h.setCell (p := ⟨w.heap.size + 1 + 1, 0, none⟩) (by show w.heap.size ≤ w.heap.size + 1 + 1; omega) _).setCell (p := ⟨w.heap.size + 1 + 1, 1, none⟩) (by show w.heap.size ≤ w.heap.size + 1 + 1; omega) _
  have HSB := hideS hsb
  clear hsb
  go_enter Tryz.func12, Tryz.ntmps12
  go_wp2_with fail
  obtain ⟨W0, hW0⟩ : ∃ W0, ((w.alloc (.cells #[.string s, .slice oa ND ca] 24)).alloc (.cells #[.string u, .slice ob NE cb] 24)).alloc (.cells #[.string ⟨#[]⟩, .slice none 0 0] 24) = W0 := ⟨_, rfl⟩
  have t0 : Tx W0 w.heap.size (.string s) (.slice oa ND ca) := by rw [← hW0]; exact ((Tx.new w _ _).keep (bel1S _ _)).keep (bel1S _ _)
  have t1 : Tx W0 (w.heap.size + 1) (.string u) (.slice ob NE cb) := by
    rw [← hW0]
    have h9 := Tx.new (w.alloc (.cells #[.string s, .slice oa ND ca] 24)) (.string u) (.slice ob NE cb)
    rw [World.size_alloc] at h9
    exact h9.keep (bel1S _ _)
  have t2 : Tx W0 (w.heap.size + 1 + 1) (.string ⟨#[]⟩) (.slice none 0 0) := by
    rw [← hW0]
    have h9 := Tx.new ((w.alloc (.cells #[.string s, .slice oa ND ca] 24)).alloc (.cells #[.string u, .slice ob NE cb] 24)) (.string ⟨#[]⟩) (.slice none 0 0)
    rw [World.size_alloc, World.size_alloc] at h9
    exact h9
  have b0 : Below w.heap.size w W0 := by rw [← hW0]; exact bupS (bel1S _ _) (bupS (bel1S _ _) (bel1S _ _))
  rw [hW0]
  have H0 := hideS (And.intro t0 (And.intro t1 (And.intro t2 b0)))
  clear hW0 t0 t1 t2 b0
  refine (HC1.out W0 H0.out.2.2.2).mono ?_
  rintro e w1 ⟨rfl, b1⟩
  have H1 := hideS (show Tx w1 w.heap.size (.string s) (.slice oa ND ca) ∧ Tx w1 (w.heap.size + 1) (.string u) (.slice ob NE cb) ∧ Tx w1 (w.heap.size + 1 + 1) (.string ⟨#[]⟩) (.slice none 0 0) ∧ Below w.heap.size w w1 from ⟨H0.out.1.keep b1, H0.out.2.1.keep b1, H0.out.2.2.1.keep b1, bupS H0.out.2.2.2 b1⟩)
  clear b1 H0 HC1
  by_cases e1 : c1 = 0
  · subst e1
    obtain ⟨k0, k1, _, _⟩ := H1.out.2.1.cells
    go_wp2_with fail
    refine (HC2.out w1 H1.out.2.2.2).mono ?_
    rintro e w2 ⟨rfl, b2⟩
    have H2 := hideS (show Tx w2 w.heap.size (.string s) (.slice oa ND ca) ∧ Tx w2 (w.heap.size + 1) (.string u) (.slice ob NE cb) ∧ Tx w2 (w.heap.size + 1 + 1) (.string ⟨#[]⟩) (.slice none 0 0) ∧ Below w.heap.size w w2 from ⟨H1.out.1.keep b2, H1.out.2.1.keep b2, H1.out.2.2.1.keep b2, bupS H1.out.2.2.2 b2⟩)
    clear b2 H1 HC2 k0 k1
    by_cases e2 : c2 = 0
    · subst e2
      have hok1 := chkT_ok HX.out.1.1
      have hok2 := chkT_ok HX.out.1.2
      have HCt := hideS (fun (W : World) => rcountR s (by omega) W)
      have HCu := hideS (fun (W : World) => rcountR u (by omega) W)
      rw [HX.out.2.1.1] at HCt
      rw [HX.out.2.1.2] at HCu
      have hin := chk_in HX.out.1.1
      have hn4 := signs_le s
      have hm4 := signs_le u
      rw [HX.out.2.1.1] at hn4 hin
      rw [HX.out.2.1.2] at hm4
      rw [HX.out.2.2.1] at hok1
      rw [HX.out.2.2.2] at hok2
      have HIn := hideS hin
      clear hin
      obtain ⟨k0, k1, _, _⟩ := H2.out.1.cells
      go_wp2_with fail
      refine (HCt.out w2).mono ?_
      rintro e w3 ⟨rfl, b3⟩
      have H3 := hideS (show Tx w3 w.heap.size (.string s) (.slice oa ND ca) ∧ Tx w3 (w.heap.size + 1) (.string u) (.slice ob NE cb) ∧ Tx w3 (w.heap.size + 1 + 1) (.string ⟨#[]⟩) (.slice none 0 0) ∧ Below w.heap.size w w3 from ⟨H2.out.1.keep b3, H2.out.2.1.keep b3, H2.out.2.2.1.keep b3, bupS H2.out.2.2.2 b3⟩)
      clear b3 H2 k0 k1
      go_wp2_with fail
      refine (may_any a b n w3).mono ?_
      rintro e w4 ⟨rfl, rfl⟩
      obtain ⟨bt, hbt⟩ : ∃ bt, betB a b n = bt := ⟨_, rfl⟩
      rw [show decide (0 ≤ a ∧ a ≤ b ∧ b ≤ n) = bt from hbt]
      cases bt with
      | false =>
        obtain ⟨k0, k1, f0, f1⟩ := H3.out.2.2.1.cells
        have HE := hideS (errs.out 1 _ (by
          rw [← HRd.out]
          unfold splM
          rw [HX.out.1.1, HX.out.1.2, HX.out.2.1.1, hbt]
          rfl) (HSB.out w4 (.slice none 0 0) H3.out.2.2.2))
        have t9 := H3.out.2.2.1.set (.string ⟨#[]⟩) (.slice none 0 0)
        go_wp2_with fail
        generalize ((w4.setCell ⟨w.heap.size + 1 + 1, 0, none⟩ (.string ⟨#[]⟩)).setCell ⟨w.heap.size + 1 + 1, 1, none⟩ (.slice none 0 0)) = W9 at *
        obtain ⟨r0, r1, _, _⟩ := t9.cells
        exact bodyPost_ret (v := .tuple #[.agg #[.string ByteArray.empty, .slice none 0 0], .int .i64 1]) (by simp [results, Tryz.results12, go_sem, r0, r1]; rfl) rfl HE.out
      | true =>
        have hb3 := of_decide_eq_true (show decide (0 ≤ a ∧ a ≤ b ∧ b ≤ n) = true from hbt)
        obtain ⟨i, rfl⟩ : ∃ i : Nat, a = (i : Int) := ⟨a.toNat, by omega⟩
        obtain ⟨j, rfl⟩ : ∃ j : Nat, b = (j : Int) := ⟨b.toNat, by omega⟩
        obtain ⟨x, hx⟩ : ∃ x, cutM s 0 i = x := ⟨_, rfl⟩
        obtain ⟨y, hy⟩ : ∃ y, cutM s j n = y := ⟨_, rfl⟩
        have hxs := cutM_size s 0 i
        have hys := cutM_size s j n
        have HS1 := hideS (fun W => rpart_any s (by omega) 0 i (by omega) (by rw [HX.out.2.1.1]; omega) W)
        have HS2 := hideS (fun W => rpart_any s (by omega) j n (by omega) (by rw [HX.out.2.1.1]; omega) W)
        have HRr := hideS (splM_ok s D i j n u E x y m HX.out.1.1 HX.out.1.2 HX.out.2.1.1 HX.out.2.1.2 hbt hx hy)
        rw [HRd.out] at HRr
        rw [hx] at HS1 hxs
        rw [hy] at HS2 hys
        change Hid (∀ W, Calls Tryz.prog 28 #[.string s, .int .i64 0, .int .i64 (i : Nat)] W fun e w' => e = .returned (.string x) ∧ Below W.heap.size W w') at HS1
        clear hbt hx hy HRd
        obtain ⟨k0, k1, _, _⟩ := H3.out.1.cells
        go_wp2_with fail
        refine (HS1.out w4).mono ?_
        rintro e w5 ⟨rfl, b5⟩
        have H5 := hideS (show Tx w5 w.heap.size (.string s) (.slice oa ND ca) ∧ Tx w5 (w.heap.size + 1) (.string u) (.slice ob NE cb) ∧ Tx w5 (w.heap.size + 1 + 1) (.string ⟨#[]⟩) (.slice none 0 0) ∧ Below w.heap.size w w5 from ⟨H3.out.1.keep b5, H3.out.2.1.keep b5, H3.out.2.2.1.keep b5, bupS H3.out.2.2.2 b5⟩)
        clear b5 H3 k0 k1 HS1
        obtain ⟨k0, k1, _, _⟩ := H5.out.1.cells
        have hl0 := H5.out.1.lt
        go_upto_region 9 with fail
        go_cut [12] (fun sv wx => sv = .string y ∧ Below w5.heap.size w5 wx)
        case first =>
          go_region_held3 (fun w' => w'.cell? ⟨w.heap.size, 0, none⟩ = some (.string s)) (first | go_keep | assumption | exact kA9 | exact kB9) (first
            | (go_at_call 19; (with_reducible refine (HCt.out _).mono ?_); rintro e wA ⟨rfl, bA⟩; have bA : Below w5.heap.size w5 wA := (by first | exact ⟨bA.os, bA.tape, bA.output, bA.size, bA.block⟩ | exact bA); have kA9 : wA.cell? ⟨w.heap.size, 0, none⟩ = some (.string s) := (bA.cell (p := ⟨w.heap.size, 0, none⟩) hl0).trans k0; have HbA := hideS bA; clear bA)
            | (go_at_call 28; (with_reducible refine (HS2.out _).mono ?_); rintro e wB ⟨rfl, bB⟩; have bB : Below w5.heap.size w5 wB := bupS HbA.out bB; have kB9 : wB.cell? ⟨w.heap.size, 0, none⟩ = some (.string s) := (bB.cell (p := ⟨w.heap.size, 0, none⟩) hl0).trans k0; have HbB := hideS bB; clear bB))
          all_goals first | go_wp2_with fail | skip
          all_goals go_meet
          all_goals exact ⟨rfl, HbB.out⟩
        case rest =>
          obtain ⟨rfl, bc⟩ := hcut
          have H6 := hideS (show Tx wc w.heap.size (.string s) (.slice oa ND ca) ∧ Tx wc (w.heap.size + 1) (.string u) (.slice ob NE cb) ∧ Tx wc (w.heap.size + 1 + 1) (.string ⟨#[]⟩) (.slice none 0 0) ∧ Below w.heap.size w wc from ⟨H5.out.1.keep bc, H5.out.2.1.keep bc, H5.out.2.2.1.keep bc, bupS H5.out.2.2.2 bc⟩)
          clear bc H5 k0 k1 HS2 HCt
          obtain ⟨xu, hxu⟩ : ∃ z, x ++ u = z := ⟨_, rfl⟩
          obtain ⟨xs, hxy⟩ : ∃ z, xu ++ y = z := ⟨_, rfl⟩
          have hxz : xu.size = x.size + u.size := by rw [← hxu]; exact ByteArray.size_append
          have HM1 := hideS (fun W => rmelts_any x u (by omega) W)
          have HM2 := hideS (fun W => rmelts_any xu y (by omega) W)
          rw [hxu, hxy] at HRr
          obtain ⟨q1, hq1⟩ : ∃ q, meltsB x u = q := ⟨_, rfl⟩
          obtain ⟨q2, hq2⟩ : ∃ q, meltsB xu y = q := ⟨_, rfl⟩
          rw [hq1] at HM1 HRr
          rw [hq2] at HM2 HRr
          obtain ⟨k0, k1, _, _⟩ := H6.out.2.1.cells
          go_upto_region 11 with fail
          try rw [hxu, hxy]
          obtain ⟨B, hB⟩ : ∃ B, wc.heap.size = B := ⟨_, rfl⟩
          obtain ⟨V0, hV0⟩ : ∃ V0, wc.alloc (.cells #[.string xs, .slice none 0 0] 24) = V0 := ⟨_, rfl⟩
          have b0 : Below wc.heap.size wc V0 := by rw [← hV0]; exact bel1S _ _
          have t0 : Tx V0 B (.string xs) (.slice none 0 0) := by rw [← hV0, ← hB]; exact Tx.new _ _ _
          rw [hV0, hB]
          have H7 := hideS (show Tx V0 w.heap.size (.string s) (.slice oa ND ca) ∧ Tx V0 (w.heap.size + 1) (.string u) (.slice ob NE cb) ∧ Tx V0 (w.heap.size + 1 + 1) (.string ⟨#[]⟩) (.slice none 0 0) ∧ Tx V0 B (.string xs) (.slice none 0 0) ∧ Below w.heap.size w V0 from ⟨H6.out.1.keep b0, H6.out.2.1.keep b0, H6.out.2.2.1.keep b0, t0, bupS H6.out.2.2.2 b0⟩)
          have hBw : w.heap.size + 1 + 1 < B := by have := H6.out.2.2.1.lt; omega
          clear hV0 b0 t0 H6 hB k0 k1 hxy hq1 hq2 hxz
          by_cases big : 4096 < xs.size
          · have bigI : (4096 : Int) < (xs.size : Int) := by omega
            obtain ⟨m0, m1, _, _⟩ := H7.out.2.2.2.1.cells
            obtain ⟨k0, k1, f0, f1⟩ := H7.out.2.2.1.cells
            have HE := hideS (errs.out 3 _ (by rw [HRr.out, if_pos big]) (HSB.out V0 (.slice none 0 0) H7.out.2.2.2.2))
            have t9 := H7.out.2.2.1.set (.string ⟨#[]⟩) (.slice none 0 0)
            go_wp2_with fail
            generalize ((V0.setCell ⟨w.heap.size + 1 + 1, 0, none⟩ (.string ⟨#[]⟩)).setCell ⟨w.heap.size + 1 + 1, 1, none⟩ (.slice none 0 0)) = W9 at *
            obtain ⟨r0, r1, _, _⟩ := t9.cells
            exact bodyPost_ret (v := .tuple #[.agg #[.string ByteArray.empty, .slice none 0 0], .int .i64 3]) (by simp [results, Tryz.results12, go_sem, r0, r1]; rfl) rfl HE.out
          · have bigI : ¬ (4096 : Int) < (xs.size : Int) := by omega
            rw [if_neg big] at HRr
            obtain ⟨m0, m1, _, _⟩ := H7.out.2.2.2.1.cells
            obtain ⟨k0, k1, _, _⟩ := H7.out.2.1.cells
            go_wp2_with fail
            refine (HM1.out V0).mono ?_
            rintro e w7 ⟨rfl, b7⟩
            have H8 := hideS (show Tx w7 w.heap.size (.string s) (.slice oa ND ca) ∧ Tx w7 (w.heap.size + 1) (.string u) (.slice ob NE cb) ∧ Tx w7 (w.heap.size + 1 + 1) (.string ⟨#[]⟩) (.slice none 0 0) ∧ Tx w7 B (.string xs) (.slice none 0 0) ∧ Below w.heap.size w w7 from ⟨H7.out.1.keep b7, H7.out.2.1.keep b7, H7.out.2.2.1.keep b7, H7.out.2.2.2.1.keep b7, bupS H7.out.2.2.2.2 b7⟩)
            clear b7 H7 k0 k1 m0 m1 HM1
            cases q1 with
            | true =>
              obtain ⟨k0, k1, f0, f1⟩ := H8.out.2.2.1.cells
              have HE := hideS (errs.out 22 _ (by rw [HRr.out, if_pos rfl]) (HSB.out w7 (.slice none 0 0) H8.out.2.2.2.2))
              have t9 := H8.out.2.2.1.set (.string ⟨#[]⟩) (.slice none 0 0)
              go_wp2_with fail
              generalize ((w7.setCell ⟨w.heap.size + 1 + 1, 0, none⟩ (.string ⟨#[]⟩)).setCell ⟨w.heap.size + 1 + 1, 1, none⟩ (.slice none 0 0)) = W9 at *
              obtain ⟨r0, r1, _, _⟩ := t9.cells
              exact bodyPost_ret (v := .tuple #[.agg #[.string ByteArray.empty, .slice none 0 0], .int .i64 22]) (by simp [results, Tryz.results12, go_sem, r0, r1]; rfl) rfl HE.out
            | false =>
              rw [if_neg (by simp)] at HRr
              obtain ⟨k0, k1, _, _⟩ := H8.out.2.1.cells
              go_wp2_with fail
              first | rw [hxu] | skip
              refine (HM2.out w7).mono ?_
              rintro e w8 ⟨rfl, b8⟩
              have H9 := hideS (show Tx w8 w.heap.size (.string s) (.slice oa ND ca) ∧ Tx w8 (w.heap.size + 1) (.string u) (.slice ob NE cb) ∧ Tx w8 (w.heap.size + 1 + 1) (.string ⟨#[]⟩) (.slice none 0 0) ∧ Tx w8 B (.string xs) (.slice none 0 0) ∧ Below w.heap.size w w8 from ⟨H8.out.1.keep b8, H8.out.2.1.keep b8, H8.out.2.2.1.keep b8, H8.out.2.2.2.1.keep b8, bupS H8.out.2.2.2.2 b8⟩)
              clear b8 H8 k0 k1 HM2
              cases q2 with
              | true =>
                obtain ⟨k0, k1, f0, f1⟩ := H9.out.2.2.1.cells
                have HE := hideS (errs.out 22 _ (by rw [HRr.out, if_pos rfl]) (HSB.out w8 (.slice none 0 0) H9.out.2.2.2.2))
                have t9 := H9.out.2.2.1.set (.string ⟨#[]⟩) (.slice none 0 0)
                go_wp2_with fail
                generalize ((w8.setCell ⟨w.heap.size + 1 + 1, 0, none⟩ (.string ⟨#[]⟩)).setCell ⟨w.heap.size + 1 + 1, 1, none⟩ (.slice none 0 0)) = W9 at *
                obtain ⟨r0, r1, _, _⟩ := t9.cells
                exact bodyPost_ret (v := .tuple #[.agg #[.string ByteArray.empty, .slice none 0 0], .int .i64 22]) (by simp [results, Tryz.results12, go_sem, r0, r1]; rfl) rfl HE.out
              | false =>
                rw [if_neg (by simp)] at HRr
                obtain ⟨k0, k1, _, _⟩ := H9.out.2.1.cells
                go_wp2_with fail
                refine (HCu.out w8).mono ?_
                rintro e w9 ⟨rfl, b9⟩
                have H10 := hideS (show Tx w9 w.heap.size (.string s) (.slice oa ND ca) ∧ Tx w9 (w.heap.size + 1) (.string u) (.slice ob NE cb) ∧ Tx w9 (w.heap.size + 1 + 1) (.string ⟨#[]⟩) (.slice none 0 0) ∧ Tx w9 B (.string xs) (.slice none 0 0) ∧ Below w.heap.size w w9 from ⟨H9.out.1.keep b9, H9.out.2.1.keep b9, H9.out.2.2.1.keep b9, H9.out.2.2.2.1.keep b9, bupS H9.out.2.2.2.2 b9⟩)
                clear b9 H9 k0 k1 HCu
                have HOu := hideS (fun (W : World) (h : Below w.heap.size w W) => router_any D oa ca (by rw [HX.out.2.2.1]; omega) W (HY.out.1.keep h))
                have HMv := hideS (fun (W : World) (h : Below w.heap.size w W) => rmoved_any E ob cb i (by rw [HX.out.2.2.2]; omega) W (HY.out.2.1.keep h))
                have hL : (isort ltS D).length = D.length := isort_length ltS D
                rw [HX.out.2.2.1] at HOu hL
                rw [HX.out.2.2.2] at HMv
                have hEl : (E.map (mvS (i : Int))).length = NE := by rw [List.length_map]; exact HX.out.2.2.2
                generalize isort ltS D = L at *
                generalize E.map (mvS (i : Int)) = EM at *
                have HN := hideS (And.intro hL hEl)
                clear hL hEl
                obtain ⟨k0, k1, _, _⟩ := H10.out.1.cells
                go_wp2_with fail
                refine (HOu.out w9 H10.out.2.2.2.2).mono ?_
                rintro e w10 ⟨v7, rfl, own7, b10⟩
                obtain ⟨ol, cl, rfl, hcl, hSo, hob⟩ := own_read9 own7 HN.out.1
                have H11 := hideS (show Tx w10 (w.heap.size + 1) (.string u) (.slice ob NE cb) ∧ Tx w10 (w.heap.size + 1 + 1) (.string ⟨#[]⟩) (.slice none 0 0) ∧ Tx w10 B (.string xs) (.slice none 0 0) ∧ Below w.heap.size w w10 ∧ SpO w10 ol L ∧ (∀ ad, ol = some ad → ¬ ad.block = B) from ⟨H10.out.2.1.keep b10, H10.out.2.2.1.keep b10, H10.out.2.2.2.1.keep b10, bupS H10.out.2.2.2.2 b10, hSo, fun ad h => by have := hob ad h; have := H10.out.2.2.2.1.lt; omega⟩)
                have hB10 := H11.out.2.2.1.lt
                clear own7 b10 hSo hob H10 HOu k0 k1
                go_wp2_with fail
                go_loopw [16] (fun iv wq => ∃ (k : Nat) (v : Value), iv = .int .i64 (k : Nat) ∧ k ≤ ND ∧ (aroundM i j m (L.take k)).length ≤ k ∧ wq.ownsRow w10.heap.size 37 4 v (aroundM i j m (L.take k)).length (flat4 (aroundM i j m (L.take k))) ∧ Tx wq B (.string xs) v ∧ But (fun k => k = B) w10 wq) (fun iv _ => ND - (intOf iv).toNat)
                case atStart => exact ⟨0, _, rfl, Nat.zero_le _, Nat.le_refl _, World.ownsRow_nil _ _ _ _, H11.out.2.2.1, But.refl _ _⟩
                case round =>
                  obtain ⟨k, v, rfl, hiN, hal, hO, hTx, hb⟩ := hrel
                  obtain ⟨wq, rfl⟩ : ∃ wq, wq = wr := ⟨_, rfl⟩
                  by_cases hlt : k < ND
                  · obtain ⟨p, hp⟩ : ∃ p, L[k]? = some p := ⟨_, List.getElem?_eq_getElem (by rw [HN.out.1]; exact hlt)⟩
                    have hIx := HIn.out p (List.mem_of_getElem? hp)
                    obtain ⟨ad, rfl, hab, c0, c1, c2, c3⟩ := (H11.out.2.2.2.2.1.but hb H11.out.2.2.2.2.2) k p hp
                    have d1 : (k : Int) < (ND : Int) := by omega
                    have wi : IntKind.i64.wrap ((k : Int) + 1) = ((k + 1 : Nat) : Int) := by rw [show ((k + 1 : Nat) : Int) = (k : Int) + 1 by omega]; exact IntWalk.i64_in _ ⟨by omega, by omega⟩
                    have hnx := aroundM_snoc i j m (L.take k) p
                    rw [← take_snoc9 hp] at hnx
                    unfold InS at hIx
                    have HBg := hideS (fun W => rbeg_any i j m p.fr (by omega) (by omega) (by omega) (by omega) W)
                    have HEn := hideS (fun W => rend_any7 i j m p.tt (by omega) (by omega) (by omega) (by omega) W)
                    obtain ⟨bv, hbv⟩ : ∃ bv, begI i j m p.fr = bv := ⟨_, rfl⟩
                    obtain ⟨ev, hev⟩ : ∃ ev, endI i j m p.tt = ev := ⟨_, rfl⟩
                    rw [hbv] at HBg hnx
                    rw [hev] at HEn hnx
                    obtain ⟨ov, cv, rfl⟩ := own_form9 hO
                    have HA := hideS (And.intro hO (And.intro hnx (And.intro hTx hb)))
                    clear hO hnx hb hp hTx hIx hbv hev
                    go_upto_region 21 with fail
                    obtain ⟨V, hV⟩ : ∃ V, wq.alloc (.cells #[.int .i64 p.fr, .int .i64 p.tt, .int .i64 p.kd, .int .i64 p.vl] 37) = V := ⟨_, rfl⟩
                    have bV : Below wq.heap.size wq V := by rw [← hV]; exact bel1S _ _
                    have nV : V.heap[wq.heap.size]? = some (.cells #[.int .i64 p.fr, .int .i64 p.tt, .int .i64 p.kd, .int .i64 p.vl] 37) := by rw [← hV]; exact World.alloc_heap_new wq _
                    rw [hV]
                    obtain ⟨s0, s1, s2, s3, f0, f1⟩ := sp_cells9 nV
                    clear hV c0 c1 c2 c3
                    go_upto_region 22 with (go_at_call 31; (with_reducible refine (HBg.out V).mono ?_); rintro e V1 ⟨rfl, rfl⟩)
                    obtain ⟨V2, hV2⟩ : ∃ V2, V1.setCell ⟨wq.heap.size, 0, none⟩ (.int .i64 bv) = V2 := ⟨_, rfl⟩
                    have bV2 : Below wq.heap.size wq V2 := by rw [← hV2]; exact bV.setCell (p := ⟨wq.heap.size, 0, none⟩) (Nat.le_refl _) _
                    have nV2 : V2.heap[wq.heap.size]? = some (.cells #[.int .i64 bv, .int .i64 p.tt, .int .i64 p.kd, .int .i64 p.vl] 37) := by
                      rw [← hV2, set_atS nV 0 (.int .i64 bv)]
                      rfl
                    rw [hV2]
                    clear hV2 bV nV s0 s1 s2 s3 f0 f1 HBg
                    obtain ⟨s0, s1, s2, s3, f0, f1⟩ := sp_cells9 nV2
                    go_upto_region 23 with (go_at_call 32; (with_reducible refine (HEn.out V2).mono ?_); rintro e V3 ⟨rfl, rfl⟩)
                    obtain ⟨V, hV⟩ : ∃ V, V3.setCell ⟨wq.heap.size, 1, none⟩ (.int .i64 ev) = V := ⟨_, rfl⟩
                    have bV : Below wq.heap.size wq V := by rw [← hV]; exact bV2.setCell (p := ⟨wq.heap.size, 1, none⟩) (Nat.le_refl _) _
                    have nV : V.heap[wq.heap.size]? = some (.cells #[.int .i64 bv, .int .i64 ev, .int .i64 p.kd, .int .i64 p.vl] 37) := by
                      rw [← hV, set_atS nV2 1 (.int .i64 ev)]
                      rfl
                    rw [hV]
                    clear hV bV2 nV2 s0 s1 s2 s3 f0 f1 HEn
                    obtain ⟨s0, s1, s2, s3, f0, f1⟩ := sp_cells9 nV
                    have sx : w10.heap.size ≤ V.heap.size := Nat.le_trans HA.out.2.2.2.size bV.size
                    have HGx := hideS (own_keepS HA.out.1 bV)
                    have HTV := hideS (HA.out.2.2.1.keep bV)
                    have HBV := hideS (HA.out.2.2.2.below_trans bV)
                    obtain ⟨_, z1, _, _⟩ := HTV.out.cells
                    clear bV nV
                    by_cases hbe : bv < ev
                    · go_wp2_with (at_builtin; refine wpList_append_own _ rfl _ _ 22 rfl w10.heap.size 37 i0 (.agg #[.int .i64 0, .int .i64 0, .int .i64 0, .int .i64 0]) 4 32 Tryz.underlying22 hi hz0 hz1 hz2 rfl (by decide) _ _ _ rfl (HGx.out.alloc _) ⟨V.heap.size, 0, none⟩ 1 1 [.int .i64 bv, .int .i64 ev, .int .i64 p.kd, .int .i64 p.vl] rfl rfl (cell_fourS _ _ _ _ _ _) (fun u hu => by simp at hu; rcases hu with rfl | rfl | rfl | rfl <;> rfl) (by unfold maxLen; omega) (by omega) (by simp; omega) ?_; intro v' w3 hown' hgrow _; obtain ⟨o9, c9, rfl⟩ := own_form9 hown'; have hB3 : Below w10.heap.size V w3 := Below.grown ((Below.refl _ _).alloc sx (.cells #[.int .i64 bv, .int .i64 ev, .int .i64 p.kd, .int .i64 p.vl] 37)) hgrow (by simp; omega) (fun j hj => (HGx.out.lt j hj).1); have t3 := HTV.out.below hB3 hB10; have q3 := t3.cells; have H3 := hideS (And.intro hown' (And.intro hB3 t3)); obtain ⟨_, q1, _, q2⟩ := q3; clear hown' hgrow hB3 t3)
                      go_roundw
                      case rel =>
                        have e9 := HA.out.2.1
                        rw [if_pos hbe] at e9
                        refine ⟨k + 1, .slice o9 ((aroundM i j m (L.take k)).length + 1) c9, by first | rfl | simp, by omega, ?_, ?_, ?_, (but_low HBV.out H3.out.2.1).setCell (p := ⟨B, 1, none⟩) rfl _⟩
                        · rw [e9, List.length_append]
                          simp
                          omega
                        · rw [e9, List.length_append, flat4_snoc]
                          exact ownsRow_setCell_below H3.out.1 (a := ⟨B, 1, none⟩) hB10 _
                        · exact tx_set1 H3.out.2.2 _
                      case measure => simp [intOf]; omega
                    · go_wp2_with fail
                      go_roundw
                      case rel =>
                        have e9 := HA.out.2.1
                        rw [if_neg hbe, List.append_nil] at e9
                        refine ⟨k + 1, .slice ov (aroundM i j m (L.take k)).length cv, by first | rfl | simp, by omega, ?_, ?_, HTV.out, HBV.out⟩
                        · rw [e9]
                          omega
                        · rw [e9]
                          exact HGx.out
                      case measure => simp [intOf]; omega
                  · have d1 : ¬ (k : Int) < (ND : Int) := by omega
                    rw [List.take_of_length_le (by rw [HN.out.1]; omega)] at hO hal
                    generalize aroundM i j m L = A at *
                    obtain ⟨LA, hLA⟩ : ∃ LA, A.length = LA := ⟨_, rfl⟩
                    obtain ⟨LL, hLL⟩ : ∃ LL, LA + NE = LL := ⟨_, rfl⟩
                    have hLe : (A ++ EM).length = LL := by rw [List.length_append, hLA, HN.out.2, hLL]
                    obtain ⟨ov, cv, rfl⟩ := own_form9 hO
                    rw [hLA] at hTx hO hal
                    rw [hLe] at HRr
                    have t7 : Tx wq (w.heap.size + 1 + 1) (.string ⟨#[]⟩) (.slice none 0 0) := (hb.same _ H11.out.2.1.lt (by omega)).trans H11.out.2.1
                    have t6 : Tx wq (w.heap.size + 1) (.string u) (.slice ob NE cb) := (hb.same _ H11.out.1.lt (by omega)).trans H11.out.1
                    have bw : Below w.heap.size w wq := H11.out.2.2.2.1.trans (hb.below H11.out.2.2.2.1.size (fun k e => by omega))
                    have hq10 : w10.heap.size ≤ wq.heap.size := hb.size
                    obtain ⟨k0, k1, g0, g1⟩ := hTx.cells
                    obtain ⟨m0, m1, _, _⟩ := t6.cells
                    have hP1 : w.heap.size + 1 < w10.heap.size := H11.out.1.lt
                    have hP2 : w.heap.size + 1 + 1 < w10.heap.size := H11.out.2.1.lt
                    have HQ := hideS (And.intro hO (And.intro hTx (And.intro t7 (And.intro bw hLe))))
                    have Hdr := hideS bw.drew
                    have hBf : w.heap.size + 1 ≠ B := by omega
                    have hBg : B ≠ w.heap.size + 1 := by omega
                    have hF : (flat4 EM).length = NE * 4 := by rw [flat4_len, HN.out.2]
                    clear hO hb hTx t7 t6 bw hLe hLA
                    have HLf : Hid (∀ (wA wC : World) (oC : Option Addr) (cC : Nat), Below wq.heap.size wq wA → Below w10.heap.size wA wC → wC.ownsRow w10.heap.size 37 4 (.slice oC LL cC) LL (flat4 A ++ flat4 EM) → Tx wC B (.string xs) (.slice ov LA cv) →
                        ∃ v2, (wC.setCell ⟨B, 1, none⟩ (.slice oC LL cC)).ownsRow w10.heap.size 37 4 v2 LL (flat4 (A ++ EM)) ∧ Tx (wC.setCell ⟨B, 1, none⟩ (.slice oC LL cC)) B (.string xs) v2 ∧ Tx (wC.setCell ⟨B, 1, none⟩ (.slice oC LL cC)) (w.heap.size + 1 + 1) (.string ⟨#[]⟩) (.slice none 0 0) ∧ Below w.heap.size w (wC.setCell ⟨B, 1, none⟩ (.slice oC LL cC))) := hideS (fun wA wC oC cC h1 h2 h3 h4 => by
                      refine ⟨.slice oC LL cC, ?_, tx_set1 h4 _, ?_, ?_⟩
                      · rw [flat4_append]
                        exact ownsRow_setCell_below h3 (a := ⟨B, 1, none⟩) hB10 _
                      · have h9 := (HQ.out.2.2.1.keep h1).below h2 hP2
                        exact ((But.set (M := fun k => k = B) wC ⟨B, 1, none⟩ _ rfl).same (w.heap.size + 1 + 1) h9.lt (by omega)).trans h9
                      · exact (bupS HQ.out.2.2.2.1 h1).trans ((h2.mono (Nat.le_trans (by omega) H11.out.2.2.2.1.size)).setCell (p := ⟨B, 1, none⟩) (by show w.heap.size ≤ B; omega) _))
                    go_upto_region 25 with fail
                    go_cut [] (fun wx => ∃ v2, wx.ownsRow w10.heap.size 37 4 v2 LL (flat4 (A ++ EM)) ∧ Tx wx B (.string xs) v2 ∧ Tx wx (w.heap.size + 1 + 1) (.string ⟨#[]⟩) (.slice none 0 0) ∧ Below w.heap.size w wx)
                    case first =>
                      refine wp_region_held_drew (S := fun w' => w'.cell? ⟨w.heap.size + 1, 1, none⟩ = some (.slice ob NE cb)) (by kernel_rfl) ?_ (fun hHeld => ?_)
                      · exact m1
                      refine wpAnyH_take (i := 0) (oi := ({ dst := some 113, op := Op.fieldAddr 24 (Operand.tmp 13) 1, type := 0, pos := "ref.go:391", after := #[], guard := none } : Oper)) (v := .pointer (some ⟨B, 1, none⟩)) rfl (by kernel_rfl) (by kernel_rfl) (by kernel_rfl) (fun _ _ _ h => h) (Or.inl ⟨by rfl, ?_⟩) (by assumption) ?_
                      · intro w9 hSw
                        try dsimp only at hSw
                        go_simp
                      try simp only [Act.put, List.setIfInBounds_toArray, List.set_cons_zero, List.set_cons_succ]
                      refine wpAnyH_take (i := 2) (oi := ({ dst := some 115, op := Op.fieldAddr 24 (Operand.tmp 7) 1, type := 0, pos := "ref.go:391", after := #[], guard := none } : Oper)) (v := .pointer (some ⟨w.heap.size + 1, 1, none⟩)) rfl (by kernel_rfl) (by kernel_rfl) (by kernel_rfl) (fun _ _ _ h => h) (Or.inl ⟨by rfl, ?_⟩) (by assumption) ?_
                      · intro w9 hSw
                        try dsimp only at hSw
                        go_simp
                      try simp only [Act.put, List.setIfInBounds_toArray, List.set_cons_zero, List.set_cons_succ]
                      refine wpAnyH_take (i := 3) (oi := ({ dst := some 116, op := Op.load 22 (Operand.tmp 115), type := 22, pos := "ref.go:391", after := #[{ on := 2, ground := Ground.data }], guard := none } : Oper)) (v := .slice ob NE cb) rfl (by kernel_rfl) (by kernel_rfl) (by kernel_rfl) (fun _ _ _ h => h) (Or.inl ⟨by rfl, ?_⟩) (by assumption) ?_
                      · intro w9 hSw
                        try dsimp only at hSw
                        go_simp
                      try simp only [Act.put, List.setIfInBounds_toArray, List.set_cons_zero, List.set_cons_succ]
                      refine wpAnyH_take (i := 4) (oi := ({ dst := some 117, op := Op.move (Operand.tmp 1), type := 3, pos := "ref.go:391", after := #[], guard := none } : Oper)) (v := .int .i64 (i : Int)) rfl (by kernel_rfl) (by kernel_rfl) (by kernel_rfl) (fun _ _ _ h => h) (Or.inl ⟨by rfl, ?_⟩) (by assumption) ?_
                      · intro w9 hSw
                        try dsimp only at hSw
                        go_simp
                      try simp only [Act.put, List.setIfInBounds_toArray, List.set_cons_zero, List.set_cons_succ]
                      refine wpAnyH_ready (rs := [1, 5]) (by kernel_rfl) (by simp) ?_
                      refine AllReadyH.cons (o := ({ dst := some 114, op := Op.load 22 (Operand.tmp 113), type := 22, pos := "ref.go:391", after := #[{ on := 0, ground := Ground.data }], guard := none } : Oper)) rfl (fun K hK => ?_) ?_
                      · go_simp
                        refine hK.out _ _ ?_ (fun hHeld => ?_)
                        · assumption
                        clear hK K
                        try simp only [Act.put, List.setIfInBounds_toArray, List.set_cons_zero, List.set_cons_succ]
                        refine wpAnyH_ready (rs := [5]) (by kernel_rfl) (by simp) ?_
                        refine AllReadyH.cons (o := ({ dst := some 118, op := Op.call { callee := Callee.value (Operand.func 20), args := #[Operand.tmp 116, Operand.tmp 117], argTypes := #[22, 3] }, type := 22, pos := "ref.go:391", after := #[{ on := 3, ground := Ground.data }, { on := 4, ground := Ground.data }], guard := none } : Oper)) rfl (fun K hK => ?_) ?_
                        · go_simp
                          (with_reducible refine (HMv.out wq.drew Hdr.out).mono ?_); rintro e wA ⟨v1, rfl, own1, bA⟩; obtain ⟨o1, cp1, rfl, hc1, hn1, hR1⟩ := own_flat own1 HN.out.2; have bA : Below wq.heap.size wq wA := (by first | exact ⟨bA.os, bA.tape, bA.output, bA.size, bA.block⟩ | exact bA); have kA1 : wA.cell? ⟨B, 1, none⟩ = some (.slice ov LA cv) := (bA.cell (p := ⟨B, 1, none⟩) (Nat.lt_of_lt_of_le hB10 hq10)).trans k1; have kA9 : wA.cell? ⟨w.heap.size + 1, 1, none⟩ = some (.slice ob NE cb) := (bA.cell (p := ⟨w.heap.size + 1, 1, none⟩) (Nat.lt_of_lt_of_le hP1 hq10)).trans m1; have HbA := hideS (And.intro bA (And.intro hR1 (And.intro hn1 (own_keepS HQ.out.1 bA)))); clear bA hR1 hn1 own1
                          go_wp2_with fail
                          refine hK.out _ _ ?_ (fun hHeld => ?_)
                          · exact kA9
                          clear hK K
                          try simp only [Act.put, List.setIfInBounds_toArray, List.set_cons_zero, List.set_cons_succ]
                          refine wpAnyH_ready (rs := [6]) (by kernel_rfl) (by simp) ?_
                          refine AllReadyH.cons (o := ({ dst := some 119, op := Op.call { callee := Callee.builtin Builtin.append, args := #[Operand.tmp 114, Operand.tmp 118], argTypes := #[22, 22] }, type := 22, pos := "ref.go:391", after := #[{ on := 1, ground := Ground.data }, { on := 5, ground := Ground.data }, { on := 5, ground := Ground.chain }], guard := none } : Oper)) rfl (fun K hK => ?_) ?_
                          · refine step_spans2 _ (by rfl) _ _ _ (by rfl) w10.heap.size 37 i0 (.agg #[.int .i64 0, .int .i64 0, .int .i64 0, .int .i64 0]) 4 32 Tryz.underlying22 hi hz0 hz1 hz2 rfl (by decide) (.slice ov LA cv) LA (flat4 A) (by rfl) HbA.out.2.2.2 o1 NE cp1 (flat4 EM) (by rfl) (fun h => by obtain ⟨h1, h2⟩ := HbA.out.2.2.1 h; have h3 := HN.out.2; rw [h1] at h3; exact ⟨h3.symm, h2⟩) hF (fun ad h j u hj => (SpO.flat (Q := EM) (a := ad) (by have h9 := HbA.out.2.1; rw [h] at h9; exact h9)) j u hj) (flat4_one EM) (by unfold maxLen; omega) (by omega) (Nat.le_trans hq10 HbA.out.1.size) ?_; intro vC wC ownC growC; have bC : Below w10.heap.size wA wC := Below.grown (Below.refl _ _) growC (Nat.le_trans hq10 HbA.out.1.size) (fun k hk => (HbA.out.2.2.2.lt k hk).1); rw [hLL] at ownC; obtain ⟨oC, cC, rfl⟩ := own_form9 ownC; have tC := (HQ.out.2.1.keep HbA.out.1).below bC hB10; obtain ⟨_, z1, _, z2⟩ := tC.cells; have kC9 : wC.cell? ⟨w.heap.size + 1, 1, none⟩ = some (.slice ob NE cb) := (bC.cell (p := ⟨w.heap.size + 1, 1, none⟩) hP1).trans kA9; have HbC := hideS (And.intro bC (And.intro ownC tC)); clear bC ownC tC growC
                            refine hK.out _ _ ?_ (fun hHeld => ?_)
                            · exact kC9
                            clear hK K
                            try simp only [Act.put, List.setIfInBounds_toArray, List.set_cons_zero, List.set_cons_succ]
                            refine wpAnyH_take (i := 7) (oi := ({ dst := some 120, op := Op.fieldAddr 24 (Operand.tmp 13) 1, type := 0, pos := "ref.go:391", after := #[{ on := 0, ground := Ground.phase }, { on := 1, ground := Ground.phase }, { on := 2, ground := Ground.phase }, { on := 3, ground := Ground.phase }, { on := 4, ground := Ground.phase }, { on := 5, ground := Ground.phase }, { on := 6, ground := Ground.phase }], guard := none } : Oper)) (v := .pointer (some ⟨B, 1, none⟩)) rfl (by kernel_rfl) (by kernel_rfl) (by kernel_rfl) (fun _ _ _ h => h) (Or.inl ⟨by rfl, ?_⟩) (by assumption) ?_
                            · intro w9 hSw
                              try dsimp only at hSw
                              go_simp
                            try simp only [Act.put, List.setIfInBounds_toArray, List.set_cons_zero, List.set_cons_succ]
                            refine wpAnyH_ready (rs := [8]) (by kernel_rfl) (by simp) ?_
                            refine AllReadyH.cons (o := ({ dst := none, op := Op.store 22 (Operand.tmp 120) (Operand.tmp 119), type := 0, pos := "ref.go:391", after := #[{ on := 7, ground := Ground.data }, { on := 6, ground := Ground.data }, { on := 6, ground := Ground.chain }, { on := 0, ground := Ground.phase }, { on := 1, ground := Ground.phase }, { on := 2, ground := Ground.phase }, { on := 3, ground := Ground.phase }, { on := 4, ground := Ground.phase }, { on := 5, ground := Ground.phase }, { on := 6, ground := Ground.phase }], guard := none } : Oper)) rfl (fun K hK => ?_) ?_
                            · go_simp
                              refine hK.out _ _ ?_ (fun hHeld => ?_)
                              · exact (World.cell?_setCell_far _ _ _ _ hBg).trans kC9
                              clear hK K
                              try simp only [Act.put, List.setIfInBounds_toArray, List.set_cons_zero, List.set_cons_succ]
                              refine wpAnyH_done (by kernel_rfl) ?_ _
                              first | go_wp2_with fail | skip
                              go_meet
                              exact HLf.out wA wC oC cC HbA.out.1 HbC.out.1 HbC.out.2.1 HbC.out.2.2
                            exact AllReadyH.nil
                          exact AllReadyH.nil
                        exact AllReadyH.nil
                      refine AllReadyH.cons (o := ({ dst := some 118, op := Op.call { callee := Callee.value (Operand.func 20), args := #[Operand.tmp 116, Operand.tmp 117], argTypes := #[22, 3] }, type := 22, pos := "ref.go:391", after := #[{ on := 3, ground := Ground.data }, { on := 4, ground := Ground.data }], guard := none } : Oper)) rfl (fun K hK => ?_) ?_
                      · go_simp
                        (with_reducible refine (HMv.out wq.drew Hdr.out).mono ?_); rintro e wA ⟨v1, rfl, own1, bA⟩; obtain ⟨o1, cp1, rfl, hc1, hn1, hR1⟩ := own_flat own1 HN.out.2; have bA : Below wq.heap.size wq wA := (by first | exact ⟨bA.os, bA.tape, bA.output, bA.size, bA.block⟩ | exact bA); have kA1 : wA.cell? ⟨B, 1, none⟩ = some (.slice ov LA cv) := (bA.cell (p := ⟨B, 1, none⟩) (Nat.lt_of_lt_of_le hB10 hq10)).trans k1; have kA9 : wA.cell? ⟨w.heap.size + 1, 1, none⟩ = some (.slice ob NE cb) := (bA.cell (p := ⟨w.heap.size + 1, 1, none⟩) (Nat.lt_of_lt_of_le hP1 hq10)).trans m1; have HbA := hideS (And.intro bA (And.intro hR1 (And.intro hn1 (own_keepS HQ.out.1 bA)))); clear bA hR1 hn1 own1
                        go_wp2_with fail
                        refine hK.out _ _ ?_ (fun hHeld => ?_)
                        · exact kA9
                        clear hK K
                        try simp only [Act.put, List.setIfInBounds_toArray, List.set_cons_zero, List.set_cons_succ]
                        refine wpAnyH_ready (rs := [1]) (by kernel_rfl) (by simp) ?_
                        refine AllReadyH.cons (o := ({ dst := some 114, op := Op.load 22 (Operand.tmp 113), type := 22, pos := "ref.go:391", after := #[{ on := 0, ground := Ground.data }], guard := none } : Oper)) rfl (fun K hK => ?_) ?_
                        · go_simp
                          refine hK.out _ _ ?_ (fun hHeld => ?_)
                          · assumption
                          clear hK K
                          try simp only [Act.put, List.setIfInBounds_toArray, List.set_cons_zero, List.set_cons_succ]
                          refine wpAnyH_ready (rs := [6]) (by kernel_rfl) (by simp) ?_
                          refine AllReadyH.cons (o := ({ dst := some 119, op := Op.call { callee := Callee.builtin Builtin.append, args := #[Operand.tmp 114, Operand.tmp 118], argTypes := #[22, 22] }, type := 22, pos := "ref.go:391", after := #[{ on := 1, ground := Ground.data }, { on := 5, ground := Ground.data }, { on := 5, ground := Ground.chain }], guard := none } : Oper)) rfl (fun K hK => ?_) ?_
                          · refine step_spans2 _ (by rfl) _ _ _ (by rfl) w10.heap.size 37 i0 (.agg #[.int .i64 0, .int .i64 0, .int .i64 0, .int .i64 0]) 4 32 Tryz.underlying22 hi hz0 hz1 hz2 rfl (by decide) (.slice ov LA cv) LA (flat4 A) (by rfl) HbA.out.2.2.2 o1 NE cp1 (flat4 EM) (by rfl) (fun h => by obtain ⟨h1, h2⟩ := HbA.out.2.2.1 h; have h3 := HN.out.2; rw [h1] at h3; exact ⟨h3.symm, h2⟩) hF (fun ad h j u hj => (SpO.flat (Q := EM) (a := ad) (by have h9 := HbA.out.2.1; rw [h] at h9; exact h9)) j u hj) (flat4_one EM) (by unfold maxLen; omega) (by omega) (Nat.le_trans hq10 HbA.out.1.size) ?_; intro vC wC ownC growC; have bC : Below w10.heap.size wA wC := Below.grown (Below.refl _ _) growC (Nat.le_trans hq10 HbA.out.1.size) (fun k hk => (HbA.out.2.2.2.lt k hk).1); rw [hLL] at ownC; obtain ⟨oC, cC, rfl⟩ := own_form9 ownC; have tC := (HQ.out.2.1.keep HbA.out.1).below bC hB10; obtain ⟨_, z1, _, z2⟩ := tC.cells; have kC9 : wC.cell? ⟨w.heap.size + 1, 1, none⟩ = some (.slice ob NE cb) := (bC.cell (p := ⟨w.heap.size + 1, 1, none⟩) hP1).trans kA9; have HbC := hideS (And.intro bC (And.intro ownC tC)); clear bC ownC tC growC
                            refine hK.out _ _ ?_ (fun hHeld => ?_)
                            · exact kC9
                            clear hK K
                            try simp only [Act.put, List.setIfInBounds_toArray, List.set_cons_zero, List.set_cons_succ]
                            refine wpAnyH_take (i := 7) (oi := ({ dst := some 120, op := Op.fieldAddr 24 (Operand.tmp 13) 1, type := 0, pos := "ref.go:391", after := #[{ on := 0, ground := Ground.phase }, { on := 1, ground := Ground.phase }, { on := 2, ground := Ground.phase }, { on := 3, ground := Ground.phase }, { on := 4, ground := Ground.phase }, { on := 5, ground := Ground.phase }, { on := 6, ground := Ground.phase }], guard := none } : Oper)) (v := .pointer (some ⟨B, 1, none⟩)) rfl (by kernel_rfl) (by kernel_rfl) (by kernel_rfl) (fun _ _ _ h => h) (Or.inl ⟨by rfl, ?_⟩) (by assumption) ?_
                            · intro w9 hSw
                              try dsimp only at hSw
                              go_simp
                            try simp only [Act.put, List.setIfInBounds_toArray, List.set_cons_zero, List.set_cons_succ]
                            refine wpAnyH_ready (rs := [8]) (by kernel_rfl) (by simp) ?_
                            refine AllReadyH.cons (o := ({ dst := none, op := Op.store 22 (Operand.tmp 120) (Operand.tmp 119), type := 0, pos := "ref.go:391", after := #[{ on := 7, ground := Ground.data }, { on := 6, ground := Ground.data }, { on := 6, ground := Ground.chain }, { on := 0, ground := Ground.phase }, { on := 1, ground := Ground.phase }, { on := 2, ground := Ground.phase }, { on := 3, ground := Ground.phase }, { on := 4, ground := Ground.phase }, { on := 5, ground := Ground.phase }, { on := 6, ground := Ground.phase }], guard := none } : Oper)) rfl (fun K hK => ?_) ?_
                            · go_simp
                              refine hK.out _ _ ?_ (fun hHeld => ?_)
                              · exact (World.cell?_setCell_far _ _ _ _ hBg).trans kC9
                              clear hK K
                              try simp only [Act.put, List.setIfInBounds_toArray, List.set_cons_zero, List.set_cons_succ]
                              refine wpAnyH_done (by kernel_rfl) ?_ _
                              first | go_wp2_with fail | skip
                              go_meet
                              exact HLf.out wA wC oC cC HbA.out.1 HbC.out.1 HbC.out.2.1 HbC.out.2.2
                            exact AllReadyH.nil
                          exact AllReadyH.nil
                        exact AllReadyH.nil
                      exact AllReadyH.nil
                    case rest =>
                      obtain ⟨v2, hO2, hT2, t2, bw2⟩ := hcut
                      obtain ⟨o2, c2, rfl⟩ := own_form9 hO2
                      obtain ⟨n0, n1, _, _⟩ := hT2.cells
                      obtain ⟨r0, r1, f0, f1⟩ := t2.cells
                      by_cases hbg : 256 < LL
                      · have dbg : (256 : Int) < (LL : Int) := by omega
                        have HE := hideS (errs.out 2 _ (by rw [HRr.out, if_pos hbg]) (HSB.out wc (.slice none 0 0) bw2))
                        have t9 := t2.set (.string ⟨#[]⟩) (.slice none 0 0)
                        clear hO2 hT2 t2 bw2
                        go_wp2_with fail
                        generalize ((wc.setCell ⟨w.heap.size + 1 + 1, 0, none⟩ (.string ⟨#[]⟩)).setCell ⟨w.heap.size + 1 + 1, 1, none⟩ (.slice none 0 0)) = W9 at *
                        obtain ⟨r0, r1, _, _⟩ := t9.cells
                        exact bodyPost_ret (v := .tuple #[.agg #[.string ByteArray.empty, .slice none 0 0], .int .i64 2]) (by simp [results, Tryz.results12, go_sem, r0, r1]; rfl) rfl HE.out
                      · have dbg : ¬ (256 : Int) < (LL : Int) := by omega
                        have HE : Hid (PO (.returned (.tuple #[.agg #[.string xs, .slice o2 LL c2], .int .i64 0])) ((wc.setCell ⟨w.heap.size + 1 + 1, 0, none⟩ (.string xs)).setCell ⟨w.heap.size + 1 + 1, 1, none⟩ (.slice o2 LL c2))) := hideS (by
                          rw [HPO.out, HRr.out, if_neg hbg]
                          refine ⟨_, rfl, ?_, (bw2.setCell (p := ⟨w.heap.size + 1 + 1, 0, none⟩) (by show w.heap.size ≤ w.heap.size + 1 + 1; omega) _).setCell (p := ⟨w.heap.size + 1 + 1, 1, none⟩) (by show w.heap.size ≤ w.heap.size + 1 + 1; omega) _⟩
                          show World.ownsRow _ _ _ _ _ (A ++ EM).length _
                          rw [HQ.out.2.2.2.2]
                          exact own_fromS (ownsRow_setCell_below (ownsRow_setCell_below hO2 (a := ⟨w.heap.size + 1 + 1, 0, none⟩) hP2 _) (a := ⟨w.heap.size + 1 + 1, 1, none⟩) hP2 _) H11.out.2.2.2.1.size)
                        have t9 := t2.set (.string xs) (.slice o2 LL c2)
                        clear hO2 hT2 t2 bw2
                        go_wp2_with fail
                        generalize ((wc.setCell ⟨w.heap.size + 1 + 1, 0, none⟩ (.string xs)).setCell ⟨w.heap.size + 1 + 1, 1, none⟩ (.slice o2 LL c2)) = W9 at *
                        obtain ⟨r0, r1, _, _⟩ := t9.cells
                        exact bodyPost_ret (v := .tuple #[.agg #[.string xs, .slice o2 LL c2], .int .i64 0]) (by simp [results, Tryz.results12, go_sem, r0, r1]) rfl HE.out
    · have e2b : (c2 != 0) = true := by simpa using e2
      obtain ⟨k0, k1, f0, f1⟩ := H2.out.2.2.1.cells
      have HE := hideS (errs.out c2 _ (by
        rw [← HRd.out]
        unfold splM
        rw [HX.out.1.1, HX.out.1.2, if_neg (by simp), if_pos e2]) (HSB.out w2 (.slice none 0 0) H2.out.2.2.2))
      have t9 := H2.out.2.2.1.set (.string ⟨#[]⟩) (.slice none 0 0)
      go_wp2_with fail
      generalize ((w2.setCell ⟨w.heap.size + 1 + 1, 0, none⟩ (.string ⟨#[]⟩)).setCell ⟨w.heap.size + 1 + 1, 1, none⟩ (.slice none 0 0)) = W9 at *
      obtain ⟨r0, r1, _, _⟩ := t9.cells
      exact bodyPost_ret (v := .tuple #[.agg #[.string ByteArray.empty, .slice none 0 0], .int .i64 c2]) (by simp [results, Tryz.results12, go_sem, r0, r1]; rfl) rfl HE.out
  · have e1b : (c1 != 0) = true := by simpa using e1
    have e1c : (c1 == 0) = false := by simpa using e1
    obtain ⟨k0, k1, f0, f1⟩ := H1.out.2.2.1.cells
    have HE := hideS (errs.out c1 _ (by
      rw [← HRd.out]
      unfold splM
      rw [HX.out.1.1, if_pos e1]) (HSB.out w1 (.slice none 0 0) H1.out.2.2.2))
    have t9 := H1.out.2.2.1.set (.string ⟨#[]⟩) (.slice none 0 0)
    go_wp2_with fail
    generalize ((w1.setCell ⟨w.heap.size + 1 + 1, 0, none⟩ (.string ⟨#[]⟩)).setCell ⟨w.heap.size + 1 + 1, 1, none⟩ (.slice none 0 0)) = W9 at *
    obtain ⟨r0, r1, _, _⟩ := t9.cells
    exact bodyPost_ret (v := .tuple #[.agg #[.string ByteArray.empty, .slice none 0 0], .int .i64 c1]) (by simp [results, Tryz.results12, go_sem, r0, r1]; rfl) rfl HE.out
end Go.Proofs.YtijgpdccemfhgaaGreatDoor

/- Join as mathematics: the reference's by Splice at the end is the program's (P0707). -/
namespace Go.Proofs.YtijgpdccemfhgaaGreatDoor
open Go.RowKit Go.Shelf

theorem bAt_zero (s : ByteArray) : bAt s 0 = 0 := by
  unfold bAt spotAt
  rw [List.take_zero]
  rfl
theorem bAt_end (s : ByteArray) : bAt s (signs s).length = s.size := by
  obtain ⟨q, h1, _, _, h4⟩ := spotAt_lies s _ (Nat.le_refl _)
  rw [List.drop_length] at h4
  have h5 : q = s.size := h4
  unfold bAt
  rw [h1, h5]
  simp
theorem cutM_all (s : ByteArray) : cutM s 0 (signs s).length = s := by
  unfold cutM
  rw [bAt_zero, bAt_end, ByteArray.extract_zero_size]
theorem cutM_none (s : ByteArray) (i : Nat) : cutM s i i = ByteArray.empty := by
  unfold cutM
  refine ba_ext ?_
  simp
theorem melts_end (x : ByteArray) : meltsB x ByteArray.empty = false := by
  cases h : meltsB x ByteArray.empty with
  | false => rfl
  | true =>
    refine absurd ?_ ((melts_iff x ByteArray.empty).1 h)
    rw [ByteArray.append_empty]
    exact ⟨_, sgns_lies x x.size 0 (by omega) (Nat.zero_le _)⟩
theorem around_id (n m : Int) : ∀ (L : List Sp), (∀ x ∈ L, x.fr < x.tt ∧ x.tt ≤ n) → aroundM n n m L = L
  | [], _ => rfl
  | x :: L, h => by
    have hx := h x (List.mem_cons_self ..)
    have ih := around_id n m L (fun y hy => h y (List.mem_cons_of_mem _ hy))
    unfold aroundM at ih ⊢
    have e1 : begI n n m x.fr = x.fr := by unfold begI; rw [if_neg (by omega), if_pos (by omega)]
    have e2 : endI n n m x.tt = x.tt := by unfold endI; rw [if_pos (by omega)]
    rw [List.map_cons, List.filter_cons, e1, e2, if_pos (by simp [hx.1]), ih]
theorem chk_fit {s : ByteArray} {D : List Sp} (h : chkT s D = 0) : ∀ x ∈ D, InS (signs s).length x ∧ x.fr < x.tt := fun x hx => by
  obtain ⟨h1, h2⟩ := chkT_ok h
  unfold chkT at h
  rw [if_neg (by omega), if_neg (by omega)] at h
  by_cases k : allB D (signs s).length = true ∧ crB D = false
  · exact ⟨allB_in k.1 x hx, fit_lt k.1 x hx⟩
  · rw [if_neg k] at h; omega
theorem mv_zero (n : Int) (hn : n ≤ 1000000) : ∀ (L : List Sp), (∀ x ∈ L, InS n x) → L.map (mvS 0) = L
  | [], _ => rfl
  | x :: L, h => by
    have hx := h x (List.mem_cons_self ..)
    unfold InS at hx
    rw [List.map_cons, mv_zero n hn L (fun y hy => h y (List.mem_cons_of_mem _ hy))]
    unfold mvS
    rw [wrap_in7 (by omega) (by omega), wrap_in7 (by omega) (by omega), Int.add_zero, Int.add_zero]
/-- Join is Splice at the end, but for the spans' order. -/
theorem spl_joi (s : ByteArray) (D : List Sp) (u : ByteArray) (E : List Sp) :
    (splM s D (signs s).length (signs s).length u E).1 = (joiM s D u E).1 ∧
    ((joiM s D u E).1 ≠ 0 → joiM s D u E = ((joiM s D u E).1, ByteArray.empty, [])) ∧
    ((joiM s D u E).1 = 0 → chkT s D = 0 ∧ chkT u E = 0 ∧ joiM s D u E = (0, (splM s D (signs s).length (signs s).length u E).2.1, D ++ E.map (mvS (signs s).length))) := by
  by_cases h1 : chkT s D = 0
  · by_cases h2 : chkT u E = 0
    · have hb : betB (signs s).length (signs s).length (signs s).length = true := by unfold betB; simp
      have e1 := splM_ok s D (signs s).length (signs s).length (signs s).length u E _ _ _ h1 h2 rfl rfl hb rfl rfl
      rw [cutM_all, cutM_none, ByteArray.append_empty, melts_end] at e1
      have hid : aroundM (signs s).length (signs s).length (signs u).length (isort ltS D) = isort ltS D := around_id _ _ _ (fun x hx => by
        have := chk_fit h1 x ((isort_mem' ltS x D).1 hx)
        unfold InS at this
        omega)
      rw [hid] at e1
      have hlen : (isort ltS D ++ E.map (mvS (signs s).length)).length = (D ++ E.map (mvS (signs s).length)).length := by rw [List.length_append, List.length_append, isort_length]
      rw [hlen] at e1
      have e2 : joiM s D u E = if 4096 < (s ++ u).size then (3, ByteArray.empty, []) else if meltsB s u = true then (22, ByteArray.empty, []) else if 256 < (D ++ E.map (mvS (signs s).length)).length then (2, ByteArray.empty, []) else (0, s ++ u, D ++ E.map (mvS (signs s).length)) := by
        unfold joiM
        rw [h1, h2, if_neg (by simp), if_neg (by simp), glue2]
        by_cases c1 : 4096 < (s ++ u).size
        · rw [if_pos c1, if_pos c1]; rfl
        · rw [if_neg c1, if_neg c1]
          by_cases c2 : meltsB s u = true
          · rw [if_pos c2, if_pos c2]; rfl
          · rw [if_neg c2, if_neg c2, if_neg (by simp)]
      rw [e1, e2]
      by_cases c1 : 4096 < (s ++ u).size
      · rw [if_pos c1, if_pos c1]
        exact ⟨rfl, fun _ => rfl, fun h => absurd h (by simp)⟩
      · rw [if_neg c1, if_neg c1]
        by_cases c2 : meltsB s u = true
        · rw [if_pos c2, if_pos c2]
          exact ⟨rfl, fun _ => rfl, fun h => absurd h (by simp)⟩
        · rw [if_neg c2, if_neg c2, if_neg (by simp)]
          by_cases c3 : 256 < (D ++ E.map (mvS (signs s).length)).length
          · rw [if_pos c3, if_pos c3]
            exact ⟨rfl, fun _ => rfl, fun h => absurd h (by simp)⟩
          · rw [if_neg c3, if_neg c3]
            exact ⟨rfl, fun h => absurd rfl h, fun _ => ⟨h1, h2, rfl⟩⟩
    · have e1 : splM s D (signs s).length (signs s).length u E = (chkT u E, ByteArray.empty, []) := by unfold splM; rw [h1, if_neg (by simp), if_pos h2]
      have e2 : joiM s D u E = (chkT u E, ByteArray.empty, []) := by unfold joiM; rw [h1, if_neg (by simp), if_pos h2]
      rw [e1, e2]
      exact ⟨rfl, fun _ => rfl, fun h => absurd h h2⟩
  · have e1 : splM s D (signs s).length (signs s).length u E = (chkT s D, ByteArray.empty, []) := by unfold splM; rw [if_pos h1]
    have e2 : joiM s D u E = (chkT s D, ByteArray.empty, []) := by unfold joiM; rw [if_pos h1]
    rw [e1, e2]
    exact ⟨rfl, fun _ => rfl, fun h => absurd h h1⟩
end Go.Proofs.YtijgpdccemfhgaaGreatDoor

/- The reference's Join at every two texts, the first of up to 1048576 bytes (P0707). -/
namespace Go.Proofs.YtijgpdccemfhgaaGreatDoor
open Go.RowKit Go.Shelf
attribute [local go_sem] Oper.semAt_some

set_option maxRecDepth 100000 in
set_option maxHeartbeats 4000000 in
theorem rjoin_any (s u : ByteArray) (D E : List Sp) (oa ob : Option Addr) (ca cb : Nat) (hs : s.size ≤ 1048576) (hnb : ob = none → E = [] ∧ cb = 0) (w : World) (hRa : SpO w oa D) (hRb : SpO w ob E) :
    Calls Tryz.prog 7 #[.agg #[.string s, .slice oa D.length ca], .agg #[.string u, .slice ob E.length cb]] w (SplAns w (joiM s D u E)) := by
  obtain ⟨i0, hi, hz0, hz1, hz2⟩ := info_parts infoSp
  have HCt := hideS (fun (W : World) => rcountR s hs W)
  have HSp := hideS (fun (W : World) (h : Below w.heap.size w W) => rsplice_any s u D E oa ob ca cb (signs s).length (signs s).length hnb W (hRa.keep h) (hRb.keep h))
  obtain ⟨R, hR⟩ : ∃ R, joiM s D u E = R := ⟨_, rfl⟩
  have HSJ := hideS (spl_joi s D u E)
  rw [hR] at HSJ
  rw [hR]
  obtain ⟨n, hn⟩ : ∃ n, (signs s).length = n := ⟨_, rfl⟩
  obtain ⟨ND, hND⟩ : ∃ ND, D.length = ND := ⟨_, rfl⟩
  obtain ⟨NE, hNE⟩ : ∃ NE, E.length = NE := ⟨_, rfl⟩
  have hn4 := signs_le s
  rw [hn] at HCt HSp HSJ hn4
  obtain ⟨R2, hR2⟩ : ∃ R2, splM s D n n u E = R2 := ⟨_, rfl⟩
  rw [hR2] at HSJ HSp
  rw [hND, hNE] at HSp
  obtain ⟨er, ss, LS⟩ := R2
  obtain ⟨LN, hLN⟩ : ∃ LN, LS.length = LN := ⟨_, rfl⟩
  unfold SplAns at HSp
  simp only [hLN] at HSp
  simp only at HSJ
  have HX := hideS (And.intro hn (And.intro hND hNE))
  have HY := hideS (And.intro hRa hRb)
  rw [hND, hNE]
  clear hRa hRb hR hn hND hNE hR2 hLN
  obtain ⟨PO, hPO⟩ : ∃ PO : Ending → World → Prop, PO = SplAns w R := ⟨_, rfl⟩
  rw [← hPO]
  have HPO := hideS hPO
  clear hPO
  go_enter Tryz.func7, Tryz.ntmps7
  go_wp2_with fail
  obtain ⟨W0, hW0⟩ : ∃ W0, ((w.alloc (.cells #[.string s, .slice oa ND ca] 24)).alloc (.cells #[.string u, .slice ob NE cb] 24)).alloc (.cells #[.string ⟨#[]⟩, .slice none 0 0] 24) = W0 := ⟨_, rfl⟩
  have t0 : Tx W0 w.heap.size (.string s) (.slice oa ND ca) := by rw [← hW0]; exact ((Tx.new w _ _).keep (bel1S _ _)).keep (bel1S _ _)
  have t1 : Tx W0 (w.heap.size + 1) (.string u) (.slice ob NE cb) := by
    rw [← hW0]
    have h9 := Tx.new (w.alloc (.cells #[.string s, .slice oa ND ca] 24)) (.string u) (.slice ob NE cb)
    rw [World.size_alloc] at h9
    exact h9.keep (bel1S _ _)
  have t2 : Tx W0 (w.heap.size + 1 + 1) (.string ⟨#[]⟩) (.slice none 0 0) := by
    rw [← hW0]
    have h9 := Tx.new ((w.alloc (.cells #[.string s, .slice oa ND ca] 24)).alloc (.cells #[.string u, .slice ob NE cb] 24)) (.string ⟨#[]⟩) (.slice none 0 0)
    rw [World.size_alloc, World.size_alloc] at h9
    exact h9
  have b0 : Below w.heap.size w W0 := by rw [← hW0]; exact bupS (bel1S _ _) (bupS (bel1S _ _) (bel1S _ _))
  rw [hW0]
  have H0 := hideS (And.intro t0 (And.intro t1 (And.intro t2 b0)))
  clear hW0 t0 t1 t2 b0
  refine (HCt.out W0).mono ?_
  rintro e w1 ⟨rfl, b1⟩
  have H1 := hideS (show Tx w1 w.heap.size (.string s) (.slice oa ND ca) ∧ Tx w1 (w.heap.size + 1) (.string u) (.slice ob NE cb) ∧ Tx w1 (w.heap.size + 1 + 1) (.string ⟨#[]⟩) (.slice none 0 0) ∧ Below w.heap.size w w1 from ⟨H0.out.1.keep b1, H0.out.2.1.keep b1, H0.out.2.2.1.keep b1, bupS H0.out.2.2.2 b1⟩)
  clear b1 H0 HCt
  obtain ⟨k0, k1, _, _⟩ := H1.out.1.cells
  obtain ⟨k2, k3, _, _⟩ := H1.out.2.1.cells
  go_wp2_with fail
  refine (HSp.out w1 H1.out.2.2.2).mono ?_
  rintro e w2 ⟨v2, rfl, own2, b2⟩
  obtain ⟨o2, c2, rfl⟩ := own_form9 own2
  have H2 := hideS (show Tx w2 w.heap.size (.string s) (.slice oa ND ca) ∧ Tx w2 (w.heap.size + 1) (.string u) (.slice ob NE cb) ∧ Tx w2 (w.heap.size + 1 + 1) (.string ⟨#[]⟩) (.slice none 0 0) ∧ Below w.heap.size w w2 from ⟨H1.out.1.keep b2, H1.out.2.1.keep b2, H1.out.2.2.1.keep b2, bupS H1.out.2.2.2 b2⟩)
  clear b2 H1 HSp k0 k1 k2 k3 own2
  go_upto_region 3 with fail
  obtain ⟨B, hB⟩ : ∃ B, w2.heap.size = B := ⟨_, rfl⟩
  obtain ⟨V, hV⟩ : ∃ V, w2.alloc (.cells #[.string ss, .slice o2 LN c2] 24) = V := ⟨_, rfl⟩
  have b0 : Below w2.heap.size w2 V := by rw [← hV]; exact bel1S _ _
  have t0 : Tx V B (.string ss) (.slice o2 LN c2) := by rw [← hV, ← hB]; exact Tx.new _ _ _
  rw [hV, hB]
  have H3 := hideS (show Tx V w.heap.size (.string s) (.slice oa ND ca) ∧ Tx V (w.heap.size + 1) (.string u) (.slice ob NE cb) ∧ Tx V (w.heap.size + 1 + 1) (.string ⟨#[]⟩) (.slice none 0 0) ∧ Tx V B (.string ss) (.slice o2 LN c2) ∧ Below w.heap.size w V from ⟨H2.out.1.keep b0, H2.out.2.1.keep b0, H2.out.2.2.1.keep b0, t0, bupS H2.out.2.2.2 b0⟩)
  have hBw : w.heap.size + 1 + 1 < B := by have := H2.out.2.2.1.lt; omega
  clear hV b0 t0 H2 hB
  by_cases e1 : er = 0
  · subst e1
    obtain ⟨h1, h2, hRe⟩ := HSJ.out.2.2 HSJ.out.1.symm
    have hok1 := chkT_ok h1
    have hok2 := chkT_ok h2
    have hfit := chk_fit h1
    rw [HX.out.2.1] at hok1
    rw [HX.out.2.2] at hok2
    rw [HX.out.1] at hfit
    have HM1 := hideS (fun (W : World) (h : Below w.heap.size w W) => rmoved_any D oa ca 0 (by rw [HX.out.2.1]; omega) W (HY.out.1.keep h))
    have HM2 := hideS (fun (W : World) (h : Below w.heap.size w W) => rmoved_any E ob cb n (by rw [HX.out.2.2]; omega) W (HY.out.2.keep h))
    rw [mv_zero n (by omega) D (fun x hx => (hfit x hx).1), HX.out.2.1] at HM1
    rw [HX.out.2.2] at HM2
    have hEl : (E.map (mvS (n : Int))).length = NE := by rw [List.length_map]; exact HX.out.2.2
    generalize E.map (mvS (n : Int)) = EM at *
    have HN := hideS (And.intro HX.out.2.1 (And.intro hEl hRe))
    have hF : (flat4 EM).length = NE * 4 := by rw [flat4_len, hEl]
    obtain ⟨LL, hLL⟩ : ∃ LL, ND + NE = LL := ⟨_, rfl⟩
    obtain ⟨k0, k1, _, _⟩ := H3.out.1.cells
    obtain ⟨m0, m1, _, _⟩ := H3.out.2.1.cells
    have hP0 := H3.out.1.lt
    have hP1 := H3.out.2.1.lt
    have hP2 := H3.out.2.2.1.lt
    have hPB := H3.out.2.2.2.1.lt
    have Hdr := hideS H3.out.2.2.2.2.drew
    have hBf : B ≠ w.heap.size := by omega
    have hBg : B ≠ w.heap.size + 1 := by omega
    clear h1 h2 hfit hEl hRe HSJ
    go_upto_region 5 with fail
    go_cut [] (fun wx => ∃ v2, wx.ownsRow V.heap.size 37 4 v2 LL (flat4 (D ++ EM)) ∧ Tx wx B (.string ss) v2 ∧ Tx wx (w.heap.size + 1 + 1) (.string ⟨#[]⟩) (.slice none 0 0) ∧ Below w.heap.size w wx)
    case first =>
      go_region_held3 (fun w' => w'.cell? ⟨w.heap.size, 1, none⟩ = some (.slice oa ND ca) ∧ w'.cell? ⟨w.heap.size + 1, 1, none⟩ = some (.slice ob NE cb)) (first | go_keep | assumption | exact kA9 | exact kB9 | exact kC9 | exact ⟨(World.cell?_setCell_far _ _ _ _ hBf).trans kC9.1, (World.cell?_setCell_far _ _ _ _ hBg).trans kC9.2⟩) (first
        | (go_at_call 20; first
          | ((with_reducible refine (HM1.out V.drew Hdr.out).mono ?_); rintro e wA ⟨v1, rfl, own1, bA⟩; obtain ⟨o1, cp1, rfl, hc1, hn1, hR1⟩ := own_flat own1 HN.out.1; have bA : Below V.heap.size V wA := (by first | exact ⟨bA.os, bA.tape, bA.output, bA.size, bA.block⟩ | exact bA); have own1 : wA.ownsRow V.heap.size 37 4 (.slice o1 ND cp1) ND (flat4 D) := own1; have kA9 : wA.cell? ⟨w.heap.size, 1, none⟩ = some (.slice oa ND ca) ∧ wA.cell? ⟨w.heap.size + 1, 1, none⟩ = some (.slice ob NE cb) := ⟨(bA.cell (p := ⟨w.heap.size, 1, none⟩) hP0).trans k1, (bA.cell (p := ⟨w.heap.size + 1, 1, none⟩) hP1).trans m1⟩; have HbA := hideS (And.intro bA own1); clear bA hR1 hn1 own1)
          | ((with_reducible refine (HM2.out _ (bupS H3.out.2.2.2.2 HbA.out.1)).mono ?_); rintro e wB ⟨v3, rfl, own3, bB⟩; obtain ⟨o3, cp3, rfl, hc3, hn3, hR3⟩ := own_flat own3 HN.out.2.1; have bAB := bB; have bB : Below V.heap.size V wB := bupS HbA.out.1 bB; have kB9 : wB.cell? ⟨w.heap.size, 1, none⟩ = some (.slice oa ND ca) ∧ wB.cell? ⟨w.heap.size + 1, 1, none⟩ = some (.slice ob NE cb) := ⟨(bB.cell (p := ⟨w.heap.size, 1, none⟩) hP0).trans k1, (bB.cell (p := ⟨w.heap.size + 1, 1, none⟩) hP1).trans m1⟩; have HbB := hideS (And.intro bB (And.intro hR3 (And.intro hn3 (own_keepS HbA.out.2 bAB)))); clear bB hR3 hn3 own3 bAB))
        | ((refine step_spans2 _ (by rfl) _ _ _ (by rfl) V.heap.size 37 i0 (.agg #[.int .i64 0, .int .i64 0, .int .i64 0, .int .i64 0]) 4 32 Tryz.underlying22 hi hz0 hz1 hz2 rfl (by decide) (.slice o1 ND cp1) ND (flat4 D) (by rfl) HbB.out.2.2.2 o3 NE cp3 (flat4 EM) (by rfl) (fun h => by obtain ⟨h1, h2⟩ := HbB.out.2.2.1 h; have h3 := HN.out.2.1; rw [h1] at h3; exact ⟨h3.symm, h2⟩) hF (fun ad h j u hj => (SpO.flat (Q := EM) (a := ad) (by have h9 := HbB.out.2.1; rw [h] at h9; exact h9)) j u hj) (flat4_one EM) (by unfold maxLen; omega) (by omega) HbB.out.1.size ?_); intro vC wC ownC growC; have bC : Below V.heap.size V wC := Below.grown HbB.out.1 growC HbB.out.1.size (fun k hk => (HbB.out.2.2.2.lt k hk).1); rw [hLL] at ownC; obtain ⟨oC, cC, rfl⟩ := own_form9 ownC; have tC := H3.out.2.2.2.1.keep bC; obtain ⟨_, z1, _, z2⟩ := tC.cells; have kC9 : wC.cell? ⟨w.heap.size, 1, none⟩ = some (.slice oa ND ca) ∧ wC.cell? ⟨w.heap.size + 1, 1, none⟩ = some (.slice ob NE cb) := ⟨(bC.cell (p := ⟨w.heap.size, 1, none⟩) hP0).trans k1, (bC.cell (p := ⟨w.heap.size + 1, 1, none⟩) hP1).trans m1⟩; have HbC := hideS (And.intro bC (And.intro ownC tC)); clear bC ownC tC growC))
      all_goals first | go_wp2_with fail | skip
      all_goals go_meet
      all_goals
        refine ⟨.slice oC LL cC, ?_, tx_set1 HbC.out.2.2 _, ?_, ?_⟩
        · rw [flat4_append]
          exact ownsRow_setCell_below HbC.out.2.1 (a := ⟨B, 1, none⟩) hPB _
        · have h9 := H3.out.2.2.1.keep HbC.out.1
          exact ((But.set (M := fun k => k = B) wC ⟨B, 1, none⟩ _ rfl).same (w.heap.size + 1 + 1) h9.lt (by omega)).trans h9
        · exact (bupS H3.out.2.2.2.2 HbC.out.1).setCell (p := ⟨B, 1, none⟩) (by show w.heap.size ≤ B; omega) _
    case rest =>
      obtain ⟨v9, hO9, hT9, t9, bw9⟩ := hcut
      obtain ⟨o9, c9, rfl⟩ := own_form9 hO9
      obtain ⟨n0, n1, _, _⟩ := hT9.cells
      obtain ⟨r0, r1, f0, f1⟩ := t9.cells
      have HE : Hid (PO (.returned (.tuple #[.agg #[.string ss, .slice o9 LL c9], .int .i64 0])) ((wc.setCell ⟨w.heap.size + 1 + 1, 0, none⟩ (.string ss)).setCell ⟨w.heap.size + 1 + 1, 1, none⟩ (.slice o9 LL c9))) := hideS (by
        rw [HPO.out, HN.out.2.2]
        refine ⟨_, rfl, ?_, (bw9.setCell (p := ⟨w.heap.size + 1 + 1, 0, none⟩) (by show w.heap.size ≤ w.heap.size + 1 + 1; omega) _).setCell (p := ⟨w.heap.size + 1 + 1, 1, none⟩) (by show w.heap.size ≤ w.heap.size + 1 + 1; omega) _⟩
        show World.ownsRow _ _ _ _ _ (D ++ EM).length _
        rw [List.length_append, HN.out.1, HN.out.2.1, hLL]
        exact own_fromS (ownsRow_setCell_below (ownsRow_setCell_below hO9 (a := ⟨w.heap.size + 1 + 1, 0, none⟩) hP2 _) (a := ⟨w.heap.size + 1 + 1, 1, none⟩) hP2 _) H3.out.2.2.2.2.size)
      have t8 := t9.set (.string ss) (.slice o9 LL c9)
      clear hO9 hT9 t9 bw9
      go_wp2_with fail
      generalize ((wc.setCell ⟨w.heap.size + 1 + 1, 0, none⟩ (.string ss)).setCell ⟨w.heap.size + 1 + 1, 1, none⟩ (.slice o9 LL c9)) = W9 at *
      obtain ⟨r0, r1, _, _⟩ := t8.cells
      exact bodyPost_ret (v := .tuple #[.agg #[.string ss, .slice o9 LL c9], .int .i64 0]) (by simp [results, Tryz.results7, go_sem, r0, r1]) rfl HE.out
  · have e1b : (er != 0) = true := by simpa using e1
    obtain ⟨k0, k1, f0, f1⟩ := H3.out.2.2.1.cells
    have hRe := HSJ.out.2.1 (by rw [← HSJ.out.1]; exact e1)
    rw [← HSJ.out.1] at hRe
    have HE : Hid (PO (.returned (.tuple #[.agg #[.string ByteArray.empty, .slice none 0 0], .int .i64 er])) ((V.setCell ⟨w.heap.size + 1 + 1, 0, none⟩ (.string ⟨#[]⟩)).setCell ⟨w.heap.size + 1 + 1, 1, none⟩ (.slice none 0 0))) := hideS (by
      rw [HPO.out, hRe]
      exact ⟨_, rfl, World.ownsRow_nil _ _ _ _, (H3.out.2.2.2.2.setCell (p := ⟨w.heap.size + 1 + 1, 0, none⟩) (by show w.heap.size ≤ w.heap.size + 1 + 1; omega) _).setCell (p := ⟨w.heap.size + 1 + 1, 1, none⟩) (by show w.heap.size ≤ w.heap.size + 1 + 1; omega) _⟩)
    have t9 := H3.out.2.2.1.set (.string ⟨#[]⟩) (.slice none 0 0)
    clear hRe
    go_wp2_with fail
    generalize ((V.setCell ⟨w.heap.size + 1 + 1, 0, none⟩ (.string ⟨#[]⟩)).setCell ⟨w.heap.size + 1 + 1, 1, none⟩ (.slice none 0 0)) = W9 at *
    obtain ⟨r0, r1, _, _⟩ := t9.cells
    exact bodyPost_ret (v := .tuple #[.agg #[.string ByteArray.empty, .slice none 0 0], .int .i64 er]) (by simp [results, Tryz.results7, go_sem, r0, r1]; rfl) rfl HE.out
end Go.Proofs.YtijgpdccemfhgaaGreatDoor

/- surtitlelaw7.SameText of two texts that are the same (chapter 7). -/
namespace Go.Proofs.YtijgpdccemfhgaaGreatDoor
open Go.RowKit Go.Shelf
attribute [local go_sem] Oper.semAt_some

set_option maxRecDepth 100000 in
set_option maxHeartbeats 1000000 in
theorem sametx_sp (s : ByteArray) (D : List Sp) (o1 o2 : Option Addr) (c1 c2 : Nat) (hc1 : D.length ≤ c1 ∧ c1 ≤ maxLen) (w : World) (hR1 : SpO w o1 D) (hR2 : SpO w o2 D) :
    Calls Tryz.prog 9 #[.agg #[.string s, .slice o1 D.length c1], .agg #[.string s, .slice o2 D.length c2]] w fun e w' => e = .returned (.bool true) ∧ Below w.heap.size w w' := by
  have HB0 := bupS (bel1S w (.cells #[.string s, .slice o1 D.length c1] 24)) (bel1S _ (.cells #[.string s, .slice o2 D.length c2] 24))
  have HS := hideS (fun (W : World) (h : Below w.heap.size w W) => samesp_any D o1 o2 c1 c2 hc1 W (hR1.keep h) (hR2.keep h))
  have hss : (s.toList == s.toList) = true := by simp
  have HB := hideS HB0
  clear hR1 hR2 HB0
  obtain ⟨N, hN⟩ : ∃ N, D.length = N := ⟨_, rfl⟩
  rw [hN] at HS HB ⊢
  clear hN hc1
  go_enter Tryz.func9, Tryz.ntmps9
  go_wp2_with fail
  refine (HS.out _ HB.out).mono ?_
  rintro e w1 ⟨rfl, b1⟩
  have H1 := hideS (bupS HB.out b1)
  clear b1
  go_wp2_with fail
  go_ret
  exact ⟨rfl, H1.out⟩
end Go.Proofs.YtijgpdccemfhgaaGreatDoor

/- StyleCuts holds of every text, every part (P0706): the walk. -/
namespace Go.Proofs.YtijgpdccemfhgaaGreatDoor
open Go.RowKit Go.Shelf
attribute [local go_sem] Oper.semAt_some

theorem front_spo {W : World} {B g c n : Nat} {D : List Sp} (h : W.ownsRow B 37 4 (.slice (some ⟨g, 0, none⟩) (n + 1) c) (n + 1) (flat4 (D ++ [mkS]))) (hn : D.length = n) : SpO W (some ⟨g, 0, none⟩) D ∧ B ≤ g ∧ (n ≤ c ∧ c ≤ maxLen) := by
  obtain ⟨o9, c9, e9, hc9, _, hsc, _⟩ := own_sc h (by simp [hn])
  obtain ⟨rfl, rfl⟩ : some (⟨g, 0, none⟩ : Addr) = o9 ∧ c = c9 := by simpa using e9
  obtain ⟨g9, e8, hBg, hSC⟩ := hsc _ rfl
  obtain rfl : g = g9 := by simpa using e8
  exact ⟨fun i p hp => hSC.spo i p (by rw [List.getElem?_append_left (List.getElem?_eq_some_iff.1 hp).1]; exact hp), hBg, by omega, hc9.2⟩
theorem own_lt {W : World} {base g n c : Nat} {e : TypeId} {size : Nat} {xs : List Value} (h : W.ownsRow base e size (.slice (some ⟨g, 0, none⟩) n c) n xs) : g < W.heap.size := by
  rcases h.2 with ⟨e0, _⟩ | ⟨g2, c2, cur, e0, _, hg, _⟩
  · simp at e0
  · obtain ⟨rfl, rfl⟩ : g = g2 ∧ c = c2 := by simpa using e0
    exact (Array.getElem?_eq_some_iff.1 hg).1
theorem Tx.but {W V : World} {P g : Nat} {a b : Value} (h : Tx W P a b) (k : But (fun k => k = g) W V) (hne : P ≠ g) : Tx V P a b := (k.same P h.lt hne).trans h
theorem own_read {W : World} {base n : Nat} {v : Value} {Q : List Sp} (h : W.ownsRow base 37 4 v n (flat4 Q)) (hn : Q.length = n) : ∃ o cap, v = .slice o n cap ∧ (n ≤ cap ∧ cap ≤ maxLen) ∧ SpO W o Q ∧ (∀ a, o = some a → base ≤ a.block) := by
  obtain ⟨o, cap, e, hc, _, hs, hel⟩ := own_sc h hn
  refine ⟨o, cap, e, hc, ?_, fun a ha => ?_⟩
  · cases o with
    | none => rw [hel rfl]; exact SpO.nil _ _
    | some ad =>
      obtain ⟨g, rfl, _, hsc⟩ := hs ad rfl
      exact hsc.spo
  · obtain ⟨g, rfl, hg, _⟩ := hs a ha
    exact hg
end Go.Proofs.YtijgpdccemfhgaaGreatDoor

/- A row of one's own is kept where another one is written (chapter 7). -/
namespace Go.Proofs.YtijgpdccemfhgaaGreatDoor
open Go.RowKit Go.Shelf

theorem own_but {W V : World} {base g : Nat} {e : TypeId} {size : Nat} {v : Value} {n : Nat} {xs : List Value} (h : W.ownsRow base e size v n xs) (b : But (fun k => k = g) W V) (hg : g < base) : V.ownsRow base e size v n xs := by
  refine ⟨h.1, ?_⟩
  rcases h.2 with hn | ⟨g2, cap, cur, rfl, hb, hgg, rest⟩
  · exact .inl hn
  · exact .inr ⟨g2, cap, cur, rfl, hb, (b.same g2 (Array.getElem?_eq_some_iff.1 hgg).1 (by omega)).trans hgg, rest⟩
end Go.Proofs.YtijgpdccemfhgaaGreatDoor

/- StyleJoins holds of every two texts, the first of up to 1048576 bytes (P0707): the walk. -/
namespace Go.Proofs.YtijgpdccemfhgaaGreatDoor
open Go.RowKit Go.Shelf
attribute [local go_sem] Oper.semAt_some

set_option maxRecDepth 100000 in
set_option maxHeartbeats 4000000 in
theorem sjoins_walk (s u : ByteArray) (D E : List Sp) (oa ob : Option Addr) (ca cb : Nat) (hs9 : s.size ≤ 1048576) (hs : s.size ≤ 140737488355328) (hu : u.size ≤ 140737488355328) (hl : D.length ≤ 4398046510976) (hl2 : E.length ≤ 4398046510976) (hna : oa = none → D = [] ∧ ca = 0) (hnb : ob = none → E = [] ∧ cb = 0) (w : World) (hw : 2 ≤ w.heap.size) (hT : Lib.Utf8Tabs 0 1 w) (hRa : SpO w oa D) (hRb : SpO w ob E) :
    Calls Tryz.prog 3 #[.agg #[.string s, .slice oa D.length ca], .agg #[.string u, .slice ob E.length cb]] w fun e w' => e = .returned (.bool true) ∧ Below w.heap.size w w' := by
  have HLd := hideS (fun (W : World) (h : Below w.heap.size w W) => lend_any7 s D oa ca hl hna W (hRa.keep h))
  have HLe := hideS (fun (W : World) (h : Below w.heap.size w W) => lend_any7 u E ob cb hl2 hnb W (hRb.keep h))
  have HCk := hideS (fun (W : World) (g c g2 c2 : Nat) (hc : D.length ≤ c ∧ c ≤ maxLen) (hc2 : E.length ≤ c2 ∧ c2 ≤ maxLen) (hw : 2 ≤ W.heap.size) (hT : Lib.Utf8Tabs 0 1 W) (hR : SpO W (some ⟨g, 0, none⟩) D) (hR2 : SpO W (some ⟨g2, 0, none⟩) E) => join_any s u D E (some ⟨g, 0, none⟩) (some ⟨g2, 0, none⟩) c c2 hs hu hc hc2 (fun e => nomatch e) (fun e => nomatch e) W hw hT hR hR2)
  have HRc := hideS (fun (W : World) (hR : SpO W oa D) (hR2 : SpO W ob E) => rjoin_any s u D E oa ob ca cb hs9 hnb W hR hR2)
  have HBk := hideS (fun (W : World) (g c B : Nat) (hR : SpO W oa D) (hO : W.ownsRow B 37 4 (.slice (some ⟨g, 0, none⟩) (D.length + 1) c) (D.length + 1) (flat4 (D ++ [mkS]))) => back_any7 s s D oa ca g c B hl W hR hO)
  have HBl := hideS (fun (W : World) (g c B : Nat) (hR : SpO W ob E) (hO : W.ownsRow B 37 4 (.slice (some ⟨g, 0, none⟩) (E.length + 1) c) (E.length + 1) (flat4 (E ++ [mkS]))) => back_any7 u u E ob cb g c B hl2 W hR hO)
  have HFs := hideS (fun (W : World) (B g c : Nat) (h : W.ownsRow B 37 4 (.slice (some ⟨g, 0, none⟩) (D.length + 1) c) (D.length + 1) (flat4 (D ++ [mkS]))) => front_spo h rfl)
  have HFt := hideS (fun (W : World) (B g c : Nat) (h : W.ownsRow B 37 4 (.slice (some ⟨g, 0, none⟩) (E.length + 1) c) (E.length + 1) (flat4 (E ++ [mkS]))) => front_spo h rfl)
  obtain ⟨N, hN⟩ : ∃ N, D.length = N := ⟨_, rfl⟩
  obtain ⟨N2, hN2⟩ : ∃ N, E.length = N := ⟨_, rfl⟩
  obtain ⟨R, hR⟩ : ∃ R, joiM s D u E = R := ⟨_, rfl⟩
  obtain ⟨er, ss, LS⟩ := R
  rw [hN] at HLd HBk HFs hl ⊢
  rw [hN2] at HLe HBl HFt hl2 ⊢
  rw [hN, hN2, hR] at HCk HRc
  obtain ⟨M, hM⟩ : ∃ M, LS.length = M := ⟨_, rfl⟩
  have HM := hideS hM
  unfold SplAns at HCk HRc
  simp only [hM] at HCk HRc
  have HX := hideS (And.intro hRa (And.intro hRb hT))
  clear hRa hRb hT hN hN2 hR hna hnb hM
  obtain ⟨V, hV⟩ : ∃ V, (w.alloc (.cells #[.string s, .slice oa N ca] 24)).alloc (.cells #[.string u, .slice ob N2 cb] 24) = V := ⟨_, rfl⟩
  have t0 : Tx V w.heap.size (.string s) (.slice oa N ca) := by rw [← hV]; exact (Tx.new w _ _).keep (bel1S _ _)
  have t1 : Tx V (w.heap.size + 1) (.string u) (.slice ob N2 cb) := by
    rw [← hV]
    have h9 := Tx.new (w.alloc (.cells #[.string s, .slice oa N ca] 24)) (.string u) (.slice ob N2 cb)
    rw [World.size_alloc] at h9
    exact h9
  have bV : Below w.heap.size w V := by rw [← hV]; exact bupS (bel1S _ _) (bel1S _ _)
  have HV := hideS (And.intro t0 (And.intro t1 bV))
  obtain ⟨k0, k1, _, _⟩ := t0.cells
  clear t0 t1 bV
  go_enter Tryz.func3, Tryz.ntmps3
  go_wp2_with fail
  try rw [hV]
  clear hV k0 k1
  refine (HLd.out V HV.out.2.2).mono ?_
  rintro e w1 ⟨g, c, rfl, own1, b1⟩
  have h1f := HFs.out w1 _ g c own1
  have hwV : w.heap.size + 1 < V.heap.size := HV.out.2.1.lt
  -- mine lies in a block of its own
  obtain ⟨W2, hW2⟩ : ∃ W2, w1.alloc (.cells #[.string s, .slice (some ⟨g, 0, none⟩) N c] 24) = W2 := ⟨_, rfl⟩
  have b12 : Below w1.heap.size w1 W2 := by rw [← hW2]; exact bel1S _ _
  have tm : Tx W2 w1.heap.size (.string s) (.slice (some ⟨g, 0, none⟩) N c) := by rw [← hW2]; exact Tx.new w1 _ _
  have H2 := hideS (show Tx W2 w1.heap.size (.string s) (.slice (some ⟨g, 0, none⟩) N c) ∧ Tx W2 w.heap.size (.string s) (.slice oa N ca) ∧ Tx W2 (w.heap.size + 1) (.string u) (.slice ob N2 cb) ∧ W2.ownsRow V.heap.size 37 4 (.slice (some ⟨g, 0, none⟩) (N + 1) c) (N + 1) (flat4 (D ++ [mkS])) ∧ SpO W2 (some ⟨g, 0, none⟩) D ∧ Below w.heap.size w W2 from ⟨tm, (HV.out.1.keep b1).keep b12, (HV.out.2.1.keep b1).keep b12, own_keepS own1 b12, h1f.1.keep b12, bupS (bupS HV.out.2.2 b1) b12⟩)
  have hgV : V.heap.size ≤ g := h1f.2.1
  have hg1 : g < w1.heap.size := own_lt own1
  have hcN := h1f.2.2
  have s12 := b12.size
  have hlm : w1.heap.size < W2.heap.size := tm.lt
  obtain ⟨k2, k3, _, _⟩ := H2.out.2.2.1.cells
  clear tm b12 own1 b1 h1f HLd HFs
  go_wp2_with fail
  try rw [hW2]
  clear hW2 k2 k3
  refine (HLe.out W2 H2.out.2.2.2.2.2).mono ?_
  rintro e w3 ⟨g2, c2, rfl, own3, b3⟩
  have h3f := HFt.out w3 _ g2 c2 own3
  -- its, too
  obtain ⟨W4, hW4⟩ : ∃ W4, w3.alloc (.cells #[.string u, .slice (some ⟨g2, 0, none⟩) N2 c2] 24) = W4 := ⟨_, rfl⟩
  have b34 : Below w3.heap.size w3 W4 := by rw [← hW4]; exact bel1S _ _
  have tm : Tx W4 w3.heap.size (.string u) (.slice (some ⟨g2, 0, none⟩) N2 c2) := by rw [← hW4]; exact Tx.new w3 _ _
  have H4 := hideS (show Tx W4 w1.heap.size (.string s) (.slice (some ⟨g, 0, none⟩) N c) ∧ Tx W4 w3.heap.size (.string u) (.slice (some ⟨g2, 0, none⟩) N2 c2) ∧ Tx W4 w.heap.size (.string s) (.slice oa N ca) ∧ Tx W4 (w.heap.size + 1) (.string u) (.slice ob N2 cb) ∧ W4.ownsRow V.heap.size 37 4 (.slice (some ⟨g, 0, none⟩) (N + 1) c) (N + 1) (flat4 (D ++ [mkS])) ∧ W4.ownsRow W2.heap.size 37 4 (.slice (some ⟨g2, 0, none⟩) (N2 + 1) c2) (N2 + 1) (flat4 (E ++ [mkS])) ∧ Below w.heap.size w W4 from ⟨(H2.out.1.keep b3).keep b34, tm, (H2.out.2.1.keep b3).keep b34, (H2.out.2.2.1.keep b3).keep b34, own_keepS (own_keepS H2.out.2.2.2.1 b3) b34, own_keepS own3 b34, bupS (bupS H2.out.2.2.2.2.2 b3) b34⟩)
  have hgW : W2.heap.size ≤ g2 := h3f.2.1
  have hg3 : g2 < w3.heap.size := own_lt own3
  have s34 := b34.size
  have hlm2 : w3.heap.size < W4.heap.size := tm.lt
  have HC2 := hideS (HCk.out W4 g c g2 c2 hcN h3f.2.2 (Nat.le_trans hw H4.out.2.2.2.2.2.2.size) (tabs_below hw HX.out.2.2 H4.out.2.2.2.2.2.2) ((H2.out.2.2.2.2.1.keep b3).keep b34) (h3f.1.keep b34))
  obtain ⟨m0, m1, _, _⟩ := H4.out.1.cells
  obtain ⟨m2, m3, _, _⟩ := tm.cells
  clear tm b34 own3 b3 h3f HLe HCk HFt H2
  go_wp2_with fail
  try rw [hW4]
  clear hW4 m0 m1 m2 m3
  refine HC2.out.mono ?_
  rintro e w5 ⟨vx, rfl, ownx, b5⟩
  obtain ⟨ox, cx, rfl, hcx, hSx, hox⟩ := own_read ownx HM.out
  have H5 := hideS (show Tx w5 w1.heap.size (.string s) (.slice (some ⟨g, 0, none⟩) N c) ∧ Tx w5 w3.heap.size (.string u) (.slice (some ⟨g2, 0, none⟩) N2 c2) ∧ Tx w5 w.heap.size (.string s) (.slice oa N ca) ∧ Tx w5 (w.heap.size + 1) (.string u) (.slice ob N2 cb) ∧ w5.ownsRow V.heap.size 37 4 (.slice (some ⟨g, 0, none⟩) (N + 1) c) (N + 1) (flat4 (D ++ [mkS])) ∧ w5.ownsRow W2.heap.size 37 4 (.slice (some ⟨g2, 0, none⟩) (N2 + 1) c2) (N2 + 1) (flat4 (E ++ [mkS])) ∧ SpO w5 ox LS ∧ Below w.heap.size w w5 from ⟨H4.out.1.keep b5, H4.out.2.1.keep b5, H4.out.2.2.1.keep b5, H4.out.2.2.2.1.keep b5, own_keepS H4.out.2.2.2.2.1 b5, own_keepS H4.out.2.2.2.2.2.1 b5, hSx, bupS H4.out.2.2.2.2.2.2 b5⟩)
  have s35 : w3.heap.size ≤ w5.heap.size := Nat.le_trans s34 b5.size
  have gx : ∀ ad, ox = some ad → ¬ ad.block = g ∧ ¬ ad.block = g2 := fun ad h => by have := hox ad h; omega
  have HGX := hideS gx
  clear H4 b5 HC2 ownx hSx hox gx
  go_upto_region 4 with fail
  obtain ⟨W6, hW6⟩ : ∃ W6, w5.alloc (.cells #[.string ss, .slice ox M cx] 24) = W6 := ⟨_, rfl⟩
  have b56 : Below w5.heap.size w5 W6 := by rw [← hW6]; exact bel1S _ _
  have tp : Tx W6 w5.heap.size (.string ss) (.slice ox M cx) := by rw [← hW6]; exact Tx.new w5 _ _
  have H6 := hideS (show Tx W6 w1.heap.size (.string s) (.slice (some ⟨g, 0, none⟩) N c) ∧ Tx W6 w3.heap.size (.string u) (.slice (some ⟨g2, 0, none⟩) N2 c2) ∧ Tx W6 w.heap.size (.string s) (.slice oa N ca) ∧ Tx W6 (w.heap.size + 1) (.string u) (.slice ob N2 cb) ∧ W6.ownsRow V.heap.size 37 4 (.slice (some ⟨g, 0, none⟩) (N + 1) c) (N + 1) (flat4 (D ++ [mkS])) ∧ W6.ownsRow W2.heap.size 37 4 (.slice (some ⟨g2, 0, none⟩) (N2 + 1) c2) (N2 + 1) (flat4 (E ++ [mkS])) ∧ Tx W6 w5.heap.size (.string ss) (.slice ox M cx) ∧ SpO W6 ox LS ∧ Below w.heap.size w W6 from ⟨H5.out.1.keep b56, H5.out.2.1.keep b56, H5.out.2.2.1.keep b56, H5.out.2.2.2.1.keep b56, own_keepS H5.out.2.2.2.2.1 b56, own_keepS H5.out.2.2.2.2.2.1 b56, tp, H5.out.2.2.2.2.2.2.1.keep b56, bupS H5.out.2.2.2.2.2.2.2 b56⟩)
  rw [hW6]
  have s36 : w3.heap.size ≤ W6.heap.size := Nat.le_trans s35 b56.size
  clear H5 b56 tp hW6
  obtain ⟨k0, k1, _, _⟩ := H6.out.2.2.1.cells
  obtain ⟨k2, k3, _, _⟩ := H6.out.2.2.2.1.cells
  have HR6 := hideS (HRc.out W6 (HX.out.1.keep H6.out.2.2.2.2.2.2.2.2) (HX.out.2.1.keep H6.out.2.2.2.2.2.2.2.2))
  go_wp2_with fail
  refine HR6.out.mono ?_
  rintro e w7 ⟨vy, rfl, owny, b7⟩
  obtain ⟨oy, cy, rfl, hcy, hSy, hoy⟩ := own_read owny HM.out
  have s37 : w3.heap.size ≤ w7.heap.size := Nat.le_trans s36 b7.size
  have gy : ∀ ad, oy = some ad → ¬ ad.block = g ∧ ¬ ad.block = g2 := fun ad h => by have := hoy ad h; omega
  have HGY := hideS gy
  have HS7 := hideS (And.intro hSy b7)
  clear k0 k1 k2 k3 owny hSy hoy gy b7 HR6 HRc
  go_upto_region 5 with fail
  obtain ⟨W8, hW8⟩ : ∃ W8, w7.alloc (.cells #[.string ss, .slice oy M cy] 24) = W8 := ⟨_, rfl⟩
  have b78 : Below w7.heap.size w7 W8 := by rw [← hW8]; exact bel1S _ _
  have tq : Tx W8 w7.heap.size (.string ss) (.slice oy M cy) := by rw [← hW8]; exact Tx.new w7 _ _
  have H8 := hideS (show Tx W8 w1.heap.size (.string s) (.slice (some ⟨g, 0, none⟩) N c) ∧ Tx W8 w3.heap.size (.string u) (.slice (some ⟨g2, 0, none⟩) N2 c2) ∧ Tx W8 w.heap.size (.string s) (.slice oa N ca) ∧ Tx W8 (w.heap.size + 1) (.string u) (.slice ob N2 cb) ∧ W8.ownsRow V.heap.size 37 4 (.slice (some ⟨g, 0, none⟩) (N + 1) c) (N + 1) (flat4 (D ++ [mkS])) ∧ W8.ownsRow W2.heap.size 37 4 (.slice (some ⟨g2, 0, none⟩) (N2 + 1) c2) (N2 + 1) (flat4 (E ++ [mkS])) ∧ Tx W8 w5.heap.size (.string ss) (.slice ox M cx) ∧ Tx W8 w7.heap.size (.string ss) (.slice oy M cy) ∧ SpO W8 ox LS ∧ SpO W8 oy LS ∧ Below w.heap.size w W8 from
    ⟨(H6.out.1.keep HS7.out.2).keep b78, (H6.out.2.1.keep HS7.out.2).keep b78, (H6.out.2.2.1.keep HS7.out.2).keep b78, (H6.out.2.2.2.1.keep HS7.out.2).keep b78, own_keepS (own_keepS H6.out.2.2.2.2.1 HS7.out.2) b78, own_keepS (own_keepS H6.out.2.2.2.2.2.1 HS7.out.2) b78, (H6.out.2.2.2.2.2.2.1.keep HS7.out.2).keep b78, tq, (H6.out.2.2.2.2.2.2.2.1.keep HS7.out.2).keep b78, HS7.out.1.keep b78, bupS (bupS H6.out.2.2.2.2.2.2.2.2 HS7.out.2) b78⟩)
  rw [hW8]
  clear H6 HS7 b78 tq hW8
  obtain ⟨k0, k1, _, _⟩ := H8.out.1.cells
  obtain ⟨k2, k3, _, _⟩ := H8.out.2.2.1.cells
  have HB8 := hideS (HBk.out W8 g c V.heap.size (HX.out.1.keep H8.out.2.2.2.2.2.2.2.2.2.2) H8.out.2.2.2.2.1)
  go_wp2_with fail
  refine HB8.out.mono ?_
  rintro e w9 ⟨rfl, b9⟩
  have H9 := hideS (show Tx w9 w3.heap.size (.string u) (.slice (some ⟨g2, 0, none⟩) N2 c2) ∧ Tx w9 (w.heap.size + 1) (.string u) (.slice ob N2 cb) ∧ w9.ownsRow W2.heap.size 37 4 (.slice (some ⟨g2, 0, none⟩) (N2 + 1) c2) (N2 + 1) (flat4 (E ++ [mkS])) ∧ Tx w9 w5.heap.size (.string ss) (.slice ox M cx) ∧ Tx w9 w7.heap.size (.string ss) (.slice oy M cy) ∧ SpO w9 ox LS ∧ SpO w9 oy LS ∧ Below w.heap.size w w9 from
    ⟨H8.out.2.1.but b9 (by omega), H8.out.2.2.2.1.but b9 (by omega), own_but H8.out.2.2.2.2.2.1 b9 (by omega), H8.out.2.2.2.2.2.2.1.but b9 (by omega), H8.out.2.2.2.2.2.2.2.1.but b9 (by omega), H8.out.2.2.2.2.2.2.2.2.1.but b9 (fun ad h => (HGX.out ad h).1), H8.out.2.2.2.2.2.2.2.2.2.1.but b9 (fun ad h => (HGY.out ad h).1), H8.out.2.2.2.2.2.2.2.2.2.2.trans (b9.below H8.out.2.2.2.2.2.2.2.2.2.2.size (fun k e => by omega))⟩)
  clear H8 b9 HB8 HBk k0 k1 k2 k3
  obtain ⟨k0, k1, _, _⟩ := H9.out.1.cells
  obtain ⟨k2, k3, _, _⟩ := H9.out.2.1.cells
  have HB9 := hideS (HBl.out w9 g2 c2 W2.heap.size (HX.out.2.1.keep H9.out.2.2.2.2.2.2.2) H9.out.2.2.1)
  go_wp2_with fail
  refine HB9.out.mono ?_
  rintro e w10 ⟨rfl, b10⟩
  have H10 := hideS (show Tx w10 w5.heap.size (.string ss) (.slice ox M cx) ∧ Tx w10 w7.heap.size (.string ss) (.slice oy M cy) ∧ SpO w10 ox LS ∧ SpO w10 oy LS ∧ Below w.heap.size w w10 from
    ⟨H9.out.2.2.2.1.but b10 (by omega), H9.out.2.2.2.2.1.but b10 (by omega), H9.out.2.2.2.2.2.1.but b10 (fun ad h => (HGX.out ad h).2), H9.out.2.2.2.2.2.2.1.but b10 (fun ad h => (HGY.out ad h).2), H9.out.2.2.2.2.2.2.2.trans (b10.below H9.out.2.2.2.2.2.2.2.size (fun k e => by omega))⟩)
  clear H9 b10 HB9 HBl k0 k1 k2 k3
  obtain ⟨k0, k1, _, _⟩ := H10.out.1.cells
  obtain ⟨k2, k3, _, _⟩ := H10.out.2.1.cells
  have HSt := hideS (sametx_sp ss LS ox oy cx cy (by rw [HM.out]; exact hcx) w10 H10.out.2.2.1 H10.out.2.2.2.1)
  rw [HM.out] at HSt
  have hcc : (er == er) = true := by simp
  go_wp2_with fail
  refine HSt.out.mono ?_
  rintro e w11 ⟨rfl, b11⟩
  have H11 := hideS (bupS H10.out.2.2.2.2 b11)
  clear b11 HSt k0 k1 k2 k3 H10
  have HH := hideS (head7 w11 (Nat.le_trans hw H11.out.size) (tabs_below hw HX.out.2.2 H11.out))
  go_wp2_with fail
  refine HH.out.mono ?_
  rintro e w12 ⟨rfl, b12⟩
  have H12 := hideS (bupS H11.out b12)
  clear b12
  go_wp2_with fail
  go_ret
  exact ⟨rfl, H12.out⟩
end Go.Proofs.YtijgpdccemfhgaaGreatDoor

/- A text with spans that is handed in, opened (chapter 7). -/
namespace Go.Proofs.YtijgpdccemfhgaaGreatDoor
open Go.ChangeShapes Go.WideShapes Go.ChangeAt Go.RowKit Go.Joins

instance : Inhabited Sp := ⟨⟨0, 0, 0, 0⟩⟩
theorem cellsTx : Tryz.prog.cellsOf 24 = 2 := by kernel_rfl
theorem cellsSp : Tryz.prog.cellsOf 37 = 4 := by kernel_rfl
theorem bytesSp : Tryz.prog.bytesOf 37 = 32 := by kernel_rfl
theorem addrS_zero (a : Addr) : a.add 0 = a := by unfold Addr.add; rw [if_pos rfl]
theorem addrS_succ (a : Addr) (j : Nat) : a.add (j + 1) = ⟨a.block, a.off + (j + 1), none⟩ := by unfold Addr.add; rw [if_neg (by omega)]
set_option maxRecDepth 100000 in
theorem open_sp {H : Type} {enc : TypeId × Value → H} {W : World} {base : Nat} {spare : Nat → Bool} {held : Bool} {fuel : Nat} {v : Value} {x : DataW H × List MemPlace}
    (h : DataW.trod enc Tryz.prog W base spare held fuel 22 [v] = some x) :
    ∃ (D : List Sp) (o : Option Addr) (cap : Nat), v = .slice o D.length cap ∧ (D.length ≤ cap ∧ cap ≤ maxLen) ∧ (o = none → D = [] ∧ cap = 0) ∧ SpO W o D ∧
      ((x.1 = .nil ∧ D = []) ∨ ∃ el sp, x.1 = .slice el sp ∧ el.length = D.length) := by
  rcases Deep.open_slice Tryz.underlying22 h with ⟨hcs, hx⟩ | ⟨a, len, cap, m, n, E, Pl, hcs, hb, hl, hm, hmm, hx, hel⟩
  · simp at hcs
    subst hcs
    exact ⟨[], none, 0, rfl, ⟨by simp, by decide⟩, fun _ => ⟨rfl, rfl⟩, SpO.nil W none, .inl ⟨by rw [hx], rfl⟩⟩
  · simp at hcs
    subst hcs
    have hlm : len ≤ m := by rw [hmm]; split <;> omega
    have key : ∀ i, i < len → ∃ q : Sp, a.block < W.heap.size ∧
        W.cell? (a.add (i * 4)) = some (.int .i64 q.fr) ∧ W.cell? ⟨(a.add (i * 4)).block, (a.add (i * 4)).off + 1, none⟩ = some (.int .i64 q.tt) ∧ W.cell? ⟨(a.add (i * 4)).block, (a.add (i * 4)).off + 2, none⟩ = some (.int .i64 q.kd) ∧ W.cell? ⟨(a.add (i * 4)).block, (a.add (i * 4)).off + 3, none⟩ = some (.int .i64 q.vl) := by
      intro i hi
      obtain ⟨cs', h1, h2⟩ := hel i (by omega)
      rw [cellsSp] at h1
      have hbl := World.cells?_block h1 (by decide)
      rw [addrS_block] at hbl
      obtain ⟨_, hlen, hcell⟩ := World.cells?_some h1
      match cs', hlen with
      | [v0, v1, v2, v3], _ =>
        obtain ⟨y0, y1, y2, y3, k, _, _, t0, t1, t2, t3⟩ := trod_struct4 Tryz.underlying37 h2
        obtain ⟨k0, a0, _, w0⟩ := DataW.trod_int Tryz.underlying3 t0
        obtain ⟨k1, a1, _, w1⟩ := DataW.trod_int Tryz.underlying3 t1
        obtain ⟨k2, a2, _, w2⟩ := DataW.trod_int Tryz.underlying3 t2
        obtain ⟨k3, a3, _, w3⟩ := DataW.trod_int Tryz.underlying3 t3
        have c3 : Tryz.prog.cellsOf 3 = 1 := by kernel_rfl
        simp [c3] at a0 a1 a2 a3
        subst a0 a1 a2 a3
        have e0 := hcell 0 (by omega)
        have e1 := hcell 1 (by omega)
        have e2 := hcell 2 (by omega)
        have e3 := hcell 3 (by omega)
        rw [addrS_zero] at e0
        rw [addrS_succ] at e1 e2 e3
        exact ⟨⟨k0, k1, k2, k3⟩, hbl, e0, e1, e2, e3⟩
    obtain ⟨q, hq⟩ := Deep.choose_lt key
    refine ⟨(List.range len).map q, some a, cap, by simp, ⟨by simpa using hl, hm⟩, (fun e => nomatch e), fun i r hr => ?_, .inr ⟨_, _, by rw [hx], by simp⟩⟩
    have hi : i < len := by
      have := (List.getElem?_eq_some_iff.1 hr).1
      simpa using this
    have er : r = q i := by
      rw [List.getElem?_map, List.getElem?_range hi] at hr
      simpa using hr.symm
    rw [er]
    exact ⟨a, rfl, hq i hi⟩
set_option maxRecDepth 100000 in
theorem open_text {H : Type} {enc : TypeId × Value → H} {W : World} {r : Reach} {b0 base : Nat} {spare : Nat → Bool} {held : Bool} {v : Value} {d : DataW H} {p : List MemPlace}
    (hv : Value.okWide Tryz.prog W r b0 24 v) (h : DataW.Trod enc Tryz.prog W base spare held 24 v d p)
    (hsz : (DataW.weights Tryz.prog 24 d).all (· ≤ reachBytes) = true) :
    ∃ (s : ByteArray) (D : List Sp) (o : Option Addr) (cap : Nat), v = .agg #[.string s, .slice o D.length cap] ∧ (D.length ≤ cap ∧ cap ≤ maxLen) ∧ (o = none → D = [] ∧ cap = 0) ∧ SpO W o D ∧ s.size ≤ 140737488355328 ∧ D.length ≤ 4398046510976 := by
  obtain ⟨c0, c1, y0, y1, m, rfl, rfl, rfl, hy0, hy1⟩ := open_agg2 Tryz.underlying24 (by kernel_rfl) cellsTx hv h
  obtain ⟨s, e0, rfl, _⟩ := DataW.trod_string Tryz.underlying9 hy0
  simp at e0
  subst e0
  obtain ⟨D, o, cap, rfl, hc, hn, hR, hd⟩ := open_sp hy1
  have hu : Tryz.prog.underlying 24 = _ := Tryz.underlying24
  unfold DataW.weights at hsz
  rw [hu] at hsz
  simp only [List.map_cons, List.map_nil, DataW.weightsEach, List.all_append, Bool.and_eq_true, List.append_nil, reachBytes] at hsz
  obtain ⟨hs0, hs1⟩ := hsz
  refine ⟨s, D, o, cap, rfl, hc, hn, hR, ?_, ?_⟩
  · simp only [DataW.weights, List.all_cons, Bool.and_eq_true] at hs0
    have h1 := of_decide_eq_true (by first | exact hs0 | exact hs0.1 : decide _ = true)
    rw [Lib.size_eq]
    omega
  · rcases hd with ⟨_, rfl⟩ | ⟨el, sp, e, hl⟩
    · simp
    · rw [e] at hs1
      unfold DataW.weights at hs1
      have hv2 : Tryz.prog.underlying 22 = _ := Tryz.underlying22
      rw [hv2] at hs1
      simp only [List.all_cons, Bool.and_eq_true, bytesSp] at hs1
      have h1 := of_decide_eq_true hs1.1
      omega
end Go.Proofs.YtijgpdccemfhgaaGreatDoor
