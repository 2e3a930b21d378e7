/- style.Runs at every text (chapter 7). -/
import Derived.Test.YthonbeonjjhmlaaDoorSpE
namespace Go.Proofs.YthonbeonjjhmlaaDoor
open Go.RowKit Go.Shelf
attribute [local go_sem] Oper.semAt_some

/-- The answer of Runs in memory. -/
def RunAns (w : World) (s : ByteArray) (D : List Sp) (e : Ending) (w' : World) : Prop :=
  Below w.heap.size w w' ∧ ((chkT s D ≠ 0 ∧ e = .returned (.tuple #[.slice none 0 0, .int .i64 (chkT s D)])) ∨
    (chkT s D = 0 ∧ ∃ v, e = .returned (.tuple #[v, .int .i64 0]) ∧ w'.ownsRow w.heap.size 64 7 v (runsM (signs s).length (isort ltS D)).length (flat7 (runsM (signs s).length (isort ltS D)))))
theorem chkT_few {s : ByteArray} {D : List Sp} (h : chkT s D = 0) : s.size ≤ 4096 ∧ D.length ≤ 256 := by
  unfold chkT at h
  by_cases h1 : 4096 < s.size
  · rw [if_pos h1] at h; omega
  · rw [if_neg h1] at h
    by_cases h2 : 256 < D.length
    · rw [if_pos h2] at h; omega
    · omega
set_option maxRecDepth 100000 in
set_option maxHeartbeats 2000000 in
theorem runs_any (s : ByteArray) (D : List Sp) (oa : Option Addr) (ca : Nat) (hs : s.size ≤ 140737488355328) (hca : D.length ≤ ca ∧ ca ≤ maxLen) (hna : oa = none → D = [] ∧ ca = 0) (w : World) (hRa : SpO w oa D) :
    Calls Tryd.prog 8 #[.agg #[.string s, .slice oa D.length ca]] w (RunAns w s D) := by
  have HC1 := hideS (fun (W : World) (h : Below w.heap.size w W) => check7_any s D oa ca hs hca hna W (hRa.keep h))
  have HCt := hideS (fun (W : World) => count7_any s W hs)
  obtain ⟨c1, hc1⟩ : ∃ c, chkT s D = c := ⟨_, rfl⟩
  obtain ⟨n, hn⟩ : ∃ n, (signs s).length = n := ⟨_, rfl⟩
  obtain ⟨ND, hND⟩ : ∃ ND, D.length = ND := ⟨_, rfl⟩
  have HX := hideS (And.intro hc1 (And.intro hn hND))
  have HY := hideS (And.intro hRa (And.intro hna hca))
  rw [hc1, hND] at HC1
  rw [hn] at HCt
  obtain ⟨PO, hPO⟩ : ∃ PO : Ending → World → Prop, PO = RunAns w s D := ⟨_, rfl⟩
  rw [← hPO, hND]
  have HPO := hideS hPO
  clear hPO hRa hna hca hc1 hn hND
  go_enter Tryd.func8, Tryd.ntmps8
  go_wp2_with fail
  obtain ⟨W0, hW0⟩ : ∃ W0, w.alloc (.cells #[.string s, .slice oa ND ca] 24) = W0 := ⟨_, rfl⟩
  have n0 : W0.heap[w.heap.size]? = some (.cells #[.string s, .slice oa ND ca] 24 (0, 0)) := by rw [← hW0]; exact World.alloc_heap_new w _
  have b0 : Below w.heap.size w W0 := by rw [← hW0]; exact bel1S _ _
  rw [hW0]
  have H0 := hideS (And.intro n0 b0)
  clear hW0 n0 b0
  refine (HC1.out W0 H0.out.2).mono ?_
  rintro e w1 ⟨rfl, b1⟩
  have hl0 : w.heap.size < W0.heap.size := (Array.getElem?_eq_some_iff.1 H0.out.1).1
  have n1 := (b1.block w.heap.size hl0).trans H0.out.1
  have H1 := hideS (And.intro n1 (bupS H0.out.2 b1))
  clear n1 b1 H0 HC1 hl0
  by_cases e1 : c1 = 0
  · subst e1
    have hf := chkT_few HX.out.1
    have hf2 : ND ≤ 256 := by have := hf.2; rw [HX.out.2.2] at this; exact this
    have hl1 : w.heap.size < w1.heap.size := (Array.getElem?_eq_some_iff.1 H1.out.1).1
    have k0 : w1.cell? ⟨w.heap.size, 0, none⟩ = some (.string s) := by have h9 := H1.out.1; simp [World.cell?, h9]
    have k1 : w1.cell? ⟨w.heap.size, 1, none⟩ = some (.slice oa ND ca) := by have h9 := H1.out.1; simp [World.cell?, h9]
    have HOu := hideS (fun (W : World) (h : Below w.heap.size w W) => outer_any D oa ca (by rw [HX.out.2.2]; omega) HY.out.2.1 W (HY.out.1.keep h))
    have hIl : (isort ltS D).length = ND := by rw [isort_length, HX.out.2.2]
    have HRu := hideS (fun (W : World) (o : Option Addr) (c : Nat) (hc : ND ≤ c ∧ c ≤ maxLen) (hR : SpO W o (isort ltS D)) => runsOf_any (isort ltS D) o c (n : Nat) (by omega) (by rw [hIl]; exact hc) W hR)
    rw [HX.out.2.2] at HOu
    rw [hIl] at HRu
    clear hIl
    go_upto_region 4 with fail
    go_region_held3 (fun w' => w'.cell? ⟨w.heap.size, 0, none⟩ = some (.string s) ∧ w'.cell? ⟨w.heap.size, 1, none⟩ = some (.slice oa ND ca)) (first | go_keep | assumption | exact kA9 | exact kB9 | exact kC9) (first
      | (go_at_call 21; (with_reducible refine (HCt.out _).mono ?_); rintro e wA ⟨rfl, bA⟩; have bA : Below w1.heap.size w1 wA := (by first | exact ⟨bA.os, bA.tape, bA.output, bA.size, bA.block⟩ | exact bA); have kA9 : wA.cell? ⟨w.heap.size, 0, none⟩ = some (.string s) ∧ wA.cell? ⟨w.heap.size, 1, none⟩ = some (.slice oa ND ca) := ⟨(bA.cell (p := ⟨w.heap.size, 0, none⟩) hl1).trans k0, (bA.cell (p := ⟨w.heap.size, 1, none⟩) hl1).trans k1⟩; have HbA := hideS bA; clear bA)
      | (go_at_call 23; (with_reducible refine (HOu.out _ (bupS H1.out.2 HbA.out)).mono ?_); rintro e wB ⟨o2, cp2, rfl, hc2, _, _, hR2, bB⟩; have bB : Below w1.heap.size w1 wB := bupS HbA.out bB; have kB9 : wB.cell? ⟨w.heap.size, 0, none⟩ = some (.string s) ∧ wB.cell? ⟨w.heap.size, 1, none⟩ = some (.slice oa ND ca) := ⟨(bB.cell (p := ⟨w.heap.size, 0, none⟩) hl1).trans k0, (bB.cell (p := ⟨w.heap.size, 1, none⟩) hl1).trans k1⟩; have HbB := hideS (And.intro bB hR2); clear bB hR2)
      | (go_at_call 26; (with_reducible refine (HRu.out _ o2 cp2 hc2 HbB.out.2).mono ?_); rintro e wC ⟨v3, rfl, own3, bC⟩; have own3 := own_from own3 (show w.heap.size ≤ _ from Nat.le_trans H1.out.2.size HbB.out.1.size); have bC : Below w1.heap.size w1 wC := bupS HbB.out.1 bC; have kC9 : wC.cell? ⟨w.heap.size, 0, none⟩ = some (.string s) ∧ wC.cell? ⟨w.heap.size, 1, none⟩ = some (.slice oa ND ca) := ⟨(bC.cell (p := ⟨w.heap.size, 0, none⟩) hl1).trans k0, (bC.cell (p := ⟨w.heap.size, 1, none⟩) hl1).trans k1⟩; have HbC := hideS (And.intro bC own3); clear bC own3))
    all_goals
      go_wp2_with fail
      rw [HPO.out]
      refine ⟨bupS H1.out.2 HbC.out.1, .inr ⟨HX.out.1, v3, rfl, ?_⟩⟩
      rw [HX.out.2.1]
      exact HbC.out.2
  · have e1b : (c1 != 0) = true := by simpa using e1
    go_wp2_with fail
    rw [HPO.out]
    refine ⟨H1.out.2, .inl ⟨by rw [HX.out.1]; exact e1, ?_⟩⟩
    rw [HX.out.1]
    rfl
end Go.Proofs.YthonbeonjjhmlaaDoor
