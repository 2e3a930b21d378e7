/- bidi: a rune's mirror (chapter 4). -/
import Derived.Test.YtbehlaclffjkbaaDoorBdA
import Derived.Deep.DeepCutAuto
namespace Go.Proofs.YtbehlaclffjkbaaDoor
open Go.RowKit Go.Shelf

@[local go_sem] theorem build_pair (a b : Int) (w : World) : (Instr.build 109 #[(0, .int .i32 a), (1, .int .i32 b)]).run Tryd.prog w = .ok (.agg #[.int .i32 a, .int .i32 b]) w := run_build w _ _ _ (by kernel_rfl)
def tPairs : List (Int × Int) := [(40, 41), (60, 62), (91, 93), (123, 125), (171, 187), (8249, 8250), (8261, 8262), (8317, 8318), (8333, 8334), (8712, 8715), (8804, 8805), (8810, 8811), (10216, 10217), (12296, 12297), (12298, 12299), (12300, 12301), (12302, 12303), (12304, 12305), (12308, 12309), (65288, 65289), (65308, 65310), (65339, 65341), (65371, 65373)]
def mirL (r : Int) : List (Int × Int) → Int
  | [] => r
  | p :: T => if r = p.1 then p.2 else if r = p.2 then p.1 else mirL r T
theorem mirL_cons (r : Int) (p : Int × Int) (T : List (Int × Int)) : mirL r (p :: T) = if r = p.1 then p.2 else if r = p.2 then p.1 else mirL r T := rfl
set_option maxRecDepth 100000 in
set_option maxHeartbeats 2000000 in
theorem mirror_any (r : Int) (w : World) : Calls Tryd.prog 58 #[.int .i32 r] w fun e w' => e = .returned (.int .i32 (mirL r tPairs)) ∧ Below w.heap.size w w' := by
  have HO := hideB (tbr_new w tPairs #[.int .i32 40, .int .i32 41, .int .i32 60, .int .i32 62, .int .i32 91, .int .i32 93, .int .i32 123, .int .i32 125, .int .i32 171, .int .i32 187, .int .i32 8249, .int .i32 8250, .int .i32 8261, .int .i32 8262, .int .i32 8317, .int .i32 8318, .int .i32 8333, .int .i32 8334, .int .i32 8712, .int .i32 8715, .int .i32 8804, .int .i32 8805, .int .i32 8810, .int .i32 8811, .int .i32 10216, .int .i32 10217, .int .i32 12296, .int .i32 12297, .int .i32 12298, .int .i32 12299, .int .i32 12300, .int .i32 12301, .int .i32 12302, .int .i32 12303, .int .i32 12304, .int .i32 12305, .int .i32 12308, .int .i32 12309, .int .i32 65288, .int .i32 65289, .int .i32 65308, .int .i32 65310, .int .i32 65339, .int .i32 65341, .int .i32 65371, .int .i32 65373] 109 rfl)
  have HN : Hid (tPairs.length = 23) := hideB rfl
  generalize tPairs = T at *
  obtain ⟨PO, hPO⟩ : ∃ PO : Ending → World → Prop, (fun e w' => e = .returned (.int .i32 (mirL r T)) ∧ Below w.heap.size w w') = PO := ⟨_, rfl⟩
  have HP := hideB hPO
  rw [hPO]
  clear hPO
  go_enter Tryd.func58, Tryd.ntmps58
  go_wp2_with fail
  obtain ⟨V, hV⟩ : ∃ V, w.alloc (.cells #[.int .i32 40, .int .i32 41, .int .i32 60, .int .i32 62, .int .i32 91, .int .i32 93, .int .i32 123, .int .i32 125, .int .i32 171, .int .i32 187, .int .i32 8249, .int .i32 8250, .int .i32 8261, .int .i32 8262, .int .i32 8317, .int .i32 8318, .int .i32 8333, .int .i32 8334, .int .i32 8712, .int .i32 8715, .int .i32 8804, .int .i32 8805, .int .i32 8810, .int .i32 8811, .int .i32 10216, .int .i32 10217, .int .i32 12296, .int .i32 12297, .int .i32 12298, .int .i32 12299, .int .i32 12300, .int .i32 12301, .int .i32 12302, .int .i32 12303, .int .i32 12304, .int .i32 12305, .int .i32 12308, .int .i32 12309, .int .i32 65288, .int .i32 65289, .int .i32 65308, .int .i32 65310, .int .i32 65339, .int .i32 65341, .int .i32 65371, .int .i32 65373] 109) = V := ⟨_, rfl⟩
  have HV : Hid (Below w.heap.size w V ∧ w.heap.size ≤ V.heap.size) := hideB (by rw [← hV]; exact ⟨bel1B _ _, by rw [World.size_alloc]; omega⟩)
  rw [hV] at HO ⊢
  clear hV
  generalize w.heap.size = D at *
  go_loopw [30] (fun iv wq => ∃ i : Nat, iv = .int .i64 (i : Nat) ∧ i ≤ 23 ∧ mirL r T = mirL r (T.drop i) ∧ Below V.heap.size V wq) (fun iv _ => 23 - (intOf iv).toNat)
  case atStart => exact ⟨0, rfl, Nat.zero_le _, rfl, Below.refl _ _⟩
  case round =>
    obtain ⟨i, rfl, hi, hs, hb⟩ := hrel
    obtain ⟨wq, rfl⟩ : ∃ wq, wq = wr := ⟨_, rfl⟩
    by_cases hlt : i < 23
    · obtain ⟨p, hp⟩ : ∃ p, T[i]? = some p := ⟨_, List.getElem?_eq_getElem (by rw [HN.out]; omega)⟩
      obtain ⟨A, hAe, hA, a0, a1⟩ := (HO.out.keep hb) i p hp
      cases hAe
      have hdr : T.drop i = p :: T.drop (i + 1) := by
        obtain ⟨h1, e1⟩ := List.getElem?_eq_some_iff.1 hp
        rw [List.drop_eq_getElem_cons h1, e1]
      rw [hdr, mirL_cons] at hs
      have hz : (⟨D, 0, none⟩ : Addr).add (i * 2) = ⟨D, i * 2, none⟩ := by
        unfold Addr.add
        split
        · rename_i h
          rw [h]
        · simp
      rw [hz] at a0 a1
      have HS := hideB hs
      have HB := hideB hb
      clear hs hb hdr hp hA hz
      obtain ⟨pl, pr⟩ := p
      have di : (i : Int) < 23 := by omega
      have wk : IntKind.i64.wrap ((i : Int) + 1) = ((i + 1 : Nat) : Int) := by rw [show ((i + 1 : Nat) : Int) = (i : Int) + 1 by omega]; exact IntWalk.i64_in _ ⟨by omega, by omega⟩
      have HB2 : Hid (Below V.heap.size V (wq.alloc (.cells #[.int .i32 pl, .int .i32 pr] 109))) := hideB (bupB HB.out (bel1B _ _))
      have hDV : D ≤ V.heap.size := HV.out.2
      by_cases h1 : r = pl
      · subst h1
        have HT : Hid (mirL r T = pr) := hideB (by rw [HS.out, if_pos rfl])
        go_wp2_with fail
        first
          | (rw [← HP.out]; exact ⟨by rw [HT.out], HV.out.1.trans (HB2.out.mono hDV)⟩)
          | (go_ret; rw [← HP.out]; exact ⟨by rw [HT.out], HV.out.1.trans (HB2.out.mono hDV)⟩)
      · have e1 : (r == pl) = false := by simp [h1]
        by_cases h2 : r = pr
        · subst h2
          have HT : Hid (mirL r T = pl) := hideB (by rw [HS.out, if_neg h1, if_pos rfl])
          go_wp2_with fail
          first
            | (rw [← HP.out]; exact ⟨by rw [HT.out], HV.out.1.trans (HB2.out.mono hDV)⟩)
            | (go_ret; rw [← HP.out]; exact ⟨by rw [HT.out], HV.out.1.trans (HB2.out.mono hDV)⟩)
        · have e2 : (r == pr) = false := by simp [h2]
          have HT : Hid (mirL r T = mirL r (T.drop (i + 1))) := hideB (by rw [HS.out, if_neg h1, if_neg h2])
          go_wp2_with fail
          go_roundw
          case rel => exact ⟨i + 1, by first | rfl | simp, by omega, HT.out, HB2.out⟩
          case measure => simp [intOf]; omega
    · obtain rfl : i = 23 := by omega
      have hk2 : T.drop 23 = [] := List.drop_eq_nil_of_le (by rw [HN.out]; exact Nat.le_refl _)
      rw [hk2] at hs
      have hDV : D ≤ V.heap.size := HV.out.2
      have HB := hideB (And.intro hs hb)
      clear hs hb hk2
      go_wp2_with fail
      first
        | (rw [← HP.out]; exact ⟨by rw [HB.out.1]; rfl, HV.out.1.trans (HB.out.2.mono hDV)⟩)
        | (go_ret; rw [← HP.out]; exact ⟨by rw [HB.out.1]; rfl, HV.out.1.trans (HB.out.2.mono hDV)⟩)
end Go.Proofs.YtbehlaclffjkbaaDoor
