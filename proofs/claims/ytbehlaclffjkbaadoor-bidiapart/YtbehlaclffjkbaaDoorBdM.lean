/- bidi: rule 4 (chapter 4). -/
import Derived.Test.YtbehlaclffjkbaaDoorBdK
namespace Go.Proofs.YtbehlaclffjkbaaDoor
open Go.RowKit Go.Shelf

/-- What stands in the memory while a rule runs over its own row. -/
structure RsP (L : List Int) (n base : Nat) (v : Value) (side : Int) (w : World) (D : Nat) (W : World) : Prop where
  own : W.ownsRow base 3 1 v n (flatJ L)
  len : L.length = n
  box : W.heap[D]? = some (.cells #[v, .int .i64 side] 80)
  but : But (fun k => v.ownBlock = some k) w W
theorem RsP.cell {L : List Int} {n base : Nat} {v : Value} {side : Int} {w : World} {D : Nat} {W : World} (h : RsP L n base v side w D W) : W.cell? ⟨D, 0, none⟩ = some v := by simp [World.cell?, h.box]
theorem RsP.cell1 {L : List Int} {n base : Nat} {v : Value} {side : Int} {w : World} {D : Nat} {W : World} (h : RsP L n base v side w D W) : W.cell? ⟨D, 1, none⟩ = some (.int .i64 side) := by simp [World.cell?, h.box]
theorem RsP.below {L : List Int} {n base : Nat} {v : Value} {side : Int} {w : World} {D : Nat} {W X : World} (h : RsP L n base v side w D W) (hb : Below W.heap.size W X) : RsP L n base v side w D X :=
  ⟨own_keepB h.own hb, h.len, (hb.block _ (Array.getElem?_eq_some_iff.1 h.box).1).trans h.box, h.but.newer (But.of_below (M := fun k => W.heap.size ≤ k) hb (fun _ _ e => e)) (fun _ e => Nat.le_trans h.but.size e)⟩
theorem RsP.get {L : List Int} {n base g cap : Nat} {side : Int} {w : World} {D : Nat} {W : World} (h : RsP L n base (.slice (some ⟨g, 0, none⟩) n cap) side w D W) {i : Nat} {c : Int} (hc : L[i]? = some c) : W.cell? ⟨g, i, none⟩ = some (.int .i64 c) ∧ W.frozen? ⟨g, i, none⟩ = false := by
  have hi : i < L.length := (List.getElem?_eq_some_iff.1 hc).1
  have := h.len
  have k1 := h.own.cellAt i (by omega)
  rw [flatJ_get hc] at k1
  exact ⟨k1, h.own.frozenAt i⟩
theorem RsP.put {L : List Int} {n base g cap : Nat} {side : Int} {w : World} {D : Nat} {W : World} (h : RsP L n base (.slice (some ⟨g, 0, none⟩) n cap) side w D W) (hg : g < D) (i : Nat) (x : Int) : RsP (L.set i x) n base (.slice (some ⟨g, 0, none⟩) n cap) side w D (W.setCell ⟨g, i, none⟩ (.int .i64 x)) := by
  refine ⟨?_, by rw [List.length_set]; exact h.len, (Below.heap_setCell W ⟨g, i, none⟩ _ D (by show D ≠ g; omega)).trans h.box, h.but.setCell (p := ⟨g, i, none⟩) rfl _⟩
  rw [flatJ_set]
  exact (h.own.stored i _).1
theorem RsP.at {L : List Int} {n base : Nat} {v : Value} {side : Int} {w : World} {D : Nat} {W : World} (h : RsP L n base v side w D W) (hn : n ≤ 1000000000000) (i : Int) (hi : -1 ≤ i ∧ i ≤ n) :
    Calls Tryd.prog 82 #[.agg #[v, .int .i64 side], .int .i64 i] W fun e w' => e = .returned (.int .i64 (atC L side i)) ∧ RsP L n base v side w D w' := by
  have hl := h.len
  refine (at_any L side i (by rw [hl]; exact hi) (by omega) base v W (by rw [hl]; exact h.own)).mono ?_
  rintro e w' ⟨rfl, hb⟩
  exact ⟨rfl, h.below hb⟩
/-- A rule's row, boxed anew. -/
theorem RsP.new {C : List Int} {n base : Nat} {v : Value} {side : Int} {w : World} (hn : C.length = n) (h : w.ownsRow base 3 1 v n (flatJ C)) : RsP C n base v side w w.heap.size (w.alloc (.cells #[v, .int .i64 side] 80)) :=
  ⟨own_keepB h (bel1B _ _), hn, World.alloc_heap_new _ _, But.of_below (bel1B _ _) (fun k hk e => by omega)⟩
/-- Rule 4 at one place. -/
def partS (side : Int) (L : List Int) (i : Nat) : List Int :=
  if atC L side ((i : Int) - 1) = atC L side ((i : Int) + 1) ∧ ((atC L side i = 6 ∧ atC L side ((i : Int) - 1) = 4) ∨ (atC L side i = 8 ∧ (atC L side ((i : Int) - 1) = 4 ∨ atC L side ((i : Int) - 1) = 5))) then L.set i (atC L side ((i : Int) - 1)) else L
def partN (side : Int) (C : List Int) : Nat → List Int
  | 0 => C
  | i + 1 => partS side (partN side C i) i
theorem partN_len (side : Int) (C : List Int) (i : Nat) : (partN side C i).length = C.length := by
  induction i with
  | zero => rfl
  | succ i ih =>
    show (partS side _ i).length = _
    unfold partS
    split
    · rw [List.length_set, ih]
    · exact ih
theorem atC_get {L : List Int} {side : Int} {i : Nat} {x : Int} (h : L[i]? = some x) : atC L side i = x := by
  unfold atC
  rw [if_neg (by omega), Int.toNat_natCast, h]
  rfl
theorem partS_of {side : Int} {L : List Int} {i : Nat} {x a b : Int} (hx : L[i]? = some x) (ha : atC L side ((i : Int) - 1) = a) (hb : atC L side ((i : Int) + 1) = b) : partS side L i = if a = b ∧ ((x = 6 ∧ a = 4) ∨ (x = 8 ∧ (a = 4 ∨ a = 5))) then L.set i a else L := by
  unfold partS
  rw [ha, hb, atC_get hx]
set_option maxRecDepth 100000 in
set_option maxHeartbeats 2000000 in
theorem part_any (C : List Int) (side : Int) (hn : C.length ≤ 1000000000000) (base : Nat) (v : Value) (w : World) (h : w.ownsRow base 3 1 v C.length (flatJ C)) :
    Calls Tryd.prog 70 #[.agg #[v, .int .i64 side]] w fun e w' => (∃ u, e = .returned u) ∧ w'.ownsRow base 3 1 v C.length (flatJ (partN side C C.length)) ∧ But (fun k => v.ownBlock = some k) w w' := by
  obtain ⟨n, hn'⟩ : ∃ n, C.length = n := ⟨_, rfl⟩
  have HN := hideB hn'
  rw [hn'] at hn h ⊢
  obtain ⟨oa, cap, rfl⟩ : ∃ oa cap, v = .slice oa n cap := by
    rcases own_formB h with ⟨rfl, rfl⟩ | ⟨g, cap, rfl⟩
    · exact ⟨none, 0, rfl⟩
    · exact ⟨_, cap, rfl⟩
  obtain ⟨PO, hPO⟩ : ∃ PO : Ending → World → Prop, (fun e w' => (∃ u, e = .returned u) ∧ w'.ownsRow base 3 1 (.slice oa n cap) n (flatJ (partN side C n)) ∧ But (fun k => (Value.slice oa n cap).ownBlock = some k) w w') = PO := ⟨_, rfl⟩
  have HP := hideB hPO
  rw [hPO]
  clear hPO
  have HH := hideB (RsP.new (side := side) hn' h)
  have HDg : Hid (∀ k, (Value.slice oa n cap).ownBlock = some k → k < w.heap.size) := hideB (fun k hk => (h.lt k hk).2)
  clear hn' h
  go_enter Tryd.func70, Tryd.ntmps70
  go_upto_region 1 with fail
  obtain ⟨V, hV⟩ : ∃ V, w.alloc (.cells #[.slice oa n cap, .int .i64 side] 80) = V := ⟨_, rfl⟩
  rw [hV] at HH ⊢
  clear hV
  have c0 := HH.out.cell
  obtain ⟨D, hD⟩ : ∃ D, w.heap.size = D := ⟨_, rfl⟩
  have HDe := hideB hD
  rw [hD] at HH HDg c0 ⊢
  clear hD
  go_wp2_with fail
  clear c0
  go_loopw [8] (fun iv wq => ∃ i : Nat, iv = .int .i64 (i : Nat) ∧ i ≤ n ∧ RsP (partN side C i) n base (.slice oa n cap) side w D wq) (fun iv _ => n - (intOf iv).toNat)
  case atStart => exact ⟨0, rfl, Nat.zero_le _, HH.out⟩
  case round =>
    obtain ⟨i, rfl, hin, hR⟩ := hrel
    obtain ⟨wq, rfl⟩ : ∃ wq, wq = wr := ⟨_, rfl⟩
    by_cases hlt : i < n
    · obtain ⟨g, cap2, e2⟩ : ∃ g cap2, Value.slice oa n cap = .slice (some ⟨g, 0, none⟩) n cap2 := by
        rcases own_formB hR.own with ⟨e, _⟩ | ⟨g, cap, e⟩
        · omega
        · exact ⟨g, cap, e⟩
      cases e2
      obtain ⟨L, hL⟩ : ∃ L, partN side C i = L := ⟨_, rfl⟩
      rw [hL] at hR
      obtain ⟨x, hx⟩ : ∃ x, L[i]? = some x := ⟨_, List.getElem?_eq_getElem (by rw [hR.len]; omega)⟩
      obtain ⟨a, ha⟩ : ∃ a, atC L side ((i : Int) - 1) = a := ⟨_, rfl⟩
      obtain ⟨b, hb⟩ : ∃ b, atC L side ((i : Int) + 1) = b := ⟨_, rfl⟩
      have HL := hideB (show partN side C (i + 1) = _ from (congrArg (partS side · i) hL).trans (partS_of hx ha hb))
      have HX := hideB hx
      have HA := hideB ha
      have HB := hideB hb
      have k1 := (hR.get hx).1
      have c0 := hR.cell
      have c1 := hR.cell1
      have di : (i : Int) < (n : Int) := by omega
      have wk : IntKind.i64.wrap ((i : Int) + 1) = ((i + 1 : Nat) : Int) := by rw [show ((i + 1 : Nat) : Int) = (i : Int) + 1 by omega]; exact IntWalk.i64_in _ ⟨by omega, by omega⟩
      have wm : IntKind.i64.wrap ((i : Int) - 1) = (i : Int) - 1 := IntWalk.i64_in _ ⟨by omega, by omega⟩
      have HR := hideB hR
      have HDg2 := hideB (HDg.out g rfl)
      clear hR hx hL ha hb
      go_wp2_with fail
      refine (HR.out.at hn ((i : Int) - 1) ⟨by omega, by omega⟩).mono ?_
      rintro e w2 ⟨rfl, hR1⟩
      rw [HA.out]
      have c0 := hR1.cell
      have c1 := hR1.cell1
      have HR1 := hideB hR1
      clear hR1 HR
      go_wp2_with fail
      refine (HR1.out.at hn ((i : Int) + 1) ⟨by omega, by omega⟩).mono ?_
      rintro e w3 ⟨rfl, hR2⟩
      rw [HB.out]
      have HR2 := hideB hR2
      clear hR2 HR1 c0 c1
      by_cases hab : a = b
      · subst hab
        by_cases h6 : x = 6
        · subst h6
          by_cases h4 : a = 4
          · subst h4
            have HR3 := hideB (HR2.out.put HDg2.out i (4))
            have f0 := (HR2.out.get HX.out).2
            have k0 := (HR2.out.get HX.out).1
            have c0 := HR2.out.cell
            clear HR2
            go_wp2_with fail
            go_roundw
            case rel => exact ⟨i + 1, by first | rfl | simp, by omega, by rw [HL.out, if_pos (by simp)]; exact HR3.out⟩
            case measure => simp [intOf]; omega
          · have b4 : (a == 4) = false := by simp [h4]
            have HR3 := hideB HR2.out
            clear HR2
            go_wp2_with fail
            go_roundw
            case rel => exact ⟨i + 1, by first | rfl | simp, by omega, by rw [HL.out, if_neg (by omega)]; exact HR3.out⟩
            case measure => simp [intOf]; omega
        · have b6 : (x == 6) = false := by simp [h6]
          by_cases h8 : x = 8
          · subst h8
            by_cases h4 : a = 4
            · subst h4
              have HR3 := hideB (HR2.out.put HDg2.out i (4))
              have f0 := (HR2.out.get HX.out).2
              have k0 := (HR2.out.get HX.out).1
              have c0 := HR2.out.cell
              clear HR2
              go_wp2_with fail
              go_roundw
              case rel => exact ⟨i + 1, by first | rfl | simp, by omega, by rw [HL.out, if_pos (by simp)]; exact HR3.out⟩
              case measure => simp [intOf]; omega
            · have b4 : (a == 4) = false := by simp [h4]
              by_cases h5 : a = 5
              · subst h5
                have HR3 := hideB (HR2.out.put HDg2.out i (5))
                have f0 := (HR2.out.get HX.out).2
                have k0 := (HR2.out.get HX.out).1
                have c0 := HR2.out.cell
                clear HR2
                go_wp2_with fail
                go_roundw
                case rel => exact ⟨i + 1, by first | rfl | simp, by omega, by rw [HL.out, if_pos (by simp)]; exact HR3.out⟩
                case measure => simp [intOf]; omega
              · have b5 : (a == 5) = false := by simp [h5]
                have HR3 := hideB HR2.out
                clear HR2
                go_wp2_with fail
                go_roundw
                case rel => exact ⟨i + 1, by first | rfl | simp, by omega, by rw [HL.out, if_neg (by omega)]; exact HR3.out⟩
                case measure => simp [intOf]; omega
          · have b8 : (x == 8) = false := by simp [h8]
            have HR3 := hideB HR2.out
            clear HR2
            go_wp2_with fail
            go_roundw
            case rel => exact ⟨i + 1, by first | rfl | simp, by omega, by rw [HL.out, if_neg (by omega)]; exact HR3.out⟩
            case measure => simp [intOf]; omega
      · have bab : (a == b) = false := by simp [hab]
        have HR3 := hideB HR2.out
        clear HR2
        go_wp2_with fail
        go_roundw
        case rel => exact ⟨i + 1, by first | rfl | simp, by omega, by rw [HL.out, if_neg (by omega)]; exact HR3.out⟩
        case measure => simp [intOf]; omega
    · obtain rfl : i = n := by omega
      have d2 : ¬ (i : Int) < (i : Int) := by omega
      have hres : ∀ u, PO (.returned u) wq := fun u => by
        rw [← HP.out]
        exact ⟨⟨u, rfl⟩, hR.own, hR.but⟩
      have HR := hideB hres
      clear hR hres
      go_wp2_with fail
      first | exact HR.out _ | (refine bodyPost_ret (v := .tuple #[]) (by simp [results, Tryd.results70, go_sem]) rfl ?_; exact HR.out _)
end Go.Proofs.YtbehlaclffjkbaaDoor
