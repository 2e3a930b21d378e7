/- law9's wrongly: an error that CheckDoc told, held against what the reference's CheckDoc told. -/
import Derived.Test.YtdikfcnbkckinaaGreatDoorAsX
import Derived.Test.YtdikfcnbkckinaaGreatDoorRkA
namespace Go.Proofs.YtdikfcnbkckinaaGreatDoor
open Go.RowKit Go.Shelf

set_option maxRecDepth 100000 in
set_option maxHeartbeats 400000 in
theorem wrongly_none (w : World) : Calls Tryz.prog 5 #[.nilIface, .agg #[.int .i64 0, .int .i64 0]] w fun e w' => e = .returned (.bool true) ∧ Below w.heap.size w w' := by
  go_enter Tryz.func5, Tryz.ntmps5
  go_wp2
  go_ret
  exact ⟨rfl, bel1 _ _⟩

set_option maxRecDepth 100000 in
set_option maxHeartbeats 2000000 in
theorem wrongly_some (g : Nat) (i k : Int) (T : ByteArray) (w : World) (hk : ¬ k = 0) (hg : w.heap[g]? = some (.cells #[.int .i64 i, .int .i64 k] 51))
    (hG : w.cell? ⟨0, 0, none⟩ = some (rty 35))
    (HE : ∀ W : World, W.heap[g]? = some (.cells #[.int .i64 i, .int .i64 k] 51) → Calls Tryz.prog 120 #[.pointer (some ⟨g, 0, none⟩)] W fun e w' => e = .returned (.string T) ∧ Below W.heap.size W w')
    (HT : ∀ W : World, Calls Tryz.prog 13 #[.agg #[.int .i64 i, .int .i64 k]] W fun e w' => e = .returned (.string T) ∧ Below W.heap.size W w') :
    Calls Tryz.prog 5 #[.iface 47 (.pointer (some ⟨g, 0, none⟩)), .agg #[.int .i64 i, .int .i64 k]] w fun e w' => e = .returned (.bool true) ∧ Below w.heap.size w w' := by
  replace HE := hideC HE
  replace HT := hideC HT
  have hgl : g < w.heap.size := (Array.getElem?_eq_some_iff.1 hg).1
  have hgG : 0 < w.heap.size := by
    rcases Nat.lt_or_ge 0 w.heap.size with h | h
    · exact h
    · simp [World.cell?, Array.getElem?_eq_none h] at hG
  have mE := methError
  go_enter Tryz.func5, Tryz.ntmps5
  go_wp2_with fail
  obtain ⟨V, hV⟩ : ∃ V, ((w.alloc (.cells #[.int .i64 i, .int .i64 k] 38)).alloc (.cells #[.pointer none] 47)) = V := ⟨_, rfl⟩
  have HV : Hid (Below w.heap.size w V ∧ V.heap.size = w.heap.size + 1 + 1 ∧ V.heap[w.heap.size]? = some (.cells #[.int .i64 i, .int .i64 k] 38) ∧ V.cell? ⟨w.heap.size + 1, 0, none⟩ = some (.pointer none) ∧ V.frozen? ⟨w.heap.size + 1, 0, none⟩ = false) := hideC (by
    rw [← hV]
    refine ⟨((Below.refl _ w).alloc (Nat.le_refl _) _).alloc (by simp) _, by rw [World.size_alloc, World.size_alloc], (Below.heap_alloc _ _ _ (by simp)).trans (World.alloc_heap_new w _), ?_, ?_⟩
    all_goals simp)
  rw [hV]
  clear hV
  refine (as_any ⟨w.heap.size + 1, 0, none⟩ g (.pointer none) V ((HV.out.1.cell (p := ⟨0, 0, none⟩) hgG).trans hG) HV.out.2.2.2.1 HV.out.2.2.2.2).mono ?_
  rintro e w1 ⟨rfl, V1, b1, rfl⟩
  obtain ⟨W, hW⟩ : ∃ W, V1.setCell ⟨w.heap.size + 1, 0, none⟩ (.pointer (some ⟨g, 0, none⟩)) = W := ⟨_, rfl⟩
  have HW : Hid (Below w.heap.size w W ∧ W.heap[w.heap.size]? = some (.cells #[.int .i64 i, .int .i64 k] 38) ∧ W.cell? ⟨w.heap.size + 1, 0, none⟩ = some (.pointer (some ⟨g, 0, none⟩)) ∧ W.heap[g]? = some (.cells #[.int .i64 i, .int .i64 k] 51) ∧ w.heap.size + 1 < W.heap.size) := hideC (by
    have hz := b1.size
    have h2 := HV.out.2.1
    have hbw : Below w.heap.size w W := by rw [← hW]; exact (bup HV.out.1 b1).setCell (by simp) _
    refine ⟨hbw, ?_, ?_, (hbw.block g hgl).trans hg, ?_⟩
    · rw [← hW]
      exact (Below.heap_setCell _ _ _ _ (by simp)).trans ((b1.block _ (by omega)).trans HV.out.2.2.1)
    · rw [← hW]
      exact World.cell?_setCell_same _ _ _ ((b1.cell (p := ⟨w.heap.size + 1, 0, none⟩) (by show w.heap.size + 1 < _; omega)).trans HV.out.2.2.2.1)
    · rw [← hW]
      show _ < (V1.heap.modify _ _).size
      rw [Array.size_modify]
      omega)
  rw [hW]
  clear hW b1 hg hG
  have c0 : W.cell? ⟨w.heap.size, 0, none⟩ = some (.int .i64 i) := by simp [World.cell?, HW.out.2.1]
  have c1 : W.cell? ⟨w.heap.size, 1, none⟩ = some (.int .i64 k) := by simp [World.cell?, HW.out.2.1]
  have cx := HW.out.2.2.1
  have g0 : W.cell? ⟨g, 0, none⟩ = some (.int .i64 i) := by simp [World.cell?, HW.out.2.2.2.1]
  have g1 : W.cell? ⟨g, 1, none⟩ = some (.int .i64 k) := by simp [World.cell?, HW.out.2.2.2.1]
  go_wp2_with fail
  refine (is_wrongE g i k _ HW.out.2.2.2.1).mono ?_
  rintro e w2 ⟨rfl, rfl⟩
  go_wp2_with fail
  have HE2 := hideC (HE.out w2.drew HW.out.2.2.2.1)
  have HL : Hid (∀ n, n ≤ w.heap.size + 1 → n < w2.heap.size) := hideC (fun n hn => Nat.lt_of_le_of_lt hn HW.out.2.2.2.2)
  go_region_held3 (fun w' => w'.cell? ⟨w.heap.size, 0, none⟩ = some (.int .i64 i) ∧ w'.cell? ⟨w.heap.size, 1, none⟩ = some (.int .i64 k) ∧ w'.cell? ⟨w.heap.size + 1, 0, none⟩ = some (.pointer (some ⟨g, 0, none⟩)) ∧ w'.cell? ⟨g, 0, none⟩ = some (.int .i64 i) ∧ w'.cell? ⟨g, 1, none⟩ = some (.int .i64 k)) (first | go_keep | assumption | exact k4 | exact k5)
    (first
    | (go_at_call 120; (with_reducible refine HE2.out.mono ?_); rintro e w4 ⟨rfl, b4⟩; have b4 : Below w2.heap.size w2 w4 := (by first | exact ⟨b4.os, b4.tape, b4.output, b4.size, b4.block⟩ | exact b4); have k4 : w4.cell? ⟨w.heap.size, 0, none⟩ = some (.int .i64 i) ∧ w4.cell? ⟨w.heap.size, 1, none⟩ = some (.int .i64 k) ∧ w4.cell? ⟨w.heap.size + 1, 0, none⟩ = some (.pointer (some ⟨g, 0, none⟩)) ∧ w4.cell? ⟨g, 0, none⟩ = some (.int .i64 i) ∧ w4.cell? ⟨g, 1, none⟩ = some (.int .i64 k) := ⟨(b4.cell (p := ⟨w.heap.size, 0, none⟩) (HL.out (w.heap.size) (by omega))).trans c0, (b4.cell (p := ⟨w.heap.size, 1, none⟩) (HL.out (w.heap.size) (by omega))).trans c1, (b4.cell (p := ⟨w.heap.size + 1, 0, none⟩) (HL.out (w.heap.size + 1) (by omega))).trans cx, (b4.cell (p := ⟨g, 0, none⟩) (HL.out (g) (by omega))).trans g0, (b4.cell (p := ⟨g, 1, none⟩) (HL.out (g) (by omega))).trans g1⟩; have H4 := hideC b4)
    | (go_at_call 13; (with_reducible refine (HT.out _).mono ?_); rintro e w5 ⟨rfl, b5⟩; have b5 : Below w2.heap.size w2 w5 := bup H4.out (by first | exact ⟨b5.os, b5.tape, b5.output, b5.size, b5.block⟩ | exact b5); have k5 : w5.cell? ⟨w.heap.size, 0, none⟩ = some (.int .i64 i) ∧ w5.cell? ⟨w.heap.size, 1, none⟩ = some (.int .i64 k) ∧ w5.cell? ⟨w.heap.size + 1, 0, none⟩ = some (.pointer (some ⟨g, 0, none⟩)) ∧ w5.cell? ⟨g, 0, none⟩ = some (.int .i64 i) ∧ w5.cell? ⟨g, 1, none⟩ = some (.int .i64 k) := ⟨(b5.cell (p := ⟨w.heap.size, 0, none⟩) (HL.out (w.heap.size) (by omega))).trans c0, (b5.cell (p := ⟨w.heap.size, 1, none⟩) (HL.out (w.heap.size) (by omega))).trans c1, (b5.cell (p := ⟨w.heap.size + 1, 0, none⟩) (HL.out (w.heap.size + 1) (by omega))).trans cx, (b5.cell (p := ⟨g, 0, none⟩) (HL.out (g) (by omega))).trans g0, (b5.cell (p := ⟨g, 1, none⟩) (HL.out (g) (by omega))).trans g1⟩; have H5 := hideC b5))
  go_wp2_with fail
  go_ret
  exact ⟨by first | rfl | simp, bup HW.out.1 H5.out⟩

end Go.Proofs.YtdikfcnbkckinaaGreatDoor
