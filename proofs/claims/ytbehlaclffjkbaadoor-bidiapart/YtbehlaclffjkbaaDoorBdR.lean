/- bidi: a row's first strong class; where what its opener asks for goes (chapter 4). -/
import Derived.Test.YtbehlaclffjkbaaDoorBdQ
namespace Go.Proofs.YtbehlaclffjkbaaDoor
open Go.RowKit Go.Shelf

/-- Where classes lie: read, not owned. -/
def RdA (w : World) (o : Option Addr) (C : List Int) : Prop := ∀ k x, C[k]? = some x → ∃ g off, o = some ⟨g, off, none⟩ ∧ w.cell? ⟨g, off + k, none⟩ = some (.int .i64 x)
theorem RdA.keep {A B : World} {o : Option Addr} {C : List Int} (h : RdA A o C) (hb : Below A.heap.size A B) : RdA B o C := fun k x hx => by
  obtain ⟨g, off, e, hc⟩ := h k x hx
  exact ⟨g, off, e, (hb.cell (p := ⟨g, off + k, none⟩) (World.block_lt_of_cell? _ _ hc)).trans hc⟩
theorem RdA.but {A B : World} {o : Option Addr} {C : List Int} {N : Nat → Prop} (h : RdA A o C) (hb : But N A B) (hN : ∀ a, o = some a → ¬ N a.block) : RdA B o C := fun k x hx => by
  obtain ⟨g, off, e, hc⟩ := h k x hx
  exact ⟨g, off, e, (World.cell?_of_block (hb.same g (World.block_lt_of_cell? _ _ hc) (hN _ e))).trans hc⟩
theorem RdA.of_own {w : World} {base : Nat} {o : Option Addr} {n cap : Nat} {C : List Int} (h : w.ownsRow base 3 1 (.slice o n cap) n (flatJ C)) (hl : C.length = n) : RdA w o C := fun k x hx => by
  have hk : k < n := by have := (List.getElem?_eq_some_iff.1 hx).1; omega
  rcases own_formB h with ⟨e, _⟩ | ⟨g, cap, e⟩
  · omega
  · cases e
    have h2 := h.cellAt k (by omega)
    rw [flatJ_get hx] at h2
    exact ⟨g, 0, rfl, by rw [Nat.zero_add]; exact h2⟩
theorem RdA.part {w : World} {o : Option Addr} {C : List Int} {g off : Nat} (h : RdA w o C) (ho : o = some ⟨g, off, none⟩) (a b : Nat) : RdA w (some ⟨g, off + a, none⟩) ((C.drop a).take b) := fun k x hx => by
  have hk : k < b := by have := (List.getElem?_eq_some_iff.1 hx).1; simp at this; omega
  rw [List.getElem?_take_of_lt hk, List.getElem?_drop] at hx
  obtain ⟨g2, off2, e, hc⟩ := h (a + k) x hx
  rw [ho] at e
  cases e
  exact ⟨g, off + a, rfl, by rw [Nat.add_assoc]; exact hc⟩
/-- A row's first class that has a direction. -/
def fstS (C : List Int) : List Int → Int
  | [] => 0
  | p :: r => if (180224 : Nat).testBit ((C[p.toNat]?).getD 0).toNat = true then (C[p.toNat]?).getD 0 else fstS C r
theorem fstS_drop {C P : List Int} {i : Nat} {y c : Nat} (h : P[i]? = some (y : Int)) (hc : C[y]? = some (c : Int)) : fstS C (P.drop i) = if (180224 : Nat).testBit c = true then (c : Int) else fstS C (P.drop (i + 1)) := by
  obtain ⟨h1, e1⟩ := List.getElem?_eq_some_iff.1 h
  rw [List.drop_eq_getElem_cons h1, e1]
  show (if (180224 : Nat).testBit ((C[(y : Int).toNat]?).getD 0).toNat = true then (C[(y : Int).toNat]?).getD 0 else fstS C (P.drop (i + 1))) = _
  rw [Int.toNat_natCast, hc]
  rfl
set_option maxRecDepth 100000 in
set_option maxHeartbeats 2000000 in
theorem first_any (C P : List Int) (hC : ClsB C) (hm : P.length ≤ 1000000000000) (hP : ∀ x ∈ P, 0 ≤ x ∧ x < C.length) (outer opener level : Int) (b1 : Nat) (pv : Value) (ob : Option Addr) (capb : Nat) (w : World) (h1 : w.ownsRow b1 3 1 pv P.length (flatJ P)) (h2 : RdA w ob C) :
    Calls Tryd.prog 37 #[.agg #[pv, .int .i64 outer, .int .i64 opener, .int .i64 level], .slice ob C.length capb] w fun e w' => e = .returned (.int .i64 (fstS C P)) ∧ Below w.heap.size w w' := by
  obtain ⟨n, hn'⟩ : ∃ n, C.length = n := ⟨_, rfl⟩
  obtain ⟨m, hm'⟩ : ∃ m, P.length = m := ⟨_, rfl⟩
  rw [hn'] at hP ⊢
  rw [hm'] at hm h1
  have HN := hideB hn'
  have HM := hideB hm'
  obtain ⟨oa, cap, rfl⟩ : ∃ oa cap, pv = .slice oa m cap := by
    rcases own_formB h1 with ⟨rfl, rfl⟩ | ⟨g, cap, rfl⟩
    · exact ⟨none, 0, rfl⟩
    · exact ⟨_, cap, rfl⟩
  obtain ⟨PO, hPO⟩ : ∃ PO : Ending → World → Prop, (fun e w' => e = .returned (.int .i64 (fstS C P)) ∧ Below w.heap.size w w') = PO := ⟨_, rfl⟩
  have HP := hideB hPO
  rw [hPO]
  clear hPO
  have HCl := hideB hC
  have HPl := hideB hP
  have H1 := hideB h1
  have H2 := hideB h2
  clear hn' hm' hC hP h1 h2
  go_enter Tryd.func37, Tryd.ntmps37
  go_upto_region 1 with fail
  obtain ⟨V, hV⟩ : ∃ V, w.alloc (.cells #[.slice oa m cap, .int .i64 outer, .int .i64 opener, .int .i64 level] 51) = V := ⟨_, rfl⟩
  have hbx : V.heap[w.heap.size]? = some (.cells #[.slice oa m cap, .int .i64 outer, .int .i64 opener, .int .i64 level] 51) := by rw [← hV]; exact World.alloc_heap_new _ _
  have HV : Hid (Below w.heap.size w V ∧ V.ownsRow b1 3 1 (.slice oa m cap) m (flatJ P) ∧ RdA V ob C) := hideB (by
    rw [← hV]
    exact ⟨bel1B _ _, own_keepB H1.out (bel1B _ _), H2.out.keep (bel1B _ _)⟩)
  rw [hV]
  clear hV H1 H2
  have c0 : V.cell? ⟨w.heap.size, 0, none⟩ = some (.slice oa m cap) := by simp [World.cell?, hbx]
  clear hbx
  go_wp2_with fail
  clear c0
  go_loopw [10] (fun iv wq => ∃ i : Nat, iv = .int .i64 (i : Nat) ∧ i ≤ m ∧ wq = V ∧ Hid (fstS C (P.drop i) = fstS C P)) (fun iv _ => m - (intOf iv).toNat)
  case atStart => exact ⟨0, rfl, Nat.zero_le _, rfl, hideB rfl⟩
  case round =>
    obtain ⟨i, rfl, him, hw, HF⟩ := hrel
    subst hw
    by_cases hlt : i < m
    · obtain ⟨o1, o2, o3⟩ := HV.out
      obtain ⟨ga, capa2, e2⟩ : ∃ g cap2, Value.slice oa m cap = .slice (some ⟨g, 0, none⟩) m cap2 := by
        rcases own_formB o2 with ⟨e, _⟩ | ⟨g, cap, e⟩
        · omega
        · exact ⟨g, cap, e⟩
      cases e2
      obtain ⟨x, hx⟩ : ∃ x, P[i]? = some x := ⟨_, List.getElem?_eq_getElem (by rw [HM.out]; omega)⟩
      have hxb := HPl.out x (List.mem_of_getElem? hx)
      obtain ⟨y, rfl⟩ : ∃ y : Nat, x = (y : Int) := ⟨x.toNat, by omega⟩
      have hyn : y < n := by omega
      obtain ⟨z, hz⟩ : ∃ z, C[y]? = some z := ⟨_, List.getElem?_eq_getElem (by rw [HN.out]; omega)⟩
      have hzb := HCl.out z (List.mem_of_getElem? hz)
      obtain ⟨c, rfl⟩ : ∃ c : Nat, z = (c : Int) := ⟨z.toNat, by omega⟩
      have k1 := o2.cellAt i (by omega)
      rw [flatJ_get hx] at k1
      obtain ⟨gb, offb, rfl, k2⟩ := o3 y _ hz
      have HC := hideB (fun (W : World) => has_any 180224 c (by omega) (by omega) W)
      have HD := hideB (fstS_drop hx hz)
      obtain ⟨t, ht⟩ : ∃ t, (180224 : Nat).testBit c = t := ⟨_, rfl⟩
      rw [ht] at HC HD
      have di : (i : Int) < (m : Int) := by omega
      have dy : (y : Int) < (n : Int) := by omega
      have wk : IntKind.i64.wrap ((i : Int) + 1) = ((i + 1 : Nat) : Int) := by rw [show ((i + 1 : Nat) : Int) = (i : Int) + 1 by omega]; exact IntWalk.i64_in _ ⟨by omega, by omega⟩
      clear o1 o2 o3 hx hxb hz hzb ht
      go_wp2_with fail
      refine (HC.out _).mono ?_
      rintro e v5 ⟨rfl, rfl⟩
      clear HC
      cases t with
      | true =>
        have HR : Hid (PO (.returned (.int .i64 (c : Int))) v5) := hideB (by
          rw [← HP.out]
          refine ⟨?_, HV.out.1⟩
          have h9 := HD.out
          rw [if_pos (by simp), HF.out] at h9
          rw [h9])
        go_wp2_with fail
        first | exact HR.out | (trace_state; go_ret; exact HR.out)
      | false =>
        have HF2 : Hid (fstS C (P.drop (i + 1)) = fstS C P) := hideB (by
          have h9 := HD.out
          rw [if_neg (by simp), HF.out] at h9
          exact h9.symm)
        go_wp2_with fail
        go_roundw
        case rel => exact ⟨i + 1, by first | rfl | simp, by omega, by first | rfl | trivial, HF2⟩
        case measure => simp [intOf]; omega
    · obtain rfl : i = m := by omega
      have d2 : ¬ (i : Int) < (i : Int) := by omega
      have HR : Hid (PO (.returned (.int .i64 0)) wr) := hideB (by
        rw [← HP.out]
        refine ⟨?_, HV.out.1⟩
        rw [← HF.out, List.drop_eq_nil_of_le (by rw [HM.out]; exact Nat.le_refl _)]
        rfl)
      go_wp2_with fail
      first | exact HR.out | (trace_state; go_ret; exact HR.out)
/-- Does what an isolate's opener asks for go to the left? -/
def goesS (C P : List Int) (opener : Int) : Bool := if opener = 11 then (fstS C P == 15 || fstS C P == 14) else opener == 10
set_option maxRecDepth 100000 in
set_option maxHeartbeats 2000000 in
theorem goes_any (C P : List Int) (hC : ClsB C) (hm : P.length ≤ 1000000000000) (hP : ∀ x ∈ P, 0 ≤ x ∧ x < C.length) (outer opener level : Int) (b1 : Nat) (pv : Value) (ob : Option Addr) (capb : Nat) (w : World) (h1 : w.ownsRow b1 3 1 pv P.length (flatJ P)) (h2 : RdA w ob C) :
    Calls Tryd.prog 21 #[.agg #[pv, .int .i64 outer, .int .i64 opener, .int .i64 level], .slice ob C.length capb] w fun e w' => e = .returned (.bool (goesS C P opener)) ∧ Below w.heap.size w w' := by
  obtain ⟨m, hm'⟩ : ∃ m, P.length = m := ⟨_, rfl⟩
  obtain ⟨oa, cap, rfl⟩ : ∃ oa cap, pv = .slice oa m cap := by
    rcases own_formB h1 with ⟨e, rfl⟩ | ⟨g, cap, rfl⟩
    · exact ⟨none, 0, by rw [← hm', e]⟩
    · exact ⟨_, cap, by rw [hm']⟩
  obtain ⟨PO, hPO⟩ : ∃ PO : Ending → World → Prop, (fun e w' => e = .returned (.bool (goesS C P opener)) ∧ Below w.heap.size w w') = PO := ⟨_, rfl⟩
  have HP := hideB hPO
  rw [hPO]
  clear hPO
  obtain ⟨V, hV⟩ : ∃ V, w.alloc (.cells #[.slice oa m cap, .int .i64 outer, .int .i64 opener, .int .i64 level] 51) = V := ⟨_, rfl⟩
  have hbx : V.heap[w.heap.size]? = some (.cells #[.slice oa m cap, .int .i64 outer, .int .i64 opener, .int .i64 level] 51) := by rw [← hV]; exact World.alloc_heap_new _ _
  have HB : Hid (Below w.heap.size w V) := hideB (by rw [← hV]; exact bel1B _ _)
  have HF := hideB (first_any C P hC hm hP outer opener level b1 (.slice oa m cap) ob capb V (by rw [← hV]; exact own_keepB h1 (bel1B _ _)) (by rw [← hV]; exact h2.keep (bel1B _ _)))
  have c0 : V.cell? ⟨w.heap.size, 0, none⟩ = some (.slice oa m cap) := by simp [World.cell?, hbx]
  have c1 : V.cell? ⟨w.heap.size, 1, none⟩ = some (.int .i64 outer) := by simp [World.cell?, hbx]
  have c2 : V.cell? ⟨w.heap.size, 2, none⟩ = some (.int .i64 opener) := by simp [World.cell?, hbx]
  have c3 : V.cell? ⟨w.heap.size, 3, none⟩ = some (.int .i64 level) := by simp [World.cell?, hbx]
  have hz : w.heap.size < V.heap.size := (Array.getElem?_eq_some_iff.1 hbx).1
  have HV := hideB hV
  clear hbx hC hP h1 h2 hm hm' hV
  obtain ⟨f, hf⟩ : ∃ f, fstS C P = f := ⟨_, rfl⟩
  have Hf := hideB hf
  rw [hf] at HF
  clear hf
  go_enter Tryd.func21, Tryd.ntmps21
  go_upto_region 1 with fail
  rw [HV.out]
  by_cases ho : opener = 11
  · subst ho
    go_wp2_with fail
    refine HF.out.mono ?_
    rintro e w5 ⟨rfl, hb5⟩
    have HR : Hid (PO (.returned (.bool (f == 15 || f == 14))) w5) := hideB (by
      rw [← HP.out]
      refine ⟨?_, bupB HB.out hb5⟩
      unfold goesS
      rw [if_pos rfl, Hf.out])
    clear HF c0 c1 c2 c3 hb5
    by_cases h15 : f = 15
    · subst h15
      have HR2 : Hid (PO (.returned (.bool true)) w5) := HR
      clear HR
      go_wp2_with fail
      first | exact HR2.out | (go_ret; exact HR2.out)
    · have b15 : (f == 15) = false := by simp [h15]
      rw [b15, Bool.false_or] at HR
      go_wp2_with fail
      first | exact HR.out | (go_ret; exact HR.out)
  · have bo : (opener == 11) = false := by simp [ho]
    have HR : Hid (PO (.returned (.bool (opener == 10))) V) := hideB (by
      rw [← HP.out]
      refine ⟨?_, HB.out⟩
      unfold goesS
      rw [if_neg ho])
    clear HF
    go_wp2_with fail
    first | exact HR.out | (go_ret; exact HR.out)
end Go.Proofs.YtbehlaclffjkbaaDoor
