/- bidi: rule 1 (chapter 4). -/
import Derived.Test.YtbehlaclffjkbaaDoorBdJ
namespace Go.Proofs.YtbehlaclffjkbaaDoor
open Go.RowKit Go.Shelf

/-- Rule 1: a mark takes the class ahead; that of an isolate's sign is another neutral. -/
def nmF (p c : Int) : Int := if c = 13 then (if (7680 : Nat).testBit p.toNat = true then 16 else p) else c
theorem nmF_in (p c : Int) (hp : 1 ≤ p ∧ p ≤ 17) (hc : 1 ≤ c ∧ c ≤ 17) : 1 ≤ nmF p c ∧ nmF p c ≤ 17 := by
  unfold nmF
  split
  · split
    · omega
    · exact hp
  · exact hc
theorem RlP.put2 {f : Int → Int → Int} {K : Nat} {C : List Int} {base : Nat} {g n cap : Nat} (hn : C.length = n) {side : Int} {w : World} {i m : Nat} {W : World} (hg : g < w.heap.size) {c : Int} (hc : C[i]? = some c) (y : Int) {x : Int} (hx : f (lastC K side (runJ f K side (C.take i))) c = x) (h : RlP f K C base (.slice (some ⟨g, 0, none⟩) n cap) side w w.heap.size i m W) :
    RlP f K C base (.slice (some ⟨g, 0, none⟩) n cap) side w w.heap.size (i + 1) m ((W.setCell ⟨g, i, none⟩ (.int .i64 y)).setCell ⟨g, i, none⟩ (.int .i64 x)) := by
  have o : ∀ (k : Nat), k ≠ g → ((W.setCell ⟨g, i, none⟩ (.int .i64 y)).setCell ⟨g, i, none⟩ (.int .i64 x)).heap[k]? = W.heap[k]? := fun k hk => (Below.heap_setCell _ ⟨g, i, none⟩ _ k hk).trans (Below.heap_setCell W ⟨g, i, none⟩ _ k hk)
  obtain ⟨h0, h1, h2, h3⟩ := h.ah
  refine ⟨?_, (o _ (by omega)).trans h.box, ?_, (h.but.setCell (p := ⟨g, i, none⟩) rfl _).setCell (p := ⟨g, i, none⟩) rfl _, by have := h.le; omega⟩
  · rw [curJ_step f K side C i hc, hx, flatJ_set]
    have ho := h.own
    rw [hn] at ho ⊢
    have h2 := ((ho.stored i (.int .i64 y)).1.stored i (.int .i64 x)).1
    rwa [List.set_set] at h2
  · rw [curJ_pre f K side C i m h.le hc]
    exact ⟨(o _ (by omega)).trans h0, (o _ (by omega)).trans h1, (o _ (by omega)).trans h2, (o _ (by omega)).trans h3⟩
theorem RlP.drew {f : Int → Int → Int} {K : Nat} {C : List Int} {base : Nat} {v : Value} {side : Int} {w : World} {D i m : Nat} {W : World} (h : RlP f K C base v side w D i m W) : RlP f K C base v side w D i m W.drew :=
  ⟨h.own, h.box, ⟨h.ah.rw_, h.ah.kd, h.ah.la, h.ah.ne⟩, ⟨h.but.os, h.but.tape, h.but.output, h.but.size, h.but.same⟩, h.le⟩
set_option maxRecDepth 100000 in
set_option maxHeartbeats 2000000 in
theorem marks_any (C : List Int) (hC : ClsB C) (side : Int) (hs : 1 ≤ side ∧ side ≤ 17) (hn : C.length ≤ 1000000000000) (base : Nat) (v : Value) (w : World) (h : w.ownsRow base 3 1 v C.length (flatJ C)) :
    Calls Tryd.prog 67 #[.agg #[v, .int .i64 side]] w fun e w' => (∃ u, e = .returned u) ∧ w'.ownsRow base 3 1 v C.length (flatJ (runJ (nmF) 262143 side C)) ∧ But (fun k => v.ownBlock = some k) w w' := by
  obtain ⟨n, hn'⟩ : ∃ n, C.length = n := ⟨_, rfl⟩
  have HN := hideB hn'
  obtain ⟨oa, cap, rfl⟩ : ∃ oa cap, v = .slice oa n cap := by
    rcases own_formB h with ⟨e, rfl⟩ | ⟨g, cap, rfl⟩
    · exact ⟨none, 0, by rw [← hn', e]⟩
    · exact ⟨_, cap, by rw [hn']⟩
  obtain ⟨PO, hPO⟩ : ∃ PO : Ending → World → Prop, (fun e w' => (∃ u, e = .returned u) ∧ w'.ownsRow base 3 1 (.slice oa n cap) C.length (flatJ (runJ (nmF) 262143 side C)) ∧ But (fun k => (Value.slice oa n cap).ownBlock = some k) w w') = PO := ⟨_, rfl⟩
  have HP := hideB hPO
  rw [hPO]
  clear hPO
  have HH := hideB h
  have HCl := hideB hC
  have HNn := hideB hn
  rw [hn'] at hn
  clear hn' h hC
  go_enter Tryd.func67, Tryd.ntmps67
  go_upto_region 1 with fail
  obtain ⟨V, hV⟩ : ∃ V, w.alloc (.cells #[.slice oa n cap, .int .i64 side] 80) = V := ⟨_, rfl⟩
  have HV : Hid (Below w.heap.size w V ∧ V.heap.size = w.heap.size + 1 ∧ V.heap[w.heap.size]? = some (.cells #[.slice oa n cap, .int .i64 side] 80)) := hideB (by
    rw [← hV]
    exact ⟨bel1B _ _, World.size_alloc _ _, World.alloc_heap_new _ _⟩)
  rw [hV]
  have cb : V.cell? ⟨w.heap.size, 0, none⟩ = some (.slice oa n cap) := by simp [World.cell?, HV.out.2.2]
  have cb1 : V.cell? ⟨w.heap.size, 1, none⟩ = some (.int .i64 side) := by simp [World.cell?, HV.out.2.2]
  clear hV
  have HDg : Hid (∀ k, (Value.slice oa n cap).ownBlock = some k → k < w.heap.size) := hideB (fun k hk => (HH.out.lt k hk).2)
  go_upto_region 2 with first
    | (go_at_call 81; (with_reducible refine Calls.mono (ahead_mk _ side 262143 _) ?_); rintro e v5 ⟨rfl, hA5, hB5⟩)
  have hR : RlP (nmF) 262143 C base (.slice oa n cap) side w w.heap.size 0 0 v5 := by
    have hb : Below w.heap.size w v5 := bupB HV.out.1 hB5
    rw [HV.out.2.1] at hA5
    refine ⟨?_, (hB5.block _ (by rw [HV.out.2.1]; omega)).trans HV.out.2.2, ?_, But.of_below hb (fun k hk e => by omega), Nat.le_refl _⟩
    · exact own_keepB HH.out hb
    · exact hA5
  rw [HV.out.2.1]
  unfold ahV
  clear cb cb1 hA5 hB5 HV HH
  have HR0 := hideB hR
  have c0 := hR.cell
  clear hR
  go_wp2_with fail
  clear c0
  go_loopw [10] (fun iv wq => ∃ i m : Nat, iv = .int .i64 (i : Nat) ∧ i ≤ n ∧ RlP (nmF) 262143 C base (.slice oa n cap) side w w.heap.size i m wq) (fun iv _ => n - (intOf iv).toNat)
  case atStart => exact ⟨0, 0, rfl, Nat.zero_le _, HR0.out⟩
  case round =>
    obtain ⟨i, m, rfl, hin, hR⟩ := hrel
    obtain ⟨wq, rfl⟩ : ∃ wq, wq = wr := ⟨_, rfl⟩
    by_cases hlt : i < n
    · obtain ⟨g, cap2, e2⟩ : ∃ g cap2, Value.slice oa n cap = .slice (some ⟨g, 0, none⟩) n cap2 := by
        rcases own_formB hR.own with ⟨e, _⟩ | ⟨g, cap, e⟩
        · have := HN.out; omega
        · exact ⟨g, cap, by rw [HN.out] at e; exact e⟩
      cases e2
      obtain ⟨x, hx⟩ : ∃ x, C[i]? = some x := ⟨_, List.getElem?_eq_getElem (by rw [HN.out]; omega)⟩
      have k1 := (hR.get HN.out hx).1
      have di : (i : Int) < (n : Int) := by omega
      have wk : IntKind.i64.wrap ((i : Int) + 1) = ((i + 1 : Nat) : Int) := by rw [show ((i + 1 : Nat) : Int) = (i : Int) + 1 by omega]; exact IntWalk.i64_in _ ⟨by omega, by omega⟩
      have HX := hideB hx
      have HR := hideB hR
      clear hR hx
      go_upto_region 5 with fail
      clear k1
      by_cases hx4 : x = 13
      · subst hx4
        have c0 := HR.out.cell
        have hne : ¬ w.heap.size = g := fun e => by have := HDg.out g rfl; omega
        go_upto_region 6 with fail
        have HRd := hideB HR.out.drew
        have cd : wq.drew.cell? ⟨w.heap.size, 0, none⟩ = some (.slice (some ⟨g, 0, none⟩) n cap) := c0
        clear HR c0
        go_region_held3 (fun w' => w'.cell? ⟨w.heap.size, 0, none⟩ = some (.slice (some ⟨g, 0, none⟩) n cap)) (first | assumption | (rw [World.cell?_setCell_far _ _ _ _ (fun e => hne e.symm)]; assumption)) (first
          | ((with_reducible refine Calls.mono (RlP.ask nmF_in (by omega) HCl.out HNn.out hs HDg.out (by rw [HN.out]; exact hin) HRd.out) ?_); rintro e w2 ⟨rfl, hR2⟩; have c2 := hR2.cell; have f2 := (hR2.get HN.out HX.out).2; have k2 := (hR2.get HN.out HX.out).1; have HR2 := hideB hR2; clear hR2))
        obtain ⟨q, hq⟩ : ∃ q, lastC 262143 side (runJ nmF 262143 side (C.take i)) = q := ⟨_, rfl⟩
        have hqb : 1 ≤ q ∧ q ≤ 17 := by
          rw [← hq]
          exact lastC_in hs (runJ_cls nmF_in hs (fun c hc => HCl.out c (List.mem_of_mem_take hc)))
        have HQ := hideB hq
        rw [hq]
        obtain ⟨y, rfl⟩ : ∃ y : Nat, q = (y : Int) := ⟨q.toNat, by omega⟩
        have HC := hideB (fun (W : World) => has_any 7680 y (by omega) (by omega) W)
        obtain ⟨z, hz⟩ : ∃ z, (7680 : Nat).testBit y = z := ⟨_, rfl⟩
        have HZ := hideB hz
        rw [hz] at HC
        have HW : Hid (((w2.setCell ⟨g, i, none⟩ (.int .i64 (y : Int))).cell? ⟨g, i, none⟩ = some (.int .i64 (y : Int))) ∧ (w2.setCell ⟨g, i, none⟩ (.int .i64 (y : Int))).frozen? ⟨g, i, none⟩ = false) := hideB (by
          have ho := HR2.out.own
          rw [HN.out] at ho
          have h2 := (ho.stored i (.int .i64 (y : Int))).1
          have h3 := h2.cellAt i (by omega)
          rw [List.getElem?_set_self (by rw [flatJ_len, curJ_len, HN.out]; exact hlt)] at h3
          exact ⟨h3, h2.frozenAt i⟩)
        have cX : (w2.setCell ⟨g, i, none⟩ (.int .i64 (y : Int))).cell? ⟨w.heap.size, 0, none⟩ = some (.slice (some ⟨g, 0, none⟩) n cap) := by rw [World.cell?_setCell_far _ _ _ _ (fun e => hne e.symm)]; exact c2
        obtain ⟨X, hX⟩ : ∃ X, w2.setCell ⟨g, i, none⟩ (.int .i64 (y : Int)) = X := ⟨_, rfl⟩
        have HXe := hideB hX
        rw [hX] at HW cX ⊢
        have kX := HW.out.1
        have fX := HW.out.2
        clear hX hz hq c2 f2 k2 HRd cd hqb
        cases z with
        | true =>
          have HR3 := hideB (HR2.out.put2 HN.out (HDg.out g rfl) HX.out (y : Int) (x := 16) (by rw [HQ.out]; unfold nmF; rw [if_pos rfl, Int.toNat_natCast, HZ.out]; rfl))
          rw [HXe.out] at HR3
          clear HR2
          go_wp2_with fail
          refine (HC.out X).mono ?_
          rintro e w3 ⟨rfl, rfl⟩
          clear HC
          go_wp2_with fail
          go_roundw
          case rel => exact ⟨i + 1, i, by first | rfl | simp, by omega, HR3.out⟩
          case measure => simp [intOf]; omega
        | false =>
          have HR3 := hideB (HR2.out.put HN.out (HDg.out g rfl) HX.out (x := (y : Int)) (by rw [HQ.out]; unfold nmF; rw [if_pos rfl, Int.toNat_natCast, HZ.out]; rfl))
          rw [HXe.out] at HR3
          clear HR2
          go_wp2_with fail
          refine (HC.out X).mono ?_
          rintro e w3 ⟨rfl, rfl⟩
          clear HC
          go_wp2_with fail
          go_roundw
          case rel => exact ⟨i + 1, i, by first | rfl | simp, by omega, HR3.out⟩
          case measure => simp [intOf]; omega
      · have b4 : (x == 13) = false := by simp [hx4]
        have HR3 := hideB (HR.out.skip HX.out (by unfold nmF; rw [if_neg (by intro e; exact hx4 e)]))
        clear HR
        go_wp2_with fail
        go_roundw
        case rel => exact ⟨i + 1, m, by first | rfl | simp, by omega, HR3.out⟩
        case measure => simp [intOf]; omega
    · obtain rfl : i = n := by omega
      have d2 : ¬ (i : Int) < (i : Int) := by omega
      have hres : ∀ u, PO (.returned u) wq := fun u => by
        have ho := hR.own
        unfold curJ at ho
        rw [List.take_of_length_le (by rw [HN.out]; exact Nat.le_refl _), List.drop_eq_nil_of_le (by rw [HN.out]; exact Nat.le_refl _), List.append_nil] at ho
        rw [← HP.out]
        exact ⟨⟨u, rfl⟩, ho, hR.but⟩
      have HR := hideB hres
      clear hR hres
      go_wp2_with fail
      first | exact HR.out _ | (refine bodyPost_ret (v := .tuple #[]) (by simp [results, Tryd.results67, go_sem]) rfl ?_; exact HR.out _)
end Go.Proofs.YtbehlaclffjkbaaDoor
