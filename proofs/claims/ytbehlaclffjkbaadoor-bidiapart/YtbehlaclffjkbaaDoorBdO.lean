/- bidi: rule 5 (chapter 4). -/
import Derived.Test.YtbehlaclffjkbaaDoorBdN
namespace Go.Proofs.YtbehlaclffjkbaaDoor
open Go.RowKit Go.Shelf
attribute [local go_sem] Oper.semAt_some

theorem lastE_cons (y : Nat × Nat) (pre : List (Nat × Nat)) : lastE (y :: pre) = if pre = [] then y.2 else lastE pre := by
  unfold lastE
  cases pre with
  | nil => rfl
  | cons a r => rw [List.getLast?_cons_cons, if_neg (by simp)]
/-- The stretches rise, and lie in the list. -/
theorem str_pre (p : Int → Bool) (C : List Int) : ∀ (f i : Nat) (pre : List (Nat × Nat)) (x : Nat × Nat), pre ++ [x] <+: strF p C f i → i ≤ x.1 ∧ x.1 < x.2 ∧ x.2 ≤ C.length ∧ (pre ≠ [] → lastE pre ≤ x.1)
  | 0, i, pre, x, h => by
    have := h.length_le
    simp [strF] at this
  | f + 1, i, pre, x, h => by
    rw [strF] at h
    split at h
    · rename_i hi
      have hge := endAt_ge p C i
      have hle := endAt_le p C i (by omega)
      split at h
      · rename_i hj
        cases pre with
        | nil =>
          obtain ⟨r, hr⟩ := h
          have hx : x = (i, endAt p C i) := by simpa using congrArg List.head? hr
          subst hx
          exact ⟨Nat.le_refl _, hj, hle, fun e => absurd rfl e⟩
        | cons y pre =>
          have hc : y = (i, endAt p C i) ∧ pre ++ [x] <+: strF p C f (endAt p C i + 1) := by
            have := List.cons_prefix_cons.1 (show y :: (pre ++ [x]) <+: (i, endAt p C i) :: strF p C f (endAt p C i + 1) from h)
            exact this
          obtain ⟨hy, h2⟩ := hc
          obtain ⟨a, b, c, d⟩ := str_pre p C f _ pre x h2
          refine ⟨by omega, b, c, fun _ => ?_⟩
          rw [lastE_cons, hy]
          split
          · show endAt p C i ≤ _
            omega
          · rename_i hn
            exact d hn
      · obtain ⟨a, b, c, d⟩ := str_pre p C f _ pre x (by simpa using h)
        exact ⟨by omega, b, c, d⟩
    · have := h.length_le
      simp at this
theorem str_last (p : Int → Bool) (C : List Int) {f i : Nat} {pre : List (Nat × Nat)} {x : Nat × Nat} (h : pre ++ [x] <+: strF p C f i) : lastE pre ≤ x.1 ∧ x.1 < x.2 ∧ x.2 ≤ C.length := by
  obtain ⟨_, b, c, d⟩ := str_pre p C f i pre x h
  refine ⟨?_, b, c⟩
  cases pre with
  | nil => exact Nat.zero_le _
  | cons y r => exact d (by simp)
theorem RsP.butN {L : List Int} {n base : Nat} {v : Value} {side : Int} {w : World} {D : Nat} {W X : World} {N : Nat → Prop} (h : RsP L n base v side w D W) (hb : But N W X) (hg : ∀ k, v.ownBlock = some k → k < w.heap.size) (hN : ∀ k, N k → w.heap.size ≤ k ∧ k ≠ D) : RsP L n base v side w D X :=
  ⟨own_butB h.own hb (fun k hk e => by have := hg k hk; have := hN k e; omega), h.len, (hb.same _ (Array.getElem?_eq_some_iff.1 h.box).1 (fun e => (hN D e).2 rfl)).trans h.box, h.but.newer hb (fun j e => (hN j e).1)⟩
theorem RsP.fill {L : List Int} {n base : Nat} {v : Value} {side : Int} {w : World} {D : Nat} {W : World} (h : RsP L n base v side w D W) (hn : n ≤ 1000000000000) (hg : ∀ k, v.ownBlock = some k → k < D) (a b : Nat) (hab : a ≤ b) (hb : b ≤ n) (c : Int) :
    Calls Tryd.prog 83 #[.agg #[v, .int .i64 side], .int .i64 (a : Nat), .int .i64 (b : Nat), .int .i64 c] W fun e w' => (∃ u, e = .returned u) ∧ RsP (fillC L a b c) n base v side w D w' ∧ But (fun k => v.ownBlock = some k) W w' := by
  have hl := h.len
  refine (fill_any L side c a b hab (by omega) (by omega) base v W (by rw [hl]; exact h.own)).mono ?_
  rintro e w' ⟨he, h1, h2⟩
  rw [hl] at h1
  exact ⟨he, ⟨h1, by rw [fillC_len]; exact hl, (h2.same _ (Array.getElem?_eq_some_iff.1 h.box).1 (fun e => by have := hg D e; omega)).trans h.box, h.but.trans h2⟩, h2⟩
theorem RsP.atB {L : List Int} {n base : Nat} {v : Value} {side : Int} {w : World} {D : Nat} {W : World} (h : RsP L n base v side w D W) (hn : n ≤ 1000000000000) (i : Int) (hi : -1 ≤ i ∧ i ≤ n) :
    Calls Tryd.prog 82 #[.agg #[v, .int .i64 side], .int .i64 i] W fun e w' => e = .returned (.int .i64 (atC L side i)) ∧ RsP L n base v side w D w' ∧ Below W.heap.size W w' := by
  have hl := h.len
  refine (at_any L side i (by rw [hl]; exact hi) (by omega) base v W (by rw [hl]; exact h.own)).mono ?_
  rintro e w' ⟨rfl, hb⟩
  exact ⟨rfl, h.below hb, hb⟩
theorem fillC_far {L : List Int} {a b k : Nat} {c : Int} (h : b ≤ k) : (fillC L a b c)[k]? = L[k]? := by
  unfold fillC
  rw [List.getElem?_mapIdx]
  cases L[k]? with
  | none => rfl
  | some x =>
    show some (if a ≤ k ∧ k < b then c else x) = some x
    rw [if_neg (by omega)]
/-- Rule 5 for one stretch. -/
def besS (side : Int) (L : List Int) (x : Nat × Nat) : List Int := if atC L side ((x.1 : Int) - 1) = 4 ∨ atC L side (x.2 : Int) = 4 then fillC L x.1 x.2 4 else L
def besN (side : Int) (C : List Int) : List Int := (strF (fun c => (128 : Nat).testBit c.toNat) C (C.length + 1) 0).foldl (besS side) C
/-- What stands while a rule goes over stretches. -/
structure StI (step : List Int → Nat × Nat → List Int) (C : List Int) (n base : Nat) (v fv : Value) (side : Int) (w : World) (D : Nat) (pre : List (Nat × Nat)) (W : World) : Prop where
  r : RsP (pre.foldl step C) n base v side w D W
  b1 : W.cell? ⟨D + 1, 0, none⟩ = some v
  b2 : W.cell? ⟨D + 1 + 1, 0, none⟩ = some fv
  far : ∀ k, lastE pre ≤ k → (pre.foldl step C)[k]? = C[k]?
theorem StI.good {step : List Int → Nat × Nat → List Int} {C : List Int} {n base : Nat} {v fv : Value} {side : Int} {w : World} {D : Nat} {pre : List (Nat × Nat)} {W : World} (h : StI step C n base v fv side w D pre W) : GoodS n base v (D + 1) (D + 1 + 1) fv C pre W :=
  ⟨_, h.r.own, h.r.len, h.far, h.b1, h.b2⟩
theorem StI.keep {step : List Int → Nat × Nat → List Int} {C : List Int} {n base : Nat} {v fv : Value} {side : Int} {w : World} {pre : List (Nat × Nat)} {W X : World} {N : Nat → Prop} (h : StI step C n base v fv side w w.heap.size pre W) (hb : But N W X) (hg : ∀ k, v.ownBlock = some k → k < w.heap.size) (hN : ∀ k, N k → w.heap.size + 1 + 1 < k) : StI step C n base v fv side w w.heap.size pre X :=
  ⟨h.r.butN hb hg (fun k e => by have := hN k e; omega), (World.cell?_of_block (hb.same _ (World.block_lt_of_cell? _ _ h.b1) (fun e => by have h9 : w.heap.size + 1 + 1 < w.heap.size + 1 := hN _ e; omega))).trans h.b1, (World.cell?_of_block (hb.same _ (World.block_lt_of_cell? _ _ h.b2) (fun e => by have h9 : w.heap.size + 1 + 1 < w.heap.size + 1 + 1 := hN _ e; omega))).trans h.b2, h.far⟩
theorem but_keeps {m b : Nat} {A B : World} (h : Keeps m b A B) : But (fun k => m ≤ k ∧ k < b) A B := ⟨h.os, h.tape, h.output, h.size, fun k hk hm => h.same k hk (by omega)⟩
set_option maxRecDepth 100000 in
set_option maxHeartbeats 4000000 in
theorem beside_any (C : List Int) (hC : ClsB C) (side : Int) (hn : C.length ≤ 1000000000000) (base : Nat) (v : Value) (w : World) (h : w.ownsRow base 3 1 v C.length (flatJ C)) :
    Calls Tryd.prog 71 #[.agg #[v, .int .i64 side]] w fun e w' => (∃ u, e = .returned u) ∧ w'.ownsRow base 3 1 v C.length (flatJ (besN side C)) ∧ But (fun k => v.ownBlock = some k) w w' := by
  obtain ⟨n, hn'⟩ : ∃ n, C.length = n := ⟨_, rfl⟩
  have HN := hideB hn'
  have HBn : Hid (besN side C = (strF (fun c => (128 : Nat).testBit c.toNat) C (n + 1) 0).foldl (besS side) C) := hideB (by rw [← hn']; rfl)
  rw [hn'] at hn h ⊢
  obtain ⟨oa, cap, rfl⟩ : ∃ oa cap, v = .slice oa n cap := by
    rcases own_formB h with ⟨rfl, rfl⟩ | ⟨g, cap, rfl⟩
    · exact ⟨none, 0, rfl⟩
    · exact ⟨_, cap, rfl⟩
  obtain ⟨PO, hPO⟩ : ∃ PO : Ending → World → Prop, (fun e w' => (∃ u, e = .returned u) ∧ w'.ownsRow base 3 1 (.slice oa n cap) n (flatJ (besN side C)) ∧ But (fun k => (Value.slice oa n cap).ownBlock = some k) w w') = PO := ⟨_, rfl⟩
  have HP := hideB hPO
  rw [hPO]
  clear hPO
  have HH := hideB (RsP.new (side := side) hn' h)
  have HDg : Hid (∀ k, (Value.slice oa n cap).ownBlock = some k → k < w.heap.size) := hideB (fun k hk => (h.lt k hk).2)
  have HCl := hideB hC
  clear hn' h hC
  refine (callsIn_wide (n := 9)).1 ?_
  refine callsIn_of_wp_marks Tryd.func71 rfl trivial ?_ rfl
  simp only [Tryd.ntmps71, List.size_toArray, List.length_cons, List.length_nil, Nat.reduceAdd, Nat.reduceSub, Array.replicate_succ, Array.replicate_zero, List.push_toArray, List.append_toArray, List.nil_append, List.cons_append]
  gi_upto_region 1 with fail
  obtain ⟨V0, hV0⟩ : ∃ V, w.alloc (.cells #[.slice oa n cap, .int .i64 side] 80) = V := ⟨_, rfl⟩
  have hz0 : V0.heap.size = w.heap.size + 1 := by rw [← hV0]; exact World.size_alloc _ _
  rw [hV0] at HH ⊢
  have c0 := HH.out.cell
  clear hV0
  gi_wp2_with (refine ⟨trivial, ?_⟩; gi_at_call 34; refine (callsIn_wide.2 (stretches_mk oa n cap _ _ _ _)).mono ?_; rintro e V ⟨rfl, hb1, hz1, k1, k2⟩)
  rw [hz0] at hb1 hz1 k1 k2
  have hI0 : StI (besS side) C n base (.slice oa n cap) (.func (.func 47) #[.int .u32 128] #[]) side w w.heap.size [] V :=
    ⟨HH.out.below (by rw [hz0]; exact hb1), k1, k2, fun _ _ => rfl⟩
  have HI0 := hideB hI0
  clear c0 k1 k2 hI0 hb1 HH
  refine rangeFunc_boxG (α := Nat × Nat) (by omega) (gf := 60) (lb := #[.pointer (some ⟨w.heap.size + 1, 0, none⟩), .pointer (some ⟨w.heap.size + 1 + 1, 0, none⟩)]) rfl (enters_of Tryd.func60 (by kernel_rfl) rfl)
    (strK_seq (9 - 1) (w.heap.size + 1) (w.heap.size + 1 + 1) (by omega) C HCl.out 128 (by omega) n HN.out hn base (.slice oa n cap) V) (fun _ => rfl)
    (fun k => (Value.slice oa n cap).ownBlock = some k) (fun k e => by have := HDg.out k e; exact ⟨by omega, trivial⟩)
    (fun pre W => StI (besS side) C n base (.slice oa n cap) (.func (.func 47) #[.int .u32 128] #[]) side w w.heap.size pre W) (fun _ _ _ h => h.good) (fun _ _ _ => False)
    (fun pre A B h hk => h.keep (but_keeps hk) HDg.out (fun k e => by omega)) (fun _ _ _ _ h _ => h) HI0.out ?round ?done ?stop
  case round =>
    rintro l pre x W K hl hlW hhi hlh hBW hip hpx hK
    obtain ⟨x1, x2⟩ := x
    obtain ⟨q1, q2, q3⟩ := str_last _ _ hpx
    have q1 : lastE pre ≤ x1 := q1
    have q2 : x1 < x2 := q2
    have q3 : x2 ≤ n := by have := HN.out; have : x2 ≤ C.length := q3; omega
    simp only [encS]
    gi_wp2
    refine hK _ _ (Below.refl _ W) (fun W2 hbo hzz hB2 hi2 => ?_)
    clear hK hip
    obtain ⟨L, hL⟩ : ∃ L, pre.foldl (besS side) C = L := ⟨_, rfl⟩
    have hR := hi2.r
    have hfar := hi2.far
    have hb1 := hi2.b1
    have hb2 := hi2.b2
    rw [hL] at hR hfar
    have HL : Hid ((pre ++ [(x1, x2)]).foldl (besS side) C = besS side L (x1, x2)) := hideB (by rw [List.foldl_append, hL]; rfl)
    have HFar := hideB hfar
    have HB := hideB (And.intro hb1 hb2)
    have c0 := hR.cell
    have c1 := hR.cell1
    have HR := hideB hR
    have wm : IntKind.i64.wrap ((x1 : Int) - 1) = (x1 : Int) - 1 := IntWalk.i64_in _ ⟨by omega, by omega⟩
    obtain ⟨a, ha⟩ : ∃ a, atC L side ((x1 : Int) - 1) = a := ⟨_, rfl⟩
    obtain ⟨b, hb⟩ : ∃ b, atC L side (x2 : Int) = b := ⟨_, rfl⟩
    have HA := hideB ha
    have HBb := hideB hb
    have HS : Hid (besS side L (x1, x2) = if a = 4 ∨ b = 4 then fillC L x1 x2 4 else L) := hideB (by rw [← ha, ← hb]; rfl)
    -- what a round leaves
    have HEnd : Hid (∀ (X : World) (L' : List Int), besS side L (x1, x2) = L' → (∀ k, x2 ≤ k → L'[k]? = L[k]?) → RsP L' n base (.slice oa n cap) side w w.heap.size X → But (fun k => (Value.slice oa n cap).ownBlock = some k) W2 X → But (fun k => (Value.slice oa n cap).ownBlock = some k ∨ V.heap.size + 2 + 0 ≤ k) W2 X ∧ StI (besS side) C n base (.slice oa n cap) (.func (.func 47) #[.int .u32 128] #[]) side w w.heap.size (pre ++ [(x1, x2)]) X) := hideB (fun X L' e1 e2 e3 e4 => by
      refine ⟨e4.mono (fun _ _ e => .inl e), ?_, ?_, ?_, ?_⟩
      · rw [HL.out, e1]; exact e3
      · exact (World.cell?_of_block (e4.same _ (World.block_lt_of_cell? _ _ HB.out.1) (fun e => by have h9 : w.heap.size + 1 < w.heap.size := HDg.out _ e; omega))).trans HB.out.1
      · exact (World.cell?_of_block (e4.same _ (World.block_lt_of_cell? _ _ HB.out.2) (fun e => by have h9 : w.heap.size + 1 + 1 < w.heap.size := HDg.out _ e; omega))).trans HB.out.2
      · intro k hk
        rw [lastE_snoc] at hk
        rw [HL.out, e1, e2 k hk]
        exact HFar.out k (Nat.le_trans q1 (Nat.le_trans (Nat.le_of_lt q2) hk)))
    clear hi2 hR hfar hb1 hb2 ha hb hL hpx hbo hzz hB2 hBW
    gi_wp2_with fail
    refine ⟨trivial, ?_⟩
    refine (callsIn_wide.2 (HR.out.atB hn ((x1 : Int) - 1) ⟨by omega, by omega⟩)).mono ?_
    rintro e w3 ⟨rfl, hR3, hb3⟩
    rw [HA.out]
    have c3 := hR3.cell
    have c4 := hR3.cell1
    have HR3 := hideB (And.intro hR3 (But.grown (M := fun k => (Value.slice oa n cap).ownBlock = some k) hb3))
    clear hR3 hb3 HR c0 c1
    by_cases ha : a = 4
    · subst ha
      gi_wp2_with fail
      refine ⟨trivial, ?_⟩
      gi_wp2_with fail
      refine ⟨trivial, ?_⟩
      refine (callsIn_wide.2 (HR3.out.1.fill hn (fun k hk => HDg.out k hk) x1 x2 (by omega) q3 4)).mono ?_
      rintro e w5 ⟨⟨u, rfl⟩, hR5, hB5⟩
      have HF := hideB (HEnd.out _ _ (HS.out.trans (if_pos (by simp))) (fun k hk => fillC_far hk) hR5 (HR3.out.2.trans hB5))
      clear hR5 hB5
      gi_wp2_with fail
      exact HF.out
    · have ba : (a == 4) = false := by simp [ha]
      gi_wp2_with fail
      refine ⟨trivial, ?_⟩
      refine (callsIn_wide.2 (HR3.out.1.atB hn (x2 : Int) ⟨by omega, by omega⟩)).mono ?_
      rintro e w4 ⟨rfl, hR4, hb4⟩
      rw [HBb.out]
      have c5 := hR4.cell
      have c6 := hR4.cell1
      have HR4 := hideB (And.intro hR4 (HR3.out.2.trans (But.grown (M := fun k => (Value.slice oa n cap).ownBlock = some k) hb4)))
      clear hR4 hb4 HR3 c3 c4
      by_cases hb : b = 4
      · subst hb
        gi_wp2_with fail
        refine ⟨trivial, ?_⟩
        refine (callsIn_wide.2 (HR4.out.1.fill hn (fun k hk => HDg.out k hk) x1 x2 (by omega) q3 4)).mono ?_
        rintro e w5 ⟨⟨u, rfl⟩, hR5, hB5⟩
        have HF := hideB (HEnd.out _ _ (HS.out.trans (if_pos (by simp))) (fun k hk => fillC_far hk) hR5 (HR4.out.2.trans hB5))
        clear hR5 hB5
        gi_wp2_with fail
        exact HF.out
      · have bb : (b == 4) = false := by simp [hb]
        have HF := hideB (HEnd.out _ _ (HS.out.trans (if_neg (by omega))) (fun _ _ => rfl) HR4.out.1 HR4.out.2)
        gi_wp2_with fail
        exact HF.out
  case done =>
    rintro D W hD hI hBW hK
    have hr := hI.r
    rw [← HBn.out] at hr
    have hres : ∀ u, PO (.returned u) (W.putObj D (.deferred none)) := fun u => by
      rw [← HP.out]
      refine ⟨⟨u, rfl⟩, ownsRow_putObjC (o' := .deferred none) hr.own hK, hr.but.newer (But.put (M := fun k => k = D) W D _ rfl) (fun j e => by omega)⟩
    have HRes := hideB hres
    clear hr hres hI hBW
    gi_wp2
    refine ⟨by simp, .inl ⟨_, _, rfl, run_takeDeferred hK, ?_⟩⟩
    refine ⟨.tuple #[], by simp [results, Tryd.f71, go_sem], HRes.out _⟩
  case stop => rintro D c pre W hD hpre h; exact h.elim
end Go.Proofs.YtbehlaclffjkbaaDoor
