/- bidi: rule 8's first part (chapter 4). -/
import Derived.Test.YtbehlaclffjkbaaDoorBdO
import Derived.Test.YtbehlaclffjkbaaDoorLawR
namespace Go.Proofs.YtbehlaclffjkbaaDoor
open Go.RowKit Go.Shelf
attribute [local go_sem] Oper.semAt_some

/-- A world that has grown out of another one. -/
structure GrownQ (W : World) where
  V : World
  h : Below W.heap.size W V
instance (W : World) : Nonempty (GrownQ W) := ⟨⟨W, Below.refl _ _⟩⟩
theorem region_grown_round {n : Nat} {P : Program} {id : Nat} {Q : Exit → Act → World → Prop} {a : Act} {w : World} {lst : List Oper} (W : World) (l : Nat) (hd : lst.all noDefer = true) (hm : P.follows .mixedOrders = true) (hB : Region.lexB .any lst.toArray = true) (hQ : ¬ LetsOut Q)
    (hb : Below W.heap.size W w) (h : wpQuiet P lst.toArray (fun V => ∃ q : GrownQ W, V = q.V) (fun a' => ∀ w', (∃ q : GrownQ W, w' = q.V) → Q .normal a' w') lst a) : (Code.region id lst.toArray true).wpIn (Fence.wide.inRound l) n P Q a w := by
  simp only [Region.lexB, Bool.and_eq_true] at hB
  refine wpIn_region_any hm (any_round (fun j o ho => ?_) _ _ _ _ (any_wide hQ _ _ _ _ (wpAny_of_quiet (C := fun V => ∃ q : GrownQ W, V = q.V) (Q := fun a' => ∀ w', (∃ q : GrownQ W, w' = q.V) → Q .normal a' w') (fun _ w' hw' h => h w' hw') _ _ _ _ ⟨⟨w.drewN 1, below_drewN hb 1⟩, rfl⟩ ?_)))
  · rw [List.all_eq_true] at hd
    rw [List.getElem?_toArray] at ho
    exact hd o (List.mem_of_getElem? ho)
  · have := wpAnyQ_lex (C := fun V => ∃ q : GrownQ W, V = q.V) (md := .any) hB.1 lst 0 (Array.replicate lst.toArray.size false) a (by simp) (by simpa using hB.2) h
    simpa using this
/-- Rule 8's first part for one stretch. -/
def neuS (side : Int) (L : List Int) (x : Nat × Nat) : List Int := if pullI (atC L side ((x.1 : Int) - 1)) = pullI (atC L side (x.2 : Int)) then fillC L x.1 x.2 (pullI (atC L side ((x.1 : Int) - 1))) else fillC L x.1 x.2 side
def neuN (side : Int) (C : List Int) : List Int := (strF (fun c => (73230 : Nat).testBit c.toNat) C (C.length + 1) 0).foldl (neuS side) C
set_option maxRecDepth 100000 in
set_option maxHeartbeats 4000000 in
theorem sides_any (C : List Int) (hC : ClsB C) (side : Int) (hn : C.length ≤ 1000000000000) (base : Nat) (v : Value) (w : World) (h : w.ownsRow base 3 1 v C.length (flatJ C)) :
    Calls Tryd.prog 73 #[.agg #[v, .int .i64 side]] w fun e w' => (∃ u, e = .returned u) ∧ w'.ownsRow base 3 1 v C.length (flatJ (neuN side C)) ∧ But (fun k => v.ownBlock = some k) w w' := by
  obtain ⟨n, hn'⟩ : ∃ n, C.length = n := ⟨_, rfl⟩
  have HN := hideB hn'
  have HBn : Hid (neuN side C = (strF (fun c => (73230 : Nat).testBit c.toNat) C (n + 1) 0).foldl (neuS side) C) := hideB (by rw [← hn']; rfl)
  rw [hn'] at hn h ⊢
  obtain ⟨oa, cap, rfl⟩ : ∃ oa cap, v = .slice oa n cap := by
    rcases own_formB h with ⟨rfl, rfl⟩ | ⟨g, cap, rfl⟩
    · exact ⟨none, 0, rfl⟩
    · exact ⟨_, cap, rfl⟩
  obtain ⟨PO, hPO⟩ : ∃ PO : Ending → World → Prop, (fun e w' => (∃ u, e = .returned u) ∧ w'.ownsRow base 3 1 (.slice oa n cap) n (flatJ (neuN side C)) ∧ But (fun k => (Value.slice oa n cap).ownBlock = some k) w w') = PO := ⟨_, rfl⟩
  have HP := hideB hPO
  rw [hPO]
  clear hPO
  have HH := hideB (RsP.new (side := side) hn' h)
  have HDg : Hid (∀ k, (Value.slice oa n cap).ownBlock = some k → k < w.heap.size) := hideB (fun k hk => (h.lt k hk).2)
  have HCl := hideB hC
  clear hn' h hC
  refine (callsIn_wide (n := 9)).1 ?_
  refine callsIn_of_wp_marks Tryd.func73 rfl trivial ?_ rfl
  simp only [Tryd.ntmps73, List.size_toArray, List.length_cons, List.length_nil, Nat.reduceAdd, Nat.reduceSub, Array.replicate_succ, Array.replicate_zero, List.push_toArray, List.append_toArray, List.nil_append, List.cons_append]
  gi_upto_region 1 with fail
  obtain ⟨V0, hV0⟩ : ∃ V, w.alloc (.cells #[.slice oa n cap, .int .i64 side] 80) = V := ⟨_, rfl⟩
  have hz0 : V0.heap.size = w.heap.size + 1 := by rw [← hV0]; exact World.size_alloc _ _
  rw [hV0] at HH ⊢
  have c0 := HH.out.cell
  clear hV0
  gi_wp2_with (refine ⟨trivial, ?_⟩; gi_at_call 34; refine (callsIn_wide.2 (stretches_mk oa n cap _ _ _ _)).mono ?_; rintro e V ⟨rfl, hb1, hz1, k1, k2⟩)
  rw [hz0] at hb1 hz1 k1 k2
  have hI0 : StI (neuS side) C n base (.slice oa n cap) (.func (.func 47) #[.int .u32 73230] #[]) side w w.heap.size [] V :=
    ⟨HH.out.below (by rw [hz0]; exact hb1), k1, k2, fun _ _ => rfl⟩
  have HI0 := hideB hI0
  clear c0 k1 k2 hI0 hb1 HH
  refine rangeFunc_boxG (α := Nat × Nat) (by omega) (gf := 60) (lb := #[.pointer (some ⟨w.heap.size + 1, 0, none⟩), .pointer (some ⟨w.heap.size + 1 + 1, 0, none⟩)]) rfl (enters_of Tryd.func60 (by kernel_rfl) rfl)
    (strK_seq (9 - 1) (w.heap.size + 1) (w.heap.size + 1 + 1) (by omega) C HCl.out 73230 (by omega) n HN.out hn base (.slice oa n cap) V) (fun _ => rfl)
    (fun k => (Value.slice oa n cap).ownBlock = some k) (fun k e => by have := HDg.out k e; exact ⟨by omega, trivial⟩)
    (fun pre W => StI (neuS side) C n base (.slice oa n cap) (.func (.func 47) #[.int .u32 73230] #[]) side w w.heap.size pre W) (fun _ _ _ h => h.good) (fun _ _ _ => False)
    (fun pre A B h hk => h.keep (but_keeps hk) HDg.out (fun k e => by omega)) (fun _ _ _ _ h _ => h) HI0.out ?round ?done ?stop
  case round =>
    rintro l pre x W K hl hlW hhi hlh hBW hip hpx hK
    obtain ⟨x1, x2⟩ := x
    obtain ⟨q1, q2, q3⟩ := str_last _ _ hpx
    have q1 : lastE pre ≤ x1 := q1
    have q2 : x1 < x2 := q2
    have q3 : x2 ≤ n := by have := HN.out; have : x2 ≤ C.length := q3; omega
    simp only [encS]
    gi_wp2
    refine hK _ _ (Below.refl _ W) (fun W2 hbo hzz hB2 hi2 => ?_)
    clear hK hip
    obtain ⟨L, hL⟩ : ∃ L, pre.foldl (neuS side) C = L := ⟨_, rfl⟩
    have hR := hi2.r
    have hfar := hi2.far
    have hb1 := hi2.b1
    have hb2 := hi2.b2
    rw [hL] at hR hfar
    have HL : Hid ((pre ++ [(x1, x2)]).foldl (neuS side) C = neuS side L (x1, x2)) := hideB (by rw [List.foldl_append, hL]; rfl)
    have HFar := hideB hfar
    have HB := hideB (And.intro hb1 hb2)
    have c0 := hR.cell
    have c1 := hR.cell1
    have HR := hideB hR
    have wm : IntKind.i64.wrap ((x1 : Int) - 1) = (x1 : Int) - 1 := IntWalk.i64_in _ ⟨by omega, by omega⟩
    obtain ⟨a, ha⟩ : ∃ a, atC L side ((x1 : Int) - 1) = a := ⟨_, rfl⟩
    obtain ⟨b, hb⟩ : ∃ b, atC L side (x2 : Int) = b := ⟨_, rfl⟩
    have HS : Hid (neuS side L (x1, x2) = if pullI a = pullI b then fillC L x1 x2 (pullI a) else fillC L x1 x2 side) := hideB (by rw [← ha, ← hb]; rfl)
    have HA : Hid (∀ q : GrownQ W2, Calls Tryd.prog 82 #[.agg #[.slice oa n cap, .int .i64 side], .int .i64 ((x1 : Int) - 1)] q.V fun e w' => e = .returned (.int .i64 a) ∧ Below q.V.heap.size q.V w') := hideB (fun q => by
      refine ((HR.out.below q.h).atB hn ((x1 : Int) - 1) ⟨by omega, by omega⟩).mono ?_
      rintro e w' ⟨rfl, _, h2⟩
      exact ⟨by rw [ha], h2⟩)
    have HBb : Hid (∀ q : GrownQ W2, Calls Tryd.prog 82 #[.agg #[.slice oa n cap, .int .i64 side], .int .i64 (x2 : Int)] q.V fun e w' => e = .returned (.int .i64 b) ∧ Below q.V.heap.size q.V w') := hideB (fun q => by
      refine ((HR.out.below q.h).atB hn (x2 : Int) ⟨by omega, by omega⟩).mono ?_
      rintro e w' ⟨rfl, _, h2⟩
      exact ⟨by rw [hb], h2⟩)
    have m0 : ∀ q : GrownQ W2, q.V.cell? ⟨w.heap.size, 0, none⟩ = some (.slice oa n cap) := fun q => (HR.out.below q.h).cell
    have m1 : ∀ q : GrownQ W2, q.V.cell? ⟨w.heap.size, 1, none⟩ = some (.int .i64 side) := fun q => (HR.out.below q.h).cell1
    -- what a round leaves
    have HEnd : Hid (∀ (X : World) (L' : List Int), neuS side L (x1, x2) = L' → (∀ k, x2 ≤ k → L'[k]? = L[k]?) → RsP L' n base (.slice oa n cap) side w w.heap.size X → But (fun k => (Value.slice oa n cap).ownBlock = some k) W2 X → But (fun k => (Value.slice oa n cap).ownBlock = some k ∨ V.heap.size + 2 + 0 ≤ k) W2 X ∧ StI (neuS side) C n base (.slice oa n cap) (.func (.func 47) #[.int .u32 73230] #[]) side w w.heap.size (pre ++ [(x1, x2)]) X) := hideB (fun X L' e1 e2 e3 e4 => by
      refine ⟨e4.mono (fun _ _ e => .inl e), ?_, ?_, ?_, ?_⟩
      · rw [HL.out, e1]; exact e3
      · exact (World.cell?_of_block (e4.same _ (World.block_lt_of_cell? _ _ HB.out.1) (fun e => by have h9 : w.heap.size + 1 < w.heap.size := HDg.out _ e; omega))).trans HB.out.1
      · exact (World.cell?_of_block (e4.same _ (World.block_lt_of_cell? _ _ HB.out.2) (fun e => by have h9 : w.heap.size + 1 + 1 < w.heap.size := HDg.out _ e; omega))).trans HB.out.2
      · intro k hk
        rw [lastE_snoc] at hk
        rw [HL.out, e1, e2 k hk]
        exact HFar.out k (Nat.le_trans q1 (Nat.le_trans (Nat.le_of_lt q2) hk)))
    clear hi2 hR hfar hb1 hb2 ha hb hL hpx hbo hzz hB2 hBW
    clear c0 c1
    gi_upto_region 4 with fail
    refine region_grown_round W2 l (by rfl) (by kernel_rfl) (by kernel_rfl) (fun ⟨_, _, h⟩ => h) (Below.refl _ _) ?_
    repeat (go_big_quiet_step (first
      | (rename_i q; (with_reducible refine (HA.out _).mono ?_); rintro e V1 ⟨rfl, h1⟩; exact ⟨rfl, ⟨V1, q.h.trans (h1.mono q.h.size)⟩, rfl⟩)
      | (rename_i q; (with_reducible refine (HBb.out _).mono ?_); rintro e V1 ⟨rfl, h1⟩; exact ⟨rfl, ⟨V1, q.h.trans (h1.mono q.h.size)⟩, rfl⟩)
      | (rename_i q; (with_reducible refine (pull_any _ _).mono ?_); rintro e V1 ⟨rfl, rfl⟩; exact ⟨rfl, q, rfl⟩)))
    refine wpQuiet_nil ?_
    rintro W9 ⟨⟨V9, hb9⟩, hv9⟩
    have hv9 : W9 = V9 := hv9
    subst hv9
    dsimp only [Exit.then]
    have hR3 := HR.out.below hb9
    have c3 := hR3.cell
    have c4 := hR3.cell1
    have HR3 := hideB (And.intro hR3 (But.grown (M := fun k => (Value.slice oa n cap).ownBlock = some k) hb9))
    clear hR3 hb9 hv9 m0 m1 HR HA HBb
    obtain ⟨pa, hpa⟩ : ∃ x, pullI a = x := ⟨_, rfl⟩
    obtain ⟨pb, hpb⟩ : ∃ x, pullI b = x := ⟨_, rfl⟩
    rw [hpa, hpb] at HS ⊢
    clear hpa hpb
    by_cases hab : pa = pb
    · subst hab
      gi_wp2_with fail
      refine ⟨trivial, ?_⟩
      refine (callsIn_wide.2 (HR3.out.1.fill hn (fun k hk => HDg.out k hk) x1 x2 (by omega) q3 pa)).mono ?_
      rintro e w5 ⟨⟨u, rfl⟩, hR5, hB5⟩
      have HF := hideB (HEnd.out _ _ (HS.out.trans (if_pos (by simp))) (fun k hk => fillC_far hk) hR5 (HR3.out.2.trans hB5))
      clear hR5 hB5
      gi_wp2_with fail
      exact HF.out
    · have bab : (pa == pb) = false := by simp [hab]
      gi_wp2_with fail
      refine ⟨trivial, ?_⟩
      refine (callsIn_wide.2 (HR3.out.1.fill hn (fun k hk => HDg.out k hk) x1 x2 (by omega) q3 side)).mono ?_
      rintro e w5 ⟨⟨u, rfl⟩, hR5, hB5⟩
      have HF := hideB (HEnd.out _ _ (HS.out.trans (if_neg (by simp [hab]))) (fun k hk => fillC_far hk) hR5 (HR3.out.2.trans hB5))
      clear hR5 hB5
      gi_wp2_with fail
      exact HF.out
  case done =>
    rintro D W hD hI hBW hK
    have hr := hI.r
    rw [← HBn.out] at hr
    have hres : ∀ u, PO (.returned u) (W.putObj D (.deferred none)) := fun u => by
      rw [← HP.out]
      refine ⟨⟨u, rfl⟩, ownsRow_putObjC (o' := .deferred none) hr.own hK, hr.but.newer (But.put (M := fun k => k = D) W D _ rfl) (fun j e => by omega)⟩
    have HRes := hideB hres
    clear hr hres hI hBW
    gi_wp2
    refine ⟨by simp, .inl ⟨_, _, rfl, run_takeDeferred hK, ?_⟩⟩
    refine ⟨.tuple #[], by simp [results, Tryd.f73, go_sem], HRes.out _⟩
  case stop => rintro D c pre W hD hpre h; exact h.elim
end Go.Proofs.YtbehlaclffjkbaaDoor
