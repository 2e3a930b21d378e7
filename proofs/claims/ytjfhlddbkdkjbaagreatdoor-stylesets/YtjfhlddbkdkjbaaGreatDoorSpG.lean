/- style.moved; slices.Grow, slices.Concat of two rows of spans (chapter 7). -/
import Derived.Test.YtjfhlddbkdkjbaaGreatDoorSpF
import Derived.Lib.AppendZerosOnto
import Derived.Laws.AppendOwnNone
namespace Go.Proofs.YtjfhlddbkdkjbaaGreatDoor
open Go.RowKit Go.Shelf
attribute [local go_sem] Oper.semAt_some

/-- A span, by as many signs behind. -/
def mvS (by_ : Int) (x : Sp) : Sp := ⟨IntKind.i64.wrap (x.fr + by_), IntKind.i64.wrap (x.tt + by_), x.kd, x.vl⟩
theorem own_setS {W : World} {base g n cap : Nat} {e : TypeId} {size : Nat} {xs : List Value} (h : W.ownsRow base e size (.slice (some ⟨g, 0, none⟩) n cap) n xs) (i : Nat) (v : Value) : (W.setCell ⟨g, i, none⟩ v).ownsRow base e size (.slice (some ⟨g, 0, none⟩) n cap) n (xs.set i v) := by
  refine ⟨by rw [List.length_set]; exact h.1, ?_⟩
  rcases h.2 with ⟨e0, _⟩ | ⟨g2, cap2, cur, e0, hb, hg, hcn, hcm, hs, h4⟩
  · simp at e0
  · obtain ⟨rfl, rfl⟩ : g = g2 ∧ cap = cap2 := by simpa using e0
    refine .inr ⟨g, cap, cur.setIfInBounds i v, rfl, hb, set_atS hg i v, hcn, hcm, by rw [Array.size_setIfInBounds]; exact hs, ?_⟩
    rw [Array.toList_setIfInBounds, List.take_set, h4]
theorem own_cellsS {W : World} {base g n cap : Nat} {e : TypeId} {size : Nat} {xs : List Value} (h : W.ownsRow base e size (.slice (some ⟨g, 0, none⟩) n cap) n xs) (i : Nat) (v : Value) (hv : xs[i]? = some v) : W.cell? ⟨g, i, none⟩ = some v ∧ W.frozen? ⟨g, i, none⟩ = false ∧ g < W.heap.size ∧ base ≤ g := by
  rcases h.2 with ⟨e0, _⟩ | ⟨g2, cap2, cur, e0, hb, hg, hcn, hcm, hs, h4⟩
  · simp at e0
  · obtain ⟨rfl, rfl⟩ : g = g2 ∧ cap = cap2 := by simpa using e0
    have hi := (List.getElem?_eq_some_iff.1 hv).1
    rw [h.1] at hi
    rw [← h4, List.getElem?_take, if_pos hi, Array.getElem?_toList] at hv
    have hgl := (Array.getElem?_eq_some_iff.1 hg).1
    exact ⟨by simp [World.cell?, hg, hv], by simp [World.frozen?, hg], hgl, hb⟩
theorem flat4_set (A B : List Sp) (x y : Sp) (m : Nat) (hm : A.length = m) (h1 : y.kd = x.kd) (h2 : y.vl = x.vl) : ((flat4 (A ++ x :: B)).set (m * 4) (.int .i64 y.fr)).set (m * 4 + 1) (.int .i64 y.tt) = flat4 (A ++ y :: B) := by
  have e : ∀ z : Sp, flat4 (A ++ z :: B) = flat4 A ++ ([.int .i64 z.fr, .int .i64 z.tt, .int .i64 z.kd, .int .i64 z.vl] ++ flat4 B) := fun z => by simp [flat4]
  rw [e, e, List.set_append_right _ _ (by rw [flat4_len, hm]; omega), flat4_len, hm, Nat.sub_self, List.set_append_right _ _ (by rw [flat4_len, hm]; omega), flat4_len, hm, show m * 4 + 1 - m * 4 = 1 by omega]
  simp [h1, h2]
set_option maxRecDepth 100000 in
set_option maxHeartbeats 2000000 in
theorem moved_any (D : List Sp) (oa : Option Addr) (cap : Nat) (by_ : Int) (hl : D.length ≤ 5000) (hn : oa = none → D = [] ∧ cap = 0) (w : World) (hR : SpO w oa D) :
    Calls Tryz.prog 41 #[.slice oa D.length cap, .int .i64 by_] w fun e w' => ∃ v, e = .returned v ∧ w'.ownsRow w.heap.size 44 4 v D.length (flat4 (D.map (mvS by_))) ∧ Below w.heap.size w w' := by
  have HC := hideS (spclone_any D oa cap (by omega) hn w hR)
  clear hR hn
  obtain ⟨N, hN⟩ : ∃ N, D.length = N := ⟨_, rfl⟩
  have HN := hideS hN
  rw [hN] at HC hl ⊢
  obtain ⟨PO, hPO⟩ : ∃ PO : Ending → World → Prop, PO = fun e w' => ∃ v, e = .returned v ∧ w'.ownsRow w.heap.size 44 4 v N (flat4 (D.map (mvS by_))) ∧ Below w.heap.size w w' := ⟨_, rfl⟩
  rw [← hPO]
  have HPO := hideS hPO
  clear hN hPO
  go_enter Tryz.func41, Tryz.ntmps41
  go_wp2_with fail
  refine HC.out.mono ?_
  rintro e w1 ⟨v, rfl, own, b1⟩
  obtain ⟨o, c, rfl⟩ : ∃ o c, v = .slice o N c := by
    rcases own.2 with ⟨e0, e1⟩ | ⟨g, cp, cur, e0, _⟩
    · exact ⟨_, _, by rw [e0, e1]⟩
    · exact ⟨_, _, e0⟩
  have H1 := hideS (And.intro own b1)
  clear own b1 HC
  go_wp2_with fail
  go_loopw [11] (fun iv wq => ∃ i : Nat, iv = .int .i64 (i : Nat) ∧ i ≤ N ∧ wq.ownsRow w.heap.size 44 4 (.slice o N c) N (flat4 ((D.take i).map (mvS by_) ++ D.drop i)) ∧ Below w.heap.size w wq) (fun iv _ => N - (intOf iv).toNat)
  case atStart => exact ⟨0, rfl, Nat.zero_le _, by simpa using H1.out.1, H1.out.2⟩
  case round =>
    obtain ⟨i, rfl, hiN, hO, hb⟩ := hrel
    clear H1
    obtain ⟨wq, rfl⟩ : ∃ wq, wq = wr := ⟨_, rfl⟩
    by_cases hlt : i < N
    · obtain ⟨x, hx⟩ : ∃ x, D[i]? = some x := ⟨_, List.getElem?_eq_getElem (by rw [HN.out]; exact hlt)⟩
      have hdr : D.drop i = x :: D.drop (i + 1) := by rw [← (List.getElem?_eq_some_iff.1 hx).2]; exact List.drop_eq_getElem_cons (by rw [HN.out]; exact hlt)
      rw [hdr] at hO
      have hAl : ((D.take i).map (mvS by_)).length = i := by rw [List.length_map, List.length_take, HN.out]; omega
      have hat : ((D.take i).map (mvS by_) ++ x :: D.drop (i + 1))[i]? = some x := by rw [List.getElem?_append_right (by omega), hAl, Nat.sub_self]; rfl
      obtain ⟨g, rfl⟩ : ∃ g, o = some ⟨g, 0, none⟩ := by
        rcases hO.2 with ⟨e0, e1⟩ | ⟨g, cp, cur, e0, _⟩
        · omega
        · exact ⟨g, by simp at e0; exact e0.1⟩
      obtain ⟨k0, k1, _, _⟩ := flat4_at _ i x hat
      obtain ⟨c0, f0, hg, hgb⟩ := own_cellsS hO _ _ k0
      obtain ⟨c1, f1, _, _⟩ := own_cellsS hO _ _ k1
      have hN1 := flat4_set ((D.take i).map (mvS by_)) (D.drop (i + 1)) x (mvS by_ x) i hAl rfl rfl
      have hnx : (D.take (i + 1)).map (mvS by_) ++ D.drop (i + 1) = (D.take i).map (mvS by_) ++ mvS by_ x :: D.drop (i + 1) := by rw [List.take_add_one, hx, List.map_append]; simp
      rw [← hnx] at hN1
      change ((flat4 ((D.take i).map (mvS by_) ++ x :: D.drop (i + 1))).set (i * 4) (.int .i64 (IntKind.i64.wrap (x.fr + by_)))).set (i * 4 + 1) (.int .i64 (IntKind.i64.wrap (x.tt + by_))) = _ at hN1
      obtain ⟨v0, hv0⟩ : ∃ v0, IntKind.i64.wrap (x.fr + by_) = v0 := ⟨_, rfl⟩
      obtain ⟨v1, hv1⟩ : ∃ v1, IntKind.i64.wrap (x.tt + by_) = v1 := ⟨_, rfl⟩
      rw [hv0, hv1] at hN1
      have hcn : N ≤ c := by
        rcases hO.2 with ⟨e0, e1⟩ | ⟨g2, cp, cur, e0, _, _, h3, _⟩
        · omega
        · simp at e0; omega
      have d1 : (i : Int) < (N : Int) := by omega
      have wi : IntKind.i64.wrap ((i : Int) + 1) = ((i + 1 : Nat) : Int) := by rw [show ((i + 1 : Nat) : Int) = (i : Int) + 1 by omega]; exact IntWalk.i64_in _ ⟨by omega, by omega⟩
      have HA := hideS (And.intro hO (And.intro hb (And.intro hN1 hgb)))
      clear hO hb hN1 hnx hdr hx hat k0 k1 hAl
      go_wp2_with fail
      go_roundw
      case rel =>
        refine ⟨i + 1, by first | rfl | simp, by omega, ?_, (HA.out.2.1.setCell (p := ⟨g, i * 4, none⟩) HA.out.2.2.2 _).setCell (p := ⟨g, i * 4 + 1, none⟩) HA.out.2.2.2 _⟩
        have h9 := own_setS (own_setS HA.out.1 (i * 4) (.int .i64 v0)) (i * 4 + 1) (.int .i64 v1)
        rw [HA.out.2.2.1] at h9
        exact h9
      case measure => simp [intOf]; omega
    · have d1 : ¬ (i : Int) < (N : Int) := by omega
      obtain rfl : i = N := by omega
      rw [List.take_of_length_le (by rw [HN.out]; exact Nat.le_refl _), List.drop_eq_nil_of_le (by rw [HN.out]; exact Nat.le_refl _), List.append_nil] at hO
      have HA := hideS (And.intro hO hb)
      clear hO hb
      go_wp2_with fail
      rw [HPO.out]
      exact ⟨_, rfl, HA.out.1, HA.out.2⟩
set_option maxRecDepth 100000 in
set_option maxHeartbeats 2000000 in
theorem spgrow_zero (w : World) : Calls Tryz.prog 61 #[.slice none 0 0, .int .i64 0] w fun e w' => e = .returned (.slice none 0 0) ∧ w' = w := by
  go_enter Tryz.func61, Tryz.ntmps61
  go_wp2_with fail
  go_ret
  exact ⟨rfl, rfl⟩
theorem wpList_append_run {P : Program} {w : World} {ops : Array Oper} {rest : List Oper} {o : Oper} {a : Act} {Q : Exit → Act → World → Prop} (hgd : o.guard = none) (s x : Operand) (t tn : TypeId)
    (ho : o.op = .call { callee := .builtin .append, args := #[s, x], argTypes := #[t, tn] }) (v u r : Value) (w' : World) (hs : a.eval s = v) (hx : a.eval x = u) (hrun : (Builtin.append_ #[t, tn] o.type #[v, u]).run P w = .ok r w')
    (h : wpList P ops Q rest (a.put o.dst r) w') : wpList P ops Q (o :: rest) a w := by
  refine wpList_plain hgd fun K hK => ?_
  unfold Oper.wp
  simp [execOp, ho, resolve, invoke, builtin, hs, hx, hrun, Result.andThen]
  exact hK _ _ h
set_option maxRecDepth 100000 in
set_option maxHeartbeats 2000000 in
theorem spgrow_some (n : Nat) (h0 : 0 < n) (hn : n ≤ 1048576) (w : World) : Calls Tryz.prog 61 #[.slice none 0 0, .int .i64 n] w fun e w' => ∃ v, e = .returned v ∧ w'.ownsRow w.heap.size 44 4 v 0 [] ∧ Below w.heap.size w w' := by
  obtain ⟨i0, hi, hz0, hz1, hz2⟩ := info_parts infoSp
  have hrz : ∀ ty, (Builtin.append_ #[28, 3] ty #[.slice none 0 0, .int .i64 n]).run Tryz.prog w = _ := fun ty =>
    Lib.run_append_grow_zeros w 28 3 ty 44 i0 _ .i64 .i64 Tryz.underlying28 Tryz.underlying3 hi hz0 none 0 0 [] (run_firstCells_none w.drew i0.size 0 0 0) n h0 (by rw [hz1]; decide) (by omega) (by omega) (by rw [hz2]; omega) (growslice_fits (by omega) (by rw [hz2]; omega))
  have hG : 0 + n ≤ grownCap w (0 + n) 0 44 := grownCap_ge w _ _ _
  have hG2 : grownCap w (0 + n) 0 44 ≤ maxLen := grownCap_le_maxLen w _ _ _ (by unfold maxLen; omega)
  obtain ⟨G, hGd⟩ : ∃ G, grownCap w (0 + n) 0 44 = G := ⟨_, rfl⟩
  rw [hGd] at hrz hG hG2
  obtain ⟨cs, hcs⟩ : ∃ cs, (([] : List Value).toArray ++ Builtin.zeroCells (Value.agg #[.int .i64 0, .int .i64 0, .int .i64 0, .int .i64 0]).cells n ++ Builtin.zeroCells (Value.agg #[.int .i64 0, .int .i64 0, .int .i64 0, .int .i64 0]).cells (G - (0 + n))) = cs := ⟨_, rfl⟩
  rw [hcs] at hrz
  have hsz : cs.size = G * 4 := by
    rw [← hcs]
    simp [Builtin.zeroCells, Value.cells]
    omega
  rw [Nat.zero_add] at hrz hG
  have own : (w.drew.alloc (.cells cs 44)).ownsRow w.heap.size 44 4 (.slice (some ⟨w.heap.size, 0, none⟩) 0 G) 0 [] :=
    ⟨rfl, .inr ⟨w.heap.size, G, cs, rfl, Nat.le_refl _, World.alloc_heap_new w.drew _, Nat.zero_le _, hG2, hsz, by simp⟩⟩
  have HF := hideS (And.intro own ((Below.refl w.heap.size w).drew.alloc (Nat.le_refl _) (.cells cs 44)))
  clear own hsz hcs hGd
  have d1 : ¬ ((n : Int) < 0) := by omega
  have d2 : (0 : Int) < (n : Int) := by omega
  have d3 : IntKind.i64.wrap (n : Int) = (n : Int) := IntWalk.i64_in _ ⟨by omega, by omega⟩
  have d4 : (n : Int) ≤ (G : Int) := by omega
  obtain ⟨PO, hPO⟩ : ∃ PO : Ending → World → Prop, PO = fun e w' => ∃ v, e = .returned v ∧ w'.ownsRow w.heap.size 44 4 v 0 [] ∧ Below w.heap.size w w' := ⟨_, rfl⟩
  rw [← hPO]
  have HPO := hideS hPO
  clear hPO
  go_enter Tryz.func61, Tryz.ntmps61
  have HRz := hideS hrz
  clear hrz
  go_wp2_with (at_builtin; refine wpList_append_run rfl _ _ 28 3 rfl _ _ _ _ rfl rfl (HRz.out _) ?_)
  rw [HPO.out]
  exact ⟨_, rfl, HF.out.1, HF.out.2⟩
theorem spgrow_any (n : Nat) (hn : n ≤ 1048576) (w : World) : Calls Tryz.prog 61 #[.slice none 0 0, .int .i64 n] w fun e w' => ∃ v, e = .returned v ∧ w'.ownsRow w.heap.size 44 4 v 0 [] ∧ Below w.heap.size w w' := by
  cases n with
  | zero =>
    refine (spgrow_zero w).mono ?_
    rintro e w' ⟨rfl, rfl⟩
    exact ⟨_, rfl, World.ownsRow_nil _ _ _ _, Below.refl _ _⟩
  | succ n => exact spgrow_some (n + 1) (by omega) hn w
end Go.Proofs.YtjfhlddbkdkjbaaGreatDoor
