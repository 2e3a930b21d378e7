/- The contract of utf.Bads: the places of the bad signs, as a list. -/
import Derived.Test.YtofhmecbcmahaaaDoorAllW
import Derived.Test.YtofhmecbcmahaaaDoorRSig
namespace Go.Proofs.YtofhmecbcmahaaaDoor
open Go.RowKit Go.Shelf
attribute [local go_sem] Oper.semAt_some

def badsL (l : List Sg) : List Sg := l.filter fun x => x.bad
def badV (l : List Sg) : List Value := (badsL l).map fun x => .int .i64 x.loc
theorem badsL_le (l : List Sg) : (badsL l).length ≤ l.length := List.length_filter_le _ _
theorem infoInt1 : (Tryd.prog.info? 3).map (fun i => (i.zero, i.size, i.bytes)) = some (some (.int .i64 0), 1, 8) := by kernel_rfl
theorem cell_one2 (w : World) (a : Value) (t : TypeId) : ∀ j u, [a][j]? = some u → (w.alloc (.cells #[a] t)).cell? ((⟨w.heap.size, 0, none⟩ : Addr).add j) = some u := by
  intro j u hj
  match j, hj with
  | 0, hj => simp at hj; subst hj; simp [Addr.add]
  | j + 1, hj => simp at hj

set_option maxRecDepth 100000 in
set_option maxHeartbeats 4000000 in
theorem bads_any (s : ByteArray) (hs : s.size ≤ 16777216) (w : World) :
    Calls Tryd.prog 36 #[.string s] w fun e w' => ∃ v, e = .returned v ∧ w'.ownsRow w.heap.size 3 1 v (badsL (signs s)).length (badV (signs s)) ∧ Below w.heap.size w w' := by
  obtain ⟨i0, hi, hz0, hz1, hz2⟩ := info_parts2 infoInt1
  refine (callsIn_wide (n := 9)).1 ?_
  refine callsIn_of_wp_marks Tryd.func36 rfl trivial ?_ rfl
  simp only [Tryd.ntmps36, List.size_toArray, List.length_cons, List.length_nil, Nat.reduceAdd, Nat.reduceSub, Array.replicate_succ, Array.replicate_zero, List.push_toArray, List.append_toArray, List.nil_append, List.cons_append]
  gi_wp2_with (refine ⟨trivial, ?_⟩; gi_at_call 51; refine (callsIn_wide.2 (signs_mk _ _)).mono ?_; rintro e w' ⟨rfl, rfl⟩)
  obtain ⟨V, hV⟩ : ∃ V, (w.alloc (.cells #[.slice none 0 0] 42)).alloc (.cells #[.string s] 9) = V := ⟨_, rfl⟩
  have b0 : Boxed V w.heap.size 42 (.slice none 0 0) := by rw [← hV]; exact (Boxed.new w 42 _).alloc _
  have b1 : Boxed V (w.heap.size + 1) 9 (.string s) := by
    rw [← hV]
    have := Boxed.new (w.alloc (.cells #[.slice none 0 0] 42)) 9 (.string s)
    rw [World.size_alloc] at this
    exact this
  have hB : Below w.heap.size w V := by rw [← hV]; exact ((Below.refl _ w).alloc (Nat.le_refl _) _).alloc (by simp) _
  have hz : V.heap.size = w.heap.size + 2 := by rw [← hV]; simp
  have hzV1 : w.heap.size + 2 ≤ V.heap.size := by omega
  have hzV2 : V.heap.size ≤ w.heap.size + 2 := by omega
  have hsl : (signs s).length ≤ 16777216 := Nat.le_trans (sgns_length s _ _) hs
  rw [hV]
  clear hV hz
  refine wpIn_rangeFunc_ownH (α := Sg) rfl (by omega) (gf := 68) (lb := #[.pointer (some ⟨w.heap.size + 1, 0, none⟩)]) rfl trivial (enters_of Tryd.func68 (by kernel_rfl) rfl)
    (signs_stops (9 - 1) (w.heap.size + 1) (by omega) s (by omega) V (by omega) b1.cell) Kp_t (Kp_b (by omega)) (Below.refl _ _) (fun _ => rfl)
    (fun pre A => ((∃ v, Boxed A w.heap.size 42 v ∧ A.ownsRow w.heap.size 3 1 v (badsL pre).length (badV pre) ∧ True) ∧ Boxed A (w.heap.size + 1) 9 (.string s)) ∧ (Below w.heap.size w A ∧ V.heap.size ≤ A.heap.size))
    (fun _ _ _ => False)
    (OwnFrom.and (OwnFrom.and (Own.from (holdsRow_own w.heap.size w.heap.size 42 3 1 (fun pre : List Sg => (badsL pre).length) (fun pre => badV pre) (fun _ _ => True)) _) (Own.from (boxed_own _ _ _) _)) (OwnFrom.and (ownFrom_below (Nat.le_refl _) (by omega)) (fun _ _ _ _ hs hg _ => Nat.le_trans hs hg.size)))
    (fun _ _ _ _ _ hs _ _ => hs)
    ⟨⟨⟨_, b0, World.ownsRow_nil _ _ _ _, trivial⟩, b1⟩, hB, Nat.le_refl _⟩
    (fun x a' A => ∃ gb, w.heap.size + 1 < gb ∧ Row4 A gb 63 (.int .i64 x.loc) (.int .i64 x.len) (.int .i32 x.rune) (.bool x.bad) ∧
      a' = { tmps := #[.string s, undef, .slice none 0 0, .pointer (some ⟨w.heap.size, 0, none⟩), .pointer (some ⟨gb, 0, none⟩), .string s, .func (.func 68) #[] #[.pointer (some ⟨w.heap.size + 1, 0, none⟩)], (.agg #[.int .i64 x.loc, .int .i64 x.len, .int .i32 x.rune, .bool x.bad]), undef, undef, undef, undef, undef, undef, undef, undef], defers := [] })
    (fun x a' _ A B row hs hg hr => by
      obtain ⟨gb, e1, e2, e3⟩ := hs
      refine ⟨gb, e1, e2.of_block (hg.block _ e2.lt (fun e => ?_)), e3⟩
      obtain ⟨_, o, ho, hcl⟩ := hr _ e.symm
      rw [show A.heap[gb]? = _ from e2] at ho
      cases ho
      cases hcl)
    ?assign ?body ?done ?stop
  case assign =>
    rintro lin pre x A K ⟨⟨⟨v, c0, c1, _⟩, c2⟩, hBA, hzA⟩ hK
    simp only [Sg.val]
    gi_wp2
    exact hK _ _ ((KeepsOthers.alloc _ _).from _) (Kp_of (fun k _ hk => Below.heap_alloc _ _ _ hk) (by omega)) ⟨⟨⟨v, c0.alloc _, c1.alloc _, trivial⟩, c2.alloc _⟩, hBA.alloc hBA.size _, by simp; omega⟩ ⟨A.heap.size, by omega, World.alloc_heap_new A _, rfl⟩
  case body =>
    rintro lin pre x a' A hlin ⟨r, hr⟩ ⟨⟨⟨v, c0, hrow, _⟩, c2⟩, hBA, hzA⟩ ⟨gb, hgb, hg4, rfl⟩ hlen
    obtain ⟨g0, g1, g2, g3⟩ := hg4.cells
    have k0 := c0.cell
    have hbl := badsL_le pre
    cases hbad : x.bad with
    | false =>
      rw [hbad] at g3
      have e1 : badsL (pre ++ [x]) = badsL pre := by simp [badsL, hbad]
      have e2 : badV (pre ++ [x]) = badV pre := by unfold badV; rw [e1]
      gi_wp2
      exact ⟨KeepsFrom.refl _ _, Kp_of (fun _ _ _ => rfl) (by omega), ⟨⟨v, c0, by rw [e1, e2]; exact hrow, trivial⟩, c2⟩, hBA, hzA⟩
    | true =>
      rw [hbad] at g3
      have e1 : badsL (pre ++ [x]) = badsL pre ++ [x] := by simp [badsL, hbad]
      have e2 : badV (pre ++ [x]) = badV pre ++ [.int .i64 x.loc] := by unfold badV; rw [e1]; simp
      have E1 := hideO e1
      have E2 := hideO e2
      clear e1 e2
      gi_wp2_with (gi_at_builtin; refine wpListIn_append_own _ rfl _ _ 42 rfl w.heap.size 3 i0 (.int .i64 0) 1 8 Tryd.underlying42 hi hz0 hz1 hz2 rfl (by decide) _ _ _ rfl (hrow.alloc _) ⟨A.heap.size, 0, none⟩ 1 1 [.int .i64 x.loc] rfl rfl (cell_one2 _ _ _) (fun u hu => by simp at hu; subst hu; rfl) (by unfold maxLen; omega) (by omega) (by have := hBA.size; simp; omega) ?_; intro v' w1 hown' hgrow _; obtain ⟨g', cap', rfl⟩ := ownsRow_succ hown'; obtain ⟨hv1, hv2, hr2, hk2, hb2⟩ := c0.appended (by decide) hrow hBA.size (Nat.le_refl _) hown' hgrow; have hsb := (c2.alloc (.cells #[.int .i64 x.loc] 3)).kept hgrow (c2.not_row (by decide) hrow); have hc1 := hv1.cell; have hf1 := hv1.frozen; clear hown' hgrow)
      have hsZ : Boxed (w1.setCell ⟨w.heap.size, 0, none⟩ (.slice (some ⟨g', 0, none⟩) ((badsL pre).length + 1) cap')) (w.heap.size + 1) 9 (.string s) := (Below.heap_setCell _ _ _ _ (by simp)).trans hsb
      exact ⟨hk2.from _, ⟨hsZ.cell.trans c2.cell.symm, fun k o _ ha ho => hk2.same k o ha (Obj.not_cells_of_walk ho)⟩, ⟨⟨_, hv2, by rw [E1.out, E2.out, List.length_append]; exact hr2, trivial⟩, hsZ⟩, hBA.trans hb2, Nat.le_trans hzA hk2.size⟩
  case done =>
    rintro D xs A hD rfl ⟨⟨⟨v, c0, hrow, _⟩, c2⟩, hBA, hzA⟩ hK
    have k0 := c0.cell
    gi_wp2
    refine ⟨by simp, .inl ⟨_, _, rfl, run_takeDeferred hK, ?_⟩⟩
    exact ⟨_, results_tmp rfl _ _ _, v, rfl, ownsRow_putObj hrow _ hK rfl, hBA.trans ((putObj_below _ _ _).mono (by omega))⟩
  case stop =>
    rintro D c pre A hD hpre h hK
    exact h.elim
end Go.Proofs.YtofhmecbcmahaaaDoor
