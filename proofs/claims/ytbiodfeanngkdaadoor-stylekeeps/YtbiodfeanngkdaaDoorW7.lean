/- Contracts of utf.firstLen, utf.Melts and utf.Place. -/
import Derived.Test.YtbiodfeanngkdaaDoorW4
import Derived.Test.YtbiodfeanngkdaaDoorW6
namespace Go.Proofs.YtbiodfeanngkdaaDoor
open Go.RowKit Go.Shelf
attribute [local go_sem] Oper.semAt_some

/-- The length of the first sign of a text; 0, if there is none. -/
def firstL (s : ByteArray) : Nat := match signs s with
  | [] => 0
  | x :: _ => x.len

set_option maxRecDepth 100000 in
set_option maxHeartbeats 1000000 in
theorem firstLen_any (s : ByteArray) (w : World) (hs : s.size ≤ 140737488355328) : Calls Tryd.prog 29 #[.string s] w fun e w' => e = .returned (.int .i64 (firstL s)) ∧ Below w.heap.size w w' := by
  refine (callsIn_wide (n := 9)).1 ?_
  refine callsIn_of_wp_marks Tryd.func29 rfl trivial ?_ rfl
  simp only [Tryd.ntmps29, List.size_toArray, List.length_cons, List.length_nil, Nat.reduceAdd, Nat.reduceSub, Array.replicate_succ, Array.replicate_zero, List.push_toArray, List.append_toArray, List.nil_append, List.cons_append]
  gi_wp2_with (refine ⟨trivial, ?_⟩; gi_at_call 34; refine (callsIn_wide.2 (signs_mk _ _)).mono ?_; rintro e w' ⟨rfl, rfl⟩)
  obtain ⟨V, hV⟩ : ∃ V, (w.alloc (.cells #[.int .i64 0] 3)).alloc (.cells #[.string s] 9) = V := ⟨_, rfl⟩
  have b0 : Boxed V w.heap.size 3 (.int .i64 0) := by rw [← hV]; exact (Boxed.new w 3 _).alloc _
  have b1 : Boxed V (w.heap.size + 1) 9 (.string s) := by
    rw [← hV]
    have := Boxed.new (w.alloc (.cells #[.int .i64 0] 3)) 9 (.string s)
    rw [World.size_alloc] at this
    exact this
  have hB : Below w.heap.size w V := by rw [← hV]; exact ((Below.refl _ w).alloc (Nat.le_refl _) _).alloc (by simp) _
  have hz : V.heap.size = w.heap.size + 2 := by rw [← hV]; simp
  rw [hV]
  clear hV
  refine wpIn_rangeFunc_ownH (α := Sg) rfl (by omega) (gf := 46) (lb := #[.pointer (some ⟨w.heap.size + 1, 0, none⟩)]) rfl trivial (enters_of Tryd.func46 (by kernel_rfl) rfl)
    (signs_stops (9 - 1) (w.heap.size + 1) (by omega) s hs V (by omega) b1.cell) Kp_t (Kp_b (by omega)) (Below.refl _ _) (fun _ => rfl)
    (fun pre A => (pre = [] ∧ Boxed A w.heap.size 3 (.int .i64 0)) ∧ Below w.heap.size V A)
    (fun c pre A => ((c = .ret ∧ ∃ x, pre = [x] ∧ Boxed A w.heap.size 3 (.int .i64 x.len)) ∧ Below w.heap.size V A))
    (OwnFrom.and (OwnFrom.and (ownFrom_pure _ _) (Own.from (boxed_own _ _ _) _)) (ownFrom_below (by omega) (by omega)))
    (fun c => OwnFrom.and (fun pre A B row hs hg hr => by
      obtain ⟨e1, x, e2, e3⟩ := hs
      exact ⟨e1, x, e2, e3.kept hg (fun e => by have := (hr _ e.symm).1; omega)⟩) (ownFrom_below (by omega) (by omega)))
    ⟨⟨rfl, b0⟩, Below.refl _ _⟩
    (fun x a' A => ∃ gb, w.heap.size < gb ∧ Row4 A gb 55 (.int .i64 x.loc) (.int .i64 x.len) (.int .i32 x.rune) (.bool x.bad) ∧
      a' = { tmps := #[.string s, undef, .pointer (some ⟨w.heap.size, 0, none⟩), .pointer (some ⟨gb, 0, none⟩), .string s, .func (.func 46) #[] #[.pointer (some ⟨w.heap.size + 1, 0, none⟩)], (.agg #[.int .i64 x.loc, .int .i64 x.len, .int .i32 x.rune, .bool x.bad]), undef, undef], defers := [] })
    (fun x a' _ A B row hs hg hr => by
      obtain ⟨gb, e1, e2, e3⟩ := hs
      refine ⟨gb, e1, e2.of_block (hg.block _ e2.lt (fun e => ?_)), e3⟩
      obtain ⟨_, o, ho, hcl⟩ := hr _ e.symm
      rw [show A.heap[gb]? = _ from e2] at ho
      cases ho
      cases hcl)
    ?assign ?body ?done ?stop
  case assign =>
    rintro lin pre x A K ⟨⟨rfl, c0⟩, hBA⟩ hK
    have hAz := hBA.size
    simp only [Sg.val]
    gi_wp2
    refine hK _ _ ((KeepsOthers.alloc _ _).from _) ⟨World.cell?_of_block (Below.heap_alloc _ _ _ ?_), fun k o _ hk _ => (Below.heap_alloc _ _ _ (Array.getElem?_eq_some_iff.1 hk).1).trans hk⟩ ⟨⟨trivial, c0.alloc _⟩, hBA.alloc (by omega) _⟩ ⟨A.heap.size, by omega, World.alloc_heap_new A _, rfl⟩
    show w.heap.size + 1 < A.heap.size
    omega
  case body =>
    rintro lin pre x a' A hlin ⟨r, hr⟩ ⟨⟨rfl, c0⟩, hBA⟩ ⟨gb, hgb, hg4, rfl⟩ hlen
    obtain ⟨g0, g1, g2, g3⟩ := hg4.cells
    have k0 := c0.cell
    have f0 := c0.frozen
    gi_wp2
    exact ⟨(KeepsOthers.setCell _ _ _).from _, ⟨rfl, x, rfl, c0.set _⟩, hBA.setCell (p := ⟨w.heap.size, 0, none⟩) (Nat.le_refl _) _⟩
  case done =>
    rintro D xs A hD rfl ⟨⟨hnil, c0⟩, hBA⟩ hK
    have k0 := c0.cell
    have f0 := c0.frozen
    have HN := hide hnil
    clear hnil
    gi_wp2
    have hK' := (Below.heap_setCell A ⟨w.heap.size, 0, none⟩ (.int .i64 0) D (by simp; omega)).trans hK
    refine ⟨by simp, .inl ⟨_, _, rfl, run_takeDeferred hK', ?_⟩⟩
    have z0 : ((A.setCell ⟨w.heap.size, 0, none⟩ (.int .i64 0)).putObj D (.deferred none)).cell? ⟨w.heap.size, 0, none⟩ = _ := (World.cell?_of_block (World.putObj_heap_other (by show w.heap.size ≠ D; omega))).trans (c0.set (.int .i64 0)).cell
    refine ⟨.int .i64 0, by simp [results, Tryd.f29, go_sem, z0], by simp [firstL, HN.out], ((hB.trans hBA).setCell (p := ⟨w.heap.size, 0, none⟩) (Nat.le_refl _) _).trans ((putObj_below _ _ _).mono (by omega))⟩
  case stop =>
    rintro D c pre A hD ⟨r, hr⟩ ⟨⟨rfl, x, rfl, c0⟩, hBA⟩ hK
    gi_wp2
    refine ⟨by simp, .inl ⟨_, _, rfl, run_takeDeferred hK, ?_⟩⟩
    have z0 : (A.putObj D (.deferred none)).cell? ⟨w.heap.size, 0, none⟩ = _ := (World.cell?_of_block (World.putObj_heap_other (by show w.heap.size ≠ D; omega))).trans c0.cell
    refine ⟨.int .i64 x.len, by simp [results, Tryd.f29, go_sem, z0], by simp [firstL, ← hr], (hB.trans hBA).trans ((putObj_below _ _ _).mono (by omega))⟩

set_option maxRecDepth 100000 in
set_option maxHeartbeats 1000000 in
theorem melts_no (a b : ByteArray) (w : World) (ha : a.size ≤ 140737488355328) (hw : 2 ≤ w.heap.size) (hT : Lib.Utf8Tabs 0 1 w) (ho : (openE a).size = 0) :
    Calls Tryd.prog 10 #[.string a, .string b] w fun e w' => e = .returned (.bool false) ∧ Below w.heap.size w w' := by
  go_enter Tryd.func10, Tryd.ntmps10
  go_wp2_with fail
  refine (openEnd_any a _ ha hw hT).mono ?_
  rintro e w1 ⟨rfl, hB1⟩
  generalize openE a = o at *
  obtain ⟨d⟩ := o
  have e : d = #[] := by simpa [ByteArray.size] using ho
  subst e
  go_wp2
  go_ret
  exact ⟨rfl, hB1⟩

theorem openN_size (s : ByteArray) : ∀ n, (openN s n).size ≤ n
  | 0 => by simp [openN]
  | n + 1 => by
    have := openN_size s n
    unfold openN
    split
    · omega
    · simp only [ByteArray.size_extract]; omega
theorem openE_size (s : ByteArray) : (openE s).size ≤ 3 := Nat.le_trans (openN_size s _) (by omega)

set_option maxRecDepth 100000 in
set_option maxHeartbeats 1000000 in
theorem melts_yes (a b : ByteArray) (w : World) (ha : a.size ≤ 140737488355328) (hb : b.size ≤ 140737488355328) (hw : 2 ≤ w.heap.size) (hT : Lib.Utf8Tabs 0 1 w) (ho : (openE a).toList.isEmpty = false) :
    Calls Tryd.prog 10 #[.string a, .string b] w fun e w' => e = .returned (.bool (decide ((openE a).size < firstL (openE a ++ b.extract 0 (min b.size 4))))) ∧ Below w.heap.size w w' := by
  go_enter Tryd.func10, Tryd.ntmps10
  go_wp2_with fail
  refine (openEnd_any a _ ha hw hT).mono ?_
  rintro e w1 ⟨rfl, hB1⟩
  have hsz := openE_size a
  generalize hoe : openE a = o at *
  have HO := hide hoe
  clear hoe
  have hm : (min (b.size : Int) 4).toNat = min b.size 4 := by omega
  have hcat : ¬ 9223372036854775807 < o.size + min (min (b.size : Int) 4).toNat b.size := by omega
  have hlen : (o ++ b.extract 0 (min (b.size : Int) 4).toNat).size ≤ 140737488355328 := by simp only [ByteArray.size_append, ByteArray.size_extract]; omega
  have HM := hide hm
  clear hm
  go_wp2_with fail
  refine (firstLen_any _ _ hlen).mono ?_
  rintro e w2 ⟨rfl, hB2⟩
  have hB3 := hB1.trans (hB2.mono hB1.size)
  go_wp2
  all_goals
    go_ret
    refine ⟨?_, hB3⟩
    rw [HO.out, ← HM.out]
    rfl

/-- Whether two texts melt, as utf tells it. -/
def meltsB (a b : ByteArray) : Bool := !(openE a).toList.isEmpty && decide ((openE a).size < firstL (openE a ++ b.extract 0 (min b.size 4)))
theorem melts_any (a b : ByteArray) (w : World) (ha : a.size ≤ 140737488355328) (hb : b.size ≤ 140737488355328) (hw : 2 ≤ w.heap.size) (hT : Lib.Utf8Tabs 0 1 w) :
    Calls Tryd.prog 10 #[.string a, .string b] w fun e w' => e = .returned (.bool (meltsB a b)) ∧ Below w.heap.size w w' := by
  cases ho : (openE a).toList.isEmpty
  · rw [show meltsB a b = decide ((openE a).size < firstL (openE a ++ b.extract 0 (min b.size 4))) from by simp [meltsB, ho]]
    exact melts_yes a b w ha hb hw hT ho
  · rw [show meltsB a b = false from by simp [meltsB, ho]]
    refine melts_no a b w ha hw hT ?_
    rw [Lib.toList_data] at ho
    rw [Lib.size_eq, List.isEmpty_iff.1 ho]
    rfl

end Go.Proofs.YtbiodfeanngkdaaDoor
