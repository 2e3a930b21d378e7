/- The walk of UtfSeqs: sequences that are gone over again, within themselves, and left early. -/
import Derived.Test.YtofhmecbcmahaaaDoorAllW
import Derived.Test.YtofhmecbcmahaaaDoorSqS
import Derived.Test.YtofhmecbcmahaaaDoorRCnt
import Derived.Test.YtofhmecbcmahaaaDoorMovW
import Derived.Test.YtofhmecbcmahaaaDoorSeaM
import Derived.Test.YtofhmecbcmahaaaDoorHead
import Derived.Test.YtofhmecbcmahaaaDoorSizW1
import Derived.Laws.EntriesVeiled
import Derived.Test.YtofhmecbcmahaaaDoorQuR
namespace Go.Proofs.YtofhmecbcmahaaaDoor
open Go.RowKit Go.Shelf
attribute [local go_sem] Oper.semAt_some

theorem linesF_len (s : ByteArray) : ∀ f p, (linesF s f p).length ≤ f
  | 0, p => by simp [linesF]
  | f + 1, p => by
    unfold linesF
    split
    · have := linesF_len s f (lnAt s p (by assumption)).next
      simp only [List.length_cons]
      omega
    · simp

set_option maxRecDepth 100000 in
set_option maxHeartbeats 4000000 in
theorem lawSeqs1_any (s : ByteArray) (hs : s.size ≤ 1048576) (z : Int) (_ : -9223372036854775808 ≤ z) (_ : z ≤ 9223372036854775807) (w : World) (hw : 2 ≤ w.heap.size) (hT : Lib.Utf8Tabs 0 1 w) :
    Calls Tryd.prog 16 #[.string s, .int .i64 z] w fun e w' => e = .returned (.bool true) ∧ Below w.heap.size w w' := by
  have hln : (signs s).length ≤ 1048576 := Nat.le_trans (sgns_length s _ _) hs
  have hn1 : ∀ (fn : Fn) (a b : Array Value) (W : World), (binOp .eql 70 (.func fn a b) .nilFunc).run Tryd.prog W = .ok (.bool false) W := fun _ _ _ _ => by kernel_rfl
  have hn2 : ∀ (fn : Fn) (a b : Array Value) (W : World), (binOp .eql 73 (.func fn a b) .nilFunc).run Tryd.prog W = .ok (.bool false) W := fun _ _ _ _ => by kernel_rfl
  refine (callsIn_wide (n := 30)).1 ?_
  refine callsIn_of_wp_marks Tryd.func16 rfl trivial ?_ rfl
  simp only [Tryd.ntmps16, List.size_toArray, List.length_cons, List.length_nil, Nat.reduceAdd, Nat.reduceSub, Array.replicate_succ, Array.replicate_zero, List.push_toArray, List.append_toArray, List.nil_append, List.cons_append]
  gi_wp2_with (refine ⟨trivial, ?_⟩; first | (gi_at_call 51; refine (callsIn_wide.2 (signs_mk _ _)).mono ?_; rintro e w' ⟨rfl, rfl⟩) | (gi_at_call 52; refine (callsIn_wide.2 (lines_mk _ _)).mono ?_; rintro e w' ⟨rfl, rfl⟩) | fail)
  obtain ⟨V, hV⟩ : ∃ V, ((((w.alloc (.cells #[.int .i64 z] 3)).alloc (.cells #[.bool false] 4)).alloc (.cells #[.string s] 9)).alloc (.cells #[.func (.func 68) #[] #[.pointer (some ⟨w.heap.size + 1 + 1, 0, none⟩)]] 70)).alloc (.cells #[.string s] 9) = V := ⟨_, rfl⟩
  have b0 : Below w.heap.size w V := by rw [← hV]; exact ((((((Below.refl _ w).alloc (Nat.le_refl _) _).alloc (by simp) _).alloc (by simp; omega) _).alloc (by simp; omega) _).alloc (by simp; omega) _)
  have x0 : Boxed V w.heap.size 3 (.int .i64 z) := by rw [← hV]; exact ((((Boxed.new w 3 _).alloc _).alloc _).alloc _).alloc _
  have x1 : Boxed V (w.heap.size + 1) 4 (.bool false) := by rw [← hV]; have := Boxed.new (w.alloc (.cells #[.int .i64 z] 3)) 4 (.bool false); rw [World.size_alloc] at this; exact ((this.alloc _).alloc _).alloc _
  have x2 : Boxed V (w.heap.size + 1 + 1) 9 (.string s) := by rw [← hV]; have := Boxed.new ((w.alloc (.cells #[.int .i64 z] 3)).alloc (.cells #[.bool false] 4)) 9 (.string s); rw [World.size_alloc, World.size_alloc] at this; exact (this.alloc _).alloc _
  have x3 : Boxed V (w.heap.size + 1 + 1 + 1) 70 (.func (.func 68) #[] #[.pointer (some ⟨w.heap.size + 1 + 1, 0, none⟩)]) := by rw [← hV]; have := Boxed.new (((w.alloc (.cells #[.int .i64 z] 3)).alloc (.cells #[.bool false] 4)).alloc (.cells #[.string s] 9)) 70 (.func (.func 68) #[] #[.pointer (some ⟨w.heap.size + 1 + 1, 0, none⟩)]); rw [World.size_alloc, World.size_alloc, World.size_alloc] at this; exact this.alloc _
  have x4 : Boxed V (w.heap.size + 1 + 1 + 1 + 1) 9 (.string s) := by rw [← hV]; have := Boxed.new ((((w.alloc (.cells #[.int .i64 z] 3)).alloc (.cells #[.bool false] 4)).alloc (.cells #[.string s] 9)).alloc (.cells #[.func (.func 68) #[] #[.pointer (some ⟨w.heap.size + 1 + 1, 0, none⟩)]] 70)) 9 (.string s); rw [World.size_alloc, World.size_alloc, World.size_alloc, World.size_alloc] at this; exact this
  have hzV : V.heap.size = w.heap.size + 5 := by rw [← hV]; simp
  have hz5 : w.heap.size + 5 ≤ V.heap.size := by omega
  rw [hV]
  clear hV hzV
  refine ⟨trivial, (callsIn_wide.2 (all_any s hs V)).mono ?_⟩
  rintro e w1 ⟨v, rfl, o1, c1⟩
  have s1 := c1.size
  have b1 := b0.trans (c1.mono b0.size)
  obtain ⟨oa, ca, rfl, hca⟩ := alls_at o1
  have HCA := hideO hca
  have x0 : Boxed w1 w.heap.size 3 (.int .i64 z) := (c1.block _ (by omega)).trans x0
  have x1 : Boxed w1 (w.heap.size + 1) 4 (.bool false) := (c1.block _ (by omega)).trans x1
  have x2 : Boxed w1 (w.heap.size + 1 + 1) 9 (.string s) := (c1.block _ (by omega)).trans x2
  have x3 : Boxed w1 (w.heap.size + 1 + 1 + 1) 70 (.func (.func 68) #[] #[.pointer (some ⟨w.heap.size + 1 + 1, 0, none⟩)]) := (c1.block _ (by omega)).trans x3
  have x4 : Boxed w1 (w.heap.size + 1 + 1 + 1 + 1) 9 (.string s) := (c1.block _ (by omega)).trans x4
  clear hca o1
  have hz6 : w.heap.size + 5 ≤ w1.heap.size := by omega
  obtain ⟨y, hy⟩ : ∃ y : Nat, z % ((signs s).length + 1 : Int) = (y : Int) := ⟨(z % ((signs s).length + 1 : Int)).toNat, by have := Int.emod_nonneg z (show ((signs s).length + 1 : Int) ≠ 0 by omega); omega⟩
  have HWi := hideO (fun W => within1_any z ((signs s).length + 1) (by omega) W)
  have hyl : y ≤ (signs s).length := by have := Int.emod_lt_of_pos z (show 0 < ((signs s).length + 1 : Int) by omega); omega
  rw [hy] at HWi
  clear hy
  have x0' : Boxed (w1.alloc (.cells #[.slice oa (signs s).length ca] 24)) w.heap.size 3 (.int .i64 z) := Boxed.alloc x0 _
  have k0 := Boxed.cell x0'
  have f0 := Boxed.frozen x0'
  have hlt : w.heap.size < w1.heap.size := by omega
  have y0 : Boxed (((w1.setCell ⟨w.heap.size, 0, none⟩ (.int .i64 y)).alloc (.cells #[.slice oa (signs s).length ca] 24)).alloc (.cells #[.int .i64 0] 3)) w.heap.size 3 (.int .i64 y) := ((Boxed.set (.int .i64 y) x0).alloc _).alloc _
  have y1 : Boxed (((w1.setCell ⟨w.heap.size, 0, none⟩ (.int .i64 y)).alloc (.cells #[.slice oa (signs s).length ca] 24)).alloc (.cells #[.int .i64 0] 3)) (w.heap.size + 1) 4 (.bool false) := ((Boxed.other x1 (by omega) _).alloc _).alloc _
  have y2 : Boxed (((w1.setCell ⟨w.heap.size, 0, none⟩ (.int .i64 y)).alloc (.cells #[.slice oa (signs s).length ca] 24)).alloc (.cells #[.int .i64 0] 3)) (w.heap.size + 1 + 1) 9 (.string s) := ((Boxed.other x2 (by omega) _).alloc _).alloc _
  have y3 : Boxed (((w1.setCell ⟨w.heap.size, 0, none⟩ (.int .i64 y)).alloc (.cells #[.slice oa (signs s).length ca] 24)).alloc (.cells #[.int .i64 0] 3)) (w.heap.size + 1 + 1 + 1) 70 (.func (.func 68) #[] #[.pointer (some ⟨w.heap.size + 1 + 1, 0, none⟩)]) := ((Boxed.other x3 (by omega) _).alloc _).alloc _
  have y4 : Boxed (((w1.setCell ⟨w.heap.size, 0, none⟩ (.int .i64 y)).alloc (.cells #[.slice oa (signs s).length ca] 24)).alloc (.cells #[.int .i64 0] 3)) (w.heap.size + 1 + 1 + 1 + 1) 9 (.string s) := ((Boxed.other x4 (by omega) _).alloc _).alloc _
  have y5 : Boxed (((w1.setCell ⟨w.heap.size, 0, none⟩ (.int .i64 y)).alloc (.cells #[.slice oa (signs s).length ca] 24)).alloc (.cells #[.int .i64 0] 3)) w1.heap.size 24 (.slice oa (signs s).length ca) := by
    have := Boxed.new (w1.setCell ⟨w.heap.size, 0, none⟩ (.int .i64 y)) 24 (.slice oa (signs s).length ca)
    rw [World.size_setCell] at this
    exact this.alloc _
  have y6 : Boxed (((w1.setCell ⟨w.heap.size, 0, none⟩ (.int .i64 y)).alloc (.cells #[.slice oa (signs s).length ca] 24)).alloc (.cells #[.int .i64 0] 3)) (w1.heap.size + 1) 3 (.int .i64 0) := by
    have := Boxed.new ((w1.setCell ⟨w.heap.size, 0, none⟩ (.int .i64 y)).alloc (.cells #[.slice oa (signs s).length ca] 24)) 3 (.int .i64 0)
    rw [World.size_alloc, World.size_setCell] at this
    exact this
  have hz7 : (((w1.setCell ⟨w.heap.size, 0, none⟩ (.int .i64 y)).alloc (.cells #[.slice oa (signs s).length ca] 24)).alloc (.cells #[.int .i64 0] 3)).heap.size = w1.heap.size + 2 := by
    rw [World.size_alloc, World.size_alloc, World.size_setCell]
  have b2 : Below w.heap.size w (((w1.setCell ⟨w.heap.size, 0, none⟩ (.int .i64 y)).alloc (.cells #[.slice oa (signs s).length ca] 24)).alloc (.cells #[.int .i64 0] 3)) := ((b1.setCell (p := ⟨w.heap.size, 0, none⟩) (Nat.le_refl _) _).alloc (by rw [World.size_setCell]; omega) _).alloc (by rw [World.size_alloc, World.size_setCell]; omega) _
  have HCB : Hid (∀ (n : Nat) (hn : n < (signs s).length), ∃ g, oa = some ⟨g, 0, none⟩ ∧ w.heap.size + 5 ≤ g ∧ g < w1.heap.size ∧ SAt (((w1.setCell ⟨w.heap.size, 0, none⟩ (.int .i64 y)).alloc (.cells #[.slice oa (signs s).length ca] 24)).alloc (.cells #[.int .i64 0] 3)) g n (signs s)[n]) := fun n hn => by
    obtain ⟨g, e, g1, g2, g3⟩ := HCA.out n hn
    refine ⟨g, e, by omega, g1, ?_⟩
    have hb : (((w1.setCell ⟨w.heap.size, 0, none⟩ (.int .i64 y)).alloc (.cells #[.slice oa (signs s).length ca] 24)).alloc (.cells #[.int .i64 0] 3)).heap[g]? = w1.heap[g]? := by
      refine (Below.heap_alloc _ _ _ ?_).trans ((Below.heap_alloc _ _ _ ?_).trans (Below.heap_setCell _ _ _ _ ?_))
      · rw [World.size_alloc, World.size_setCell]; omega
      · rw [World.size_setCell]; omega
      · show g ≠ w.heap.size
        omega
    exact ⟨(World.cell?_of_block hb).trans g3.1, (World.cell?_of_block hb).trans g3.2.1, (World.cell?_of_block hb).trans g3.2.2.1, (World.cell?_of_block hb).trans g3.2.2.2⟩
  have k3 := y3.cell
  have HY := hideO (And.intro y0 (And.intro y1 (And.intro y2 (And.intro y3 (And.intro y4 (And.intro y5 (And.intro y6 (And.intro hz7 b2))))))))
  clear HCA y0 y1 y2 y3 y4 y5 y6 hz7 b2 x1 x2 x3 x4
  gi_wp2_with (refine ⟨trivial, ?_⟩; gi_at_call 48; refine (callsIn_wide.2 (HWi.out _)).mono ?_; rintro e w' ⟨rfl, rfl⟩)
  obtain ⟨y0, y1, y2, y3, y4, y5, y6, hz7, b2⟩ := HY.out
  clear HY k3 k0 f0 x0' x0 HWi
  generalize ((w1.setCell ⟨w.heap.size, 0, none⟩ (.int .i64 y)).alloc (.cells #[.slice oa (signs s).length ca] 24)).alloc (.cells #[.int .i64 0] 3) = U at *
  refine rangeFunc_box (α := Sg) (by omega) (gf := 68) (lb := #[.pointer (some ⟨w.heap.size + 1 + 1, 0, none⟩)]) rfl (enters_of Tryd.func68 (by kernel_rfl) rfl)
    (signs_seqS (30 - 1) (w.heap.size + 1 + 1) (by omega) s (by omega) U (by omega) y2.cell) (fun _ => rfl) (fun k => k = w1.heap.size + 1) (fun k e => ⟨by omega, by omega⟩)
    (fun pre A => Boxed A (w1.heap.size + 1) 3 (.int .i64 pre.length)) (fun _ _ _ => False)
    (fun pre A B h hk => (hk.same _ h.lt (.inl (by omega))).trans h) (fun _ _ _ _ h _ => h) y6 ?round ?done ?stop
  case stop =>
    rintro D c pre A hD hpre h hB hK
    exact h.elim
  case round =>
    rintro l pre x W K hl1 hl2 hl3 hl4 hBW hi hpx hK
    simp only [Sg.val]
    gi_wp2
    refine hK _ _ ((Below.refl _ _).alloc (Nat.le_refl _) _) ?_
    intro W2 hbl hz2 hB2 hi2 hr
    have hsz : W.heap.size < W2.heap.size := by rw [hz2, World.size_alloc]; omega
    have hg4 : Row4 W2 W.heap.size 63 (.int .i64 x.loc) (.int .i64 x.len) (.int .i32 x.rune) (.bool x.bad) := (hbl.same W.heap.size (by rw [World.size_alloc]; omega) (by omega)).trans (World.alloc_heap_new W _)
    have q0 : Boxed W2 w.heap.size 3 (.int .i64 y) := (hB2.same _ y0.lt (by omega)).trans y0
    have q3 : Boxed W2 (w.heap.size + 1 + 1 + 1) 70 (.func (.func 68) #[] #[.pointer (some ⟨w.heap.size + 1 + 1, 0, none⟩)]) := (hB2.same _ y3.lt (by omega)).trans y3
    have q2 : Boxed W2 (w.heap.size + 1 + 1) 9 (.string s) := (hB2.same _ y2.lt (by omega)).trans y2
    have q5 : Boxed W2 w1.heap.size 24 (.slice oa (signs s).length ca) := (hB2.same _ y5.lt (by omega)).trans y5
    have hpl : pre.length < (signs s).length := by have := hpx.length_le; simp at this; omega
    have hxe : (signs s)[pre.length] = x := by
      obtain ⟨tl, htl⟩ := hpx
      have : (signs s)[pre.length]? = some x := by rw [← htl]; simp
      rw [List.getElem?_eq_getElem hpl] at this
      exact Option.some.inj this
    obtain ⟨g, rfl, hg1, hg2, hg3⟩ := HCB.out pre.length hpl
    rw [hxe] at hg3
    have hgb : W2.heap[g]? = U.heap[g]? := hB2.same g (by omega) (by omega)
    have d0 : W2.cell? ⟨g, pre.length * 4, none⟩ = some (.int .i64 x.loc) := (World.cell?_of_block hgb).trans hg3.1
    have d1 : W2.cell? ⟨g, pre.length * 4 + 1, none⟩ = some (.int .i64 x.len) := (World.cell?_of_block hgb).trans hg3.2.1
    have d2 : W2.cell? ⟨g, pre.length * 4 + 2, none⟩ = some (.int .i32 x.rune) := (World.cell?_of_block hgb).trans hg3.2.2.1
    have d3 : W2.cell? ⟨g, pre.length * 4 + 3, none⟩ = some (.bool x.bad) := (World.cell?_of_block hgb).trans hg3.2.2.2
    obtain ⟨e0, e1, e2, e3⟩ := hg4.cells
    have k0 := q0.cell
    have k5 := q5.cell
    have k6 := hi2.cell
    have f6 := hi2.frozen
    have hgd := asign_guard
    have hnq : ∀ W, (binOp .neq 63 (.agg #[.int .i64 x.loc, .int .i64 x.len, .int .i32 x.rune, .bool x.bad]) (.agg #[.int .i64 x.loc, .int .i64 x.len, .int .i32 x.rune, .bool x.bad])).run Tryd.prog W = .ok (.bool false) W := fun W => by
      rw [asign_ne]; simp
    have hpi : (pre.length : Int) < ((signs s).length : Int) := by omega
    have hpj : ¬ ((signs s).length : Int) ≤ (pre.length : Int) := by omega
    have hpk : ¬ (signs s).length ≤ pre.length := by omega
    have hdj : decide (((signs s).length : Int) ≤ (pre.length : Int)) = false := by simpa using hpj
    have hdk : decide ((signs s).length ≤ pre.length) = false := by simpa using hpk
    have HXE := hideO hxe
    have HPX := hideO hpx
    clear hgb hg3 hg4 hxe hpx hK
    have hmx : Tryd.prog.follows .mixedOrders = true := by kernel_rfl
    gi_wp2
    refine region_quiet_round l (by rfl) hmx (by kernel_rfl) ?_
    repeat (gi_big_quiet_step (fail))
    refine wpQuietIn_nil ?_
    intro _ hw'
    obtain ⟨nq, hw''⟩ := hw'
    subst hw''
    obtain ⟨W3, hW3⟩ : ∃ W3, W2.drewN nq = W3 := ⟨_, rfl⟩
    have hb3 : But (fun k => k = w1.heap.size + 1 ∨ U.heap.size + 2 + 1 ≤ k) W2 W3 := by rw [← hW3]; exact ⟨rfl, rfl, rfl, Nat.le_refl _, fun _ _ _ => rfl⟩
    have hb4 : But (fun k => k = w1.heap.size + 1) U W3 := by rw [← hW3]; exact hB2.trans ⟨rfl, rfl, rfl, Nat.le_refl _, fun _ _ _ => rfl⟩
    have q0 : Boxed W3 w.heap.size 3 (.int .i64 y) := by rw [← hW3]; exact q0
    have q2 : Boxed W3 (w.heap.size + 1 + 1) 9 (.string s) := by rw [← hW3]; exact q2
    have q3 : Boxed W3 (w.heap.size + 1 + 1 + 1) 70 (.func (.func 68) #[] #[.pointer (some ⟨w.heap.size + 1 + 1, 0, none⟩)]) := by rw [← hW3]; exact q3
    have q5 : Boxed W3 w1.heap.size 24 (.slice (some ⟨g, 0, none⟩) (signs s).length ca) := by rw [← hW3]; exact q5
    have q6 : Boxed W3 (w1.heap.size + 1) 3 (.int .i64 pre.length) := by rw [← hW3]; exact hi2
    have hr3 : ∃ r, W3.heap[l]? = some (.loop r) := by rw [← hW3]; exact hr
    have hz3 : W2.heap.size ≤ W3.heap.size := by rw [← hW3]; exact Nat.le_refl _
    rw [hW3]
    clear hW3 k0 k5 k6 f6 e0 e1 e2 e3 d0 d1 d2 d3 hnq hgd hdj hdk hpj hpk hi2 hr hBW hi hbl hB2 hz2
    have k0 := q0.cell
    have k6 := q6.cell
    have f6 := q6.frozen
    by_cases hst : pre.length = y
    · have tst : ((pre.length : Int) == (y : Int)) = true := by rw [beq_iff_eq]; omega
      have p0 : Boxed (W3.alloc (.cells #[.int .i64 0] 3)) w.heap.size 3 (.int .i64 y) := q0.alloc _
      have p2 : Boxed (W3.alloc (.cells #[.int .i64 0] 3)) (w.heap.size + 1 + 1) 9 (.string s) := q2.alloc _
      have p3 : Boxed (W3.alloc (.cells #[.int .i64 0] 3)) (w.heap.size + 1 + 1 + 1) 70 (.func (.func 68) #[] #[.pointer (some ⟨w.heap.size + 1 + 1, 0, none⟩)]) := q3.alloc _
      have p5 : Boxed (W3.alloc (.cells #[.int .i64 0] 3)) w1.heap.size 24 (.slice (some ⟨g, 0, none⟩) (signs s).length ca) := q5.alloc _
      have p6 : Boxed (W3.alloc (.cells #[.int .i64 0] 3)) (w1.heap.size + 1) 3 (.int .i64 pre.length) := q6.alloc _
      have p7 : Boxed (W3.alloc (.cells #[.int .i64 0] 3)) W3.heap.size 3 (.int .i64 0) := Boxed.new W3 3 _
      obtain ⟨r0, hr0⟩ := hr3
      have hr4 : (W3.alloc (.cells #[.int .i64 0] 3)).heap[l]? = some (.loop r0) := (Below.heap_alloc _ _ _ (by omega)).trans hr0
      have hb5 : But (fun k => k = w1.heap.size + 1 ∨ U.heap.size + 2 + 1 ≤ k) W2 (W3.alloc (.cells #[.int .i64 0] 3)) := hb3.alloc _
      have hb6 : But (fun k => k = w1.heap.size + 1) U (W3.alloc (.cells #[.int .i64 0] 3)) := hb4.alloc _
      have hzX : (W3.alloc (.cells #[.int .i64 0] 3)).heap.size = W3.heap.size + 1 := World.size_alloc _ _
      have k3 := p3.cell
      have hni : (pre.length : Int) + 1 = ((pre ++ [x]).length : Nat) := by simp
      have hnb : (pre ++ [x]).length ≤ 1048576 := by simp; omega
      have HY := hideO (And.intro p0 (And.intro p2 (And.intro p5 (And.intro p6 (And.intro p7 (And.intro hr4 (And.intro hb5 (And.intro hb6 hzX))))))))
      clear hst p0 p2 p3 p5 p6 p7 hr4 hb5 hb6 hzX hb3 hb4 hr0
      gi_wp2
      obtain ⟨p0, p2, p5, p6, p7, hr4, hb5, hb6, hzX⟩ := HY.out
      clear HY k3 q0 q2 q3 q5 q6 k0 k6 f6
      generalize W3.alloc (.cells #[.int .i64 0] 3) = X at *
      have FIN : ∀ Y, But (fun k => k = W3.heap.size) X Y → Boxed Y (w1.heap.size + 1) 3 (.int .i64 pre.length) ∧ ∀ a, boxPost (U.heap.size + 2 + 1) (fun k => k = w1.heap.size + 1) (fun (pre : List Sg) A => Boxed A (w1.heap.size + 1) 3 (.int .i64 pre.length)) (fun _ _ _ => False) (pre ++ [x]) W2 .normal a (Y.setCell ⟨w1.heap.size + 1, 0, none⟩ (.int .i64 (pre ++ [x]).length)) := fun Y hY => by
        have q6 : Boxed Y (w1.heap.size + 1) 3 (.int .i64 pre.length) := (hY.same _ p6.lt (by omega)).trans p6
        exact ⟨q6, fun _ => ⟨(hb5.trans (hY.mono (fun k _ e => .inr (by omega)))).setCell (p := ⟨w1.heap.size + 1, 0, none⟩) (.inl rfl) _, Boxed.set _ q6⟩⟩
      have HF := hideO FIN
      clear FIN
      generalize (pre ++ [x]).length = N at *
      refine rangeFunc_boxN (α := Sg) hr4 (by omega) (gf := 68) (lb := #[.pointer (some ⟨w.heap.size + 1 + 1, 0, none⟩)]) rfl (enters_of Tryd.func68 (by kernel_rfl) rfl)
        (signs_seqS (28 - 1) (w.heap.size + 1 + 1) (by omega) s (by omega) X (by omega) p2.cell) (fun _ => rfl) (fun k => k = W3.heap.size) (fun k e => ⟨by omega, by omega⟩)
        (fun pre' A => Boxed A W3.heap.size 3 (.int .i64 pre'.length)) (fun c _ _ => c = .exit 2)
        (fun pre' A B h hk => (hk.same _ h.lt (.inl (by omega))).trans h) (fun _ _ _ _ h _ => h) p7 ?round2 ?done2 ?stop2
      case done2 =>
        intro Y _ hY
        obtain ⟨q6, F⟩ := HF.out Y hY
        have HF2 := hideO F
        have k6 := q6.cell
        have f6 := q6.frozen
        clear HF F
        gi_wp2
        exact HF2.out _
      case stop2 =>
        rintro c pre' Y _ rfl hY
        obtain ⟨q6, F⟩ := HF.out Y hY
        have HF2 := hideO F
        have k6 := q6.cell
        have f6 := q6.frozen
        clear HF F
        gi_wp2
        exact HF2.out _
      case round2 =>
        clear HF
        rintro l2 pre2 x2 V2 K hm1 hm2 hm3 hm4 _ _ hpx hK
        simp only [Sg.val]
        gi_wp2
        refine hK _ _ ((Below.refl _ _).alloc (Nat.le_refl _) _) ?_
        intro Z hbl hzZ hBZ hi2 _
        have hsz2 : V2.heap.size < Z.heap.size := by rw [hzZ, World.size_alloc]; omega
        have hg4 : Row4 Z V2.heap.size 63 (.int .i64 x2.loc) (.int .i64 x2.len) (.int .i32 x2.rune) (.bool x2.bad) := (hbl.same V2.heap.size (by rw [World.size_alloc]; omega) (by omega)).trans (World.alloc_heap_new V2 _)
        have q0 : Boxed Z w.heap.size 3 (.int .i64 y) := (hBZ.same _ p0.lt (by omega)).trans p0
        have q5 : Boxed Z w1.heap.size 24 (.slice (some ⟨g, 0, none⟩) (signs s).length ca) := (hBZ.same _ p5.lt (by omega)).trans p5
        have hpl2 : pre2.length < (signs s).length := by have := hpx.length_le; simp at this; omega
        have hxe : (signs s)[pre2.length] = x2 := by
          obtain ⟨tl, htl⟩ := hpx
          have : (signs s)[pre2.length]? = some x2 := by rw [← htl]; simp
          rw [List.getElem?_eq_getElem hpl2] at this
          exact Option.some.inj this
        obtain ⟨g', hge, hh1, hh2, hg3⟩ := HCB.out pre2.length hpl2
        obtain rfl : g = g' := by simpa using hge
        rw [hxe] at hg3
        have hgX : X.heap[g]? = U.heap[g]? := hb6.same g (by omega) (by omega)
        have hgb : Z.heap[g]? = U.heap[g]? := (hBZ.same g (by omega) (by omega)).trans hgX
        have d0 : Z.cell? ⟨g, pre2.length * 4, none⟩ = some (.int .i64 x2.loc) := (World.cell?_of_block hgb).trans hg3.1
        have d1 : Z.cell? ⟨g, pre2.length * 4 + 1, none⟩ = some (.int .i64 x2.len) := (World.cell?_of_block hgb).trans hg3.2.1
        have d2 : Z.cell? ⟨g, pre2.length * 4 + 2, none⟩ = some (.int .i32 x2.rune) := (World.cell?_of_block hgb).trans hg3.2.2.1
        have d3 : Z.cell? ⟨g, pre2.length * 4 + 3, none⟩ = some (.bool x2.bad) := (World.cell?_of_block hgb).trans hg3.2.2.2
        obtain ⟨e0, e1, e2, e3⟩ := hg4.cells
        have k5 := q5.cell
        have k6 := hi2.cell
        have hgd := asign_guard
        have hnq : ∀ W, (binOp .neq 63 (.agg #[.int .i64 x2.loc, .int .i64 x2.len, .int .i32 x2.rune, .bool x2.bad]) (.agg #[.int .i64 x2.loc, .int .i64 x2.len, .int .i32 x2.rune, .bool x2.bad])).run Tryd.prog W = .ok (.bool false) W := fun W => by
          rw [asign_ne]; simp
        have hpi2 : (pre2.length : Int) < ((signs s).length : Int) := by omega
        have hpj : ¬ ((signs s).length : Int) ≤ (pre2.length : Int) := by omega
        have hpk : ¬ (signs s).length ≤ pre2.length := by omega
        have hdj : decide (((signs s).length : Int) ≤ (pre2.length : Int)) = false := by simpa using hpj
        have hdk : decide ((signs s).length ≤ pre2.length) = false := by simpa using hpk
        have hP0 := p0.lt
        have hb7 : But (fun k => k = W3.heap.size ∨ X.heap.size + 1 + 1 ≤ k) Z Z := But.refl _ _
        have hB0 := hideO (And.intro hBZ (And.intro hb5 (And.intro hb6 hr4)))
        clear hgb hgX hg3 hg4 hxe hpx hK hge p0 p2 p5 p6 p7 hr4 hb5 hb6 hBZ hbl hzZ
        gi_wp2
        refine region_quiet_round l2 (by rfl) hmx (by kernel_rfl) ?_
        repeat (gi_big_quiet_step (fail))
        refine wpQuietIn_nil ?_
        intro _ hw'
        obtain ⟨nq, hw''⟩ := hw'
        subst hw''
        obtain ⟨Z3, hZ3⟩ : ∃ Z3, Z.drewN nq = Z3 := ⟨_, rfl⟩
        have hb8 : But (fun k => k = W3.heap.size ∨ X.heap.size + 1 + 1 ≤ k) Z Z3 := by rw [← hZ3]; exact ⟨rfl, rfl, rfl, Nat.le_refl _, fun _ _ _ => rfl⟩
        have q0' : Boxed Z3 w.heap.size 3 (.int .i64 y) := by rw [← hZ3]; exact q0
        have q7 : Boxed Z3 W3.heap.size 3 (.int .i64 pre2.length) := by rw [← hZ3]; exact hi2
        rw [hZ3]
        clear hZ3 k5 k6 e0 e1 e2 e3 d0 d1 d2 d3 hnq hgd hdj hdk hpj hpk hi2 hb7 q0 q5
        have k7 := q7.cell
        have f7 := q7.frozen
        have hn2' : (pre2.length : Int) + 1 = ((pre2 ++ [x2]).length : Nat) := by simp
        have hnb2 : (pre2 ++ [x2]).length ≤ 1048576 := by simp; omega
        have F1 : Hid (But (fun k => k = W3.heap.size ∨ X.heap.size + 1 + 1 ≤ k) Z (Z3.setCell ⟨W3.heap.size, 0, none⟩ (.int .i64 (pre2 ++ [x2]).length)) ∧ Boxed (Z3.setCell ⟨W3.heap.size, 0, none⟩ (.int .i64 (pre2 ++ [x2]).length)) W3.heap.size 3 (.int .i64 (pre2 ++ [x2]).length)) := ⟨hb8.setCell (p := ⟨W3.heap.size, 0, none⟩) (.inl rfl) _, Boxed.set _ q7⟩
        have q0'' : Boxed (Z3.setCell ⟨W3.heap.size, 0, none⟩ (.int .i64 (pre2 ++ [x2]).length)) w.heap.size 3 (.int .i64 y) := Boxed.other q0' (by omega) _
        have k0 := q0''.cell
        have k8 := F1.out.2.cell
        by_cases hst2 : (pre2 ++ [x2]).length = y
        · have tst2 : (((pre2 ++ [x2]).length : Int) == (y : Int)) = true := by rw [beq_iff_eq]; omega
          have FIN : Hid (∀ a, boxPost (X.heap.size + 1 + 1) (fun k => k = W3.heap.size) (fun (pre' : List Sg) A => Boxed A W3.heap.size 3 (.int .i64 pre'.length)) (fun c _ _ => c = .exit 2) (pre2 ++ [x2]) Z (.exit 2) a (Z3.setCell ⟨W3.heap.size, 0, none⟩ (.int .i64 (pre2 ++ [x2]).length))) := fun _ => ⟨F1.out.1, rfl⟩
          clear hst2 F1
          generalize (pre2 ++ [x2]).length = N2 at *
          gi_wp2
          exact FIN.out _
        · have tst2 : (((pre2 ++ [x2]).length : Int) == (y : Int)) = false := by rw [beq_eq_false_iff_ne]; omega
          have FIN : Hid (∀ a, boxPost (X.heap.size + 1 + 1) (fun k => k = W3.heap.size) (fun (pre' : List Sg) A => Boxed A W3.heap.size 3 (.int .i64 pre'.length)) (fun c _ _ => c = .exit 2) (pre2 ++ [x2]) Z .normal a (Z3.setCell ⟨W3.heap.size, 0, none⟩ (.int .i64 (pre2 ++ [x2]).length))) := fun _ => ⟨F1.out.1, F1.out.2⟩
          clear hst2 F1
          generalize (pre2 ++ [x2]).length = N2 at *
          gi_wp2
          exact FIN.out _
    · have tst : ((pre.length : Int) == (y : Int)) = false := by rw [beq_eq_false_iff_ne]; omega
      have hni : (pre.length : Int) + 1 = ((pre ++ [x]).length : Nat) := by simp
      have hnb : (pre ++ [x]).length ≤ 1048576 := by simp; omega
      have FIN : Hid (boxPost (U.heap.size + 2 + 1) (fun k => k = w1.heap.size + 1) (fun (pre : List Sg) A => Boxed A (w1.heap.size + 1) 3 (.int .i64 pre.length)) (fun _ _ _ => False) (pre ++ [x]) W2 .normal ⟨#[], []⟩ (W3.setCell ⟨w1.heap.size + 1, 0, none⟩ (.int .i64 (pre ++ [x]).length))) := ⟨hb3.setCell (p := ⟨w1.heap.size + 1, 0, none⟩) (.inl rfl) _, Boxed.set _ q6⟩
      generalize (pre ++ [x]).length = N at *
      clear hst
      gi_wp2
      exact FIN.out
  case done =>
    intro D0 W hD0 hn hBW hdf
    have hz8 : w.heap.size + 5 ≤ U.heap.size := by omega
    have q0 : Boxed W w.heap.size 3 (.int .i64 y) := (hBW.same _ y0.lt (by omega)).trans y0
    have q1 : Boxed W (w.heap.size + 1) 4 (.bool false) := (hBW.same _ y1.lt (by omega)).trans y1
    have q4 : Boxed W (w.heap.size + 1 + 1 + 1 + 1) 9 (.string s) := (hBW.same _ y4.lt (by omega)).trans y4
    have q5 : Boxed W w1.heap.size 24 (.slice oa (signs s).length ca) := (hBW.same _ y5.lt (by omega)).trans y5
    have hUW := hBW.size
    have bW : Below w.heap.size w W := b2.trans (hBW.below (by omega) (fun k e => by omega))
    clear y0 y1 y2 y3 y4 y5 y6 hBW HCB
    have p0 : Boxed (W.alloc (.cells #[.int .i64 0] 3)) w.heap.size 3 (.int .i64 y) := q0.alloc _
    have p1 : Boxed (W.alloc (.cells #[.int .i64 0] 3)) (w.heap.size + 1) 4 (.bool false) := q1.alloc _
    have p4 : Boxed (W.alloc (.cells #[.int .i64 0] 3)) (w.heap.size + 1 + 1 + 1 + 1) 9 (.string s) := q4.alloc _
    have p5 : Boxed (W.alloc (.cells #[.int .i64 0] 3)) w1.heap.size 24 (.slice oa (signs s).length ca) := q5.alloc _
    have p6 : Boxed (W.alloc (.cells #[.int .i64 0] 3)) (w1.heap.size + 1) 3 (.int .i64 (signs s).length) := hn.alloc _
    have p7 : Boxed (W.alloc (.cells #[.int .i64 0] 3)) W.heap.size 3 (.int .i64 0) := Boxed.new W 3 _
    have hdf2 : (W.alloc (.cells #[.int .i64 0] 3)).heap[D0]? = some (.deferred (some [])) := (Below.heap_alloc _ _ _ (Array.getElem?_eq_some_iff.1 hdf).1).trans hdf
    have hzX : (W.alloc (.cells #[.int .i64 0] 3)).heap.size = W.heap.size + 1 := World.size_alloc _ _
    have bX : Below w.heap.size w (W.alloc (.cells #[.int .i64 0] 3)) := bW.alloc (by omega) _
    have hD1 : D0 < W.heap.size := (Array.getElem?_eq_some_iff.1 hdf).1
    have HY := hideO (And.intro p0 (And.intro p1 (And.intro p4 (And.intro p5 (And.intro p6 (And.intro p7 (And.intro hdf2 (And.intro hzX bX))))))))
    clear p0 p1 p4 p5 p6 p7 hdf2 hzX bX q0 q1 q4 q5 hn hdf
    gi_wp2
    obtain ⟨p0, p1, p4, p5, p6, p7, hdf2, hzX, bX⟩ := HY.out
    clear HY
    generalize W.alloc (.cells #[.int .i64 0] 3) = X at *
    have hcn : ∀ pre : List (Ln s), pre <+: lines s → pre.length ≤ (lines s).length := fun pre h => h.length_le
    have hlL : (lines s).length ≤ 1048576 := Nat.le_trans (linesF_len s _ _) hs
    have hzX1 : W.heap.size + 1 ≤ X.heap.size := by omega
    have hzX2 : X.heap.size ≤ W.heap.size + 1 := by omega
    clear hzX
    refine rangeFunc_box (α := Ln s) (by omega) (gf := 70) (lb := #[.pointer (some ⟨w.heap.size + 1 + 1 + 1 + 1, 0, none⟩)]) rfl (enters_of Tryd.func70 (by kernel_rfl) rfl)
      (lines_seqS (30 - 1) (w.heap.size + 1 + 1 + 1 + 1) (by omega) s (by omega) X (by omega) p4.cell) (fun _ => rfl) (fun k => k = W.heap.size) (fun k e => ⟨by omega, by omega⟩)
      (fun pre A => Boxed A W.heap.size 3 (.int .i64 pre.length) ∧ pre.length ≤ y) (fun c pre A => c = .exit 4 ∧ Boxed A W.heap.size 3 (.int .i64 pre.length) ∧ pre.length = y + 1)
      (fun pre A B h hk => ⟨(hk.same _ h.1.lt (.inl (by omega))).trans h.1, h.2⟩) (fun _ pre A B h hk => ⟨h.1, (hk.same _ h.2.1.lt (.inl (by omega))).trans h.2.1, h.2.2⟩) ⟨p7, by simp⟩ ?round3 ?done3 ?stop3
    case round3 =>
      rintro l pre x V2 K hm1 hm2 hm3 hm4 _ hi hpx hK
      simp only [Ln.vals]
      gi_wp2
      refine hK _ _ (Below.refl _ _) ?_
      intro Z hbl hzZ hBZ hi2 _
      have q0 : Boxed Z w.heap.size 3 (.int .i64 y) := (hBZ.same _ p0.lt (by omega)).trans p0
      have k7 := hi2.1.cell
      have f7 := hi2.1.frozen
      have hpl := hi2.2
      have hn2' : (pre.length : Int) + 1 = ((pre ++ [x]).length : Nat) := by simp
      have hnb2 : (pre ++ [x]).length ≤ 1048577 := by simp; omega
      have F1 : Hid (But (fun k => k = W.heap.size ∨ X.heap.size + 2 + 0 ≤ k) Z (Z.setCell ⟨W.heap.size, 0, none⟩ (.int .i64 (pre ++ [x]).length)) ∧ Boxed (Z.setCell ⟨W.heap.size, 0, none⟩ (.int .i64 (pre ++ [x]).length)) W.heap.size 3 (.int .i64 (pre ++ [x]).length)) := ⟨(But.refl _ _).setCell (p := ⟨W.heap.size, 0, none⟩) (.inl rfl) _, Boxed.set _ hi2.1⟩
      have q0'' : Boxed (Z.setCell ⟨W.heap.size, 0, none⟩ (.int .i64 (pre ++ [x]).length)) w.heap.size 3 (.int .i64 y) := Boxed.other q0 (by omega) _
      have k0 := q0''.cell
      have k8 := F1.out.2.cell
      by_cases hst2 : y < (pre ++ [x]).length
      · have tst2 : (y : Int) < ((pre ++ [x]).length : Int) := by omega
        have FIN : Hid (∀ a, boxPost (X.heap.size + 2 + 0) (fun k => k = W.heap.size) (fun (pre : List (Ln s)) A => Boxed A W.heap.size 3 (.int .i64 pre.length) ∧ pre.length ≤ y) (fun c pre A => c = .exit 4 ∧ Boxed A W.heap.size 3 (.int .i64 pre.length) ∧ pre.length = y + 1) (pre ++ [x]) Z (.exit 4) a (Z.setCell ⟨W.heap.size, 0, none⟩ (.int .i64 (pre ++ [x]).length))) := fun _ => ⟨F1.out.1, rfl, F1.out.2, by simp at hst2 ⊢; omega⟩
        clear F1 hK hbl hzZ hBZ hi2 hi
        generalize (pre ++ [x]).length = N2 at *
        gi_wp2
        exact FIN.out _
      · have tst2 : ¬ (y : Int) < ((pre ++ [x]).length : Int) := by omega
        have FIN : Hid (∀ a, boxPost (X.heap.size + 2 + 0) (fun k => k = W.heap.size) (fun (pre : List (Ln s)) A => Boxed A W.heap.size 3 (.int .i64 pre.length) ∧ pre.length ≤ y) (fun c pre A => c = .exit 4 ∧ Boxed A W.heap.size 3 (.int .i64 pre.length) ∧ pre.length = y + 1) (pre ++ [x]) Z .normal a (Z.setCell ⟨W.heap.size, 0, none⟩ (.int .i64 (pre ++ [x]).length))) := fun _ => ⟨F1.out.1, F1.out.2, by omega⟩
        clear F1 hK hbl hzZ hBZ hi2 hi
        generalize (pre ++ [x]).length = N2 at *
        gi_wp2
        exact FIN.out _
    case done3 =>
      rintro D1 Y hD2 ⟨ha, hay⟩ hBY hdf3
      obtain ⟨A, hAe⟩ : ∃ A, (lines s).length = A := ⟨_, rfl⟩
      have hA : A = (lines s).length ∨ (A = y + 1 ∧ A ≤ (lines s).length) := .inl hAe.symm
      rw [hAe] at ha
      clear hAe hay
      have hXY := hBY.size
      have q0 : Boxed Y w.heap.size 3 (.int .i64 y) := (hBY.same _ p0.lt (by omega)).trans p0
      have q1 : Boxed Y (w.heap.size + 1) 4 (.bool false) := (hBY.same _ p1.lt (by omega)).trans p1
      have q4 : Boxed Y (w.heap.size + 1 + 1 + 1 + 1) 9 (.string s) := (hBY.same _ p4.lt (by omega)).trans p4
      have q5 : Boxed Y w1.heap.size 24 (.slice oa (signs s).length ca) := (hBY.same _ p5.lt (by omega)).trans p5
      have q6 : Boxed Y (w1.heap.size + 1) 3 (.int .i64 (signs s).length) := (hBY.same _ p6.lt (by omega)).trans p6
      have hdf4 : Y.heap[D0]? = some (.deferred (some [])) := (hBY.same _ (by omega) (by omega)).trans hdf2
      have hD3 : D1 < Y.heap.size := (Array.getElem?_eq_some_iff.1 hdf3).1
      have bY : Below w.heap.size w Y := bX.trans (hBY.below (by omega) (fun k e => by omega))
      clear p0 p1 p4 p5 p6 p7 hdf2 bX hBY
      have r0 : Boxed (Y.alloc (.cells #[.int .i64 0] 3)) w.heap.size 3 (.int .i64 y) := q0.alloc _
      have r1 : Boxed (Y.alloc (.cells #[.int .i64 0] 3)) (w.heap.size + 1) 4 (.bool false) := q1.alloc _
      have r4 : Boxed (Y.alloc (.cells #[.int .i64 0] 3)) (w.heap.size + 1 + 1 + 1 + 1) 9 (.string s) := q4.alloc _
      have r5 : Boxed (Y.alloc (.cells #[.int .i64 0] 3)) w1.heap.size 24 (.slice oa (signs s).length ca) := q5.alloc _
      have r6 : Boxed (Y.alloc (.cells #[.int .i64 0] 3)) (w1.heap.size + 1) 3 (.int .i64 (signs s).length) := q6.alloc _
      have ra : Boxed (Y.alloc (.cells #[.int .i64 0] 3)) W.heap.size 3 (.int .i64 A) := ha.alloc _
      have r7 : Boxed (Y.alloc (.cells #[.int .i64 0] 3)) Y.heap.size 3 (.int .i64 0) := Boxed.new Y 3 _
      have e0 : (Y.alloc (.cells #[.int .i64 0] 3)).heap[D0]? = some (.deferred (some [])) := (Below.heap_alloc _ _ _ (by omega)).trans hdf4
      have e1 : (Y.alloc (.cells #[.int .i64 0] 3)).heap[D1]? = some (.deferred (some [])) := (Below.heap_alloc _ _ _ (by omega)).trans hdf3
      have hzT1 : Y.heap.size + 1 ≤ (Y.alloc (.cells #[.int .i64 0] 3)).heap.size := by rw [World.size_alloc]; omega
      have bT : Below w.heap.size w (Y.alloc (.cells #[.int .i64 0] 3)) := bY.alloc (by omega) _
      have HY := hideO (And.intro r0 (And.intro r1 (And.intro r4 (And.intro r5 (And.intro r6 (And.intro ra (And.intro r7 (And.intro e0 (And.intro e1 (And.intro hzT1 bT))))))))))
      clear r0 r1 r4 r5 r6 ra r7 e0 e1 hzT1 bT q0 q1 q4 q5 q6 ha hdf4 hdf3
      gi_wp2
      obtain ⟨r0, r1, r4, r5, r6, ra, r7, e0, e1, hzT1, bT⟩ := HY.out
      clear HY
      generalize Y.alloc (.cells #[.int .i64 0] 3) = T at *
      refine rangeFunc_box (α := Ln s) (by omega) (gf := 70) (lb := #[.pointer (some ⟨w.heap.size + 1 + 1 + 1 + 1, 0, none⟩)]) rfl (enters_of Tryd.func70 (by kernel_rfl) rfl)
        (lines_seqS (30 - 1) (w.heap.size + 1 + 1 + 1 + 1) (by omega) s (by omega) T (by omega) r4.cell) (fun _ => rfl) (fun k => k = Y.heap.size) (fun k e => ⟨by omega, by omega⟩)
        (fun pre A => Boxed A Y.heap.size 3 (.int .i64 pre.length)) (fun _ _ _ => False)
        (fun pre A B h hk => (hk.same _ h.lt (.inl (by omega))).trans h) (fun _ _ _ _ h _ => h) r7 ?round4 ?done4 ?stop4
      case stop4 =>
        rintro D c pre A hD hpre h hB hK
        exact h.elim
      case round4 =>
        rintro l pre x V2 K hm1 hm2 hm3 hm4 _ hi hpx hK
        simp only [Ln.vals]
        gi_wp2
        refine hK _ _ (Below.refl _ _) ?_
        intro Z hbl hzZ hBZ hi2 _
        have k7 := hi2.cell
        have f7 := hi2.frozen
        have hpl := hpx.length_le
        have hn2' : (pre.length : Int) + 1 = ((pre ++ [x]).length : Nat) := by simp
        have hnb2 : (pre ++ [x]).length ≤ 1048577 := by omega
        have FIN : Hid (∀ a, boxPost (T.heap.size + 2 + 0) (fun k => k = Y.heap.size) (fun (pre : List (Ln s)) A => Boxed A Y.heap.size 3 (.int .i64 pre.length)) (fun _ _ _ => False) (pre ++ [x]) Z .normal a (Z.setCell ⟨Y.heap.size, 0, none⟩ (.int .i64 (pre ++ [x]).length))) := fun _ => ⟨(But.refl _ _).setCell (p := ⟨Y.heap.size, 0, none⟩) (.inl rfl) _, Boxed.set _ hi2⟩
        clear hK hbl hzZ hBZ hi2 hi hpl hpx
        generalize (pre ++ [x]).length = N2 at *
        gi_wp2
        exact FIN.out _
      case done4 =>
        intro D2 G hD4 hb hBG hdf5
        have hTG := hBG.size
        have g0 : Boxed G w.heap.size 3 (.int .i64 y) := (hBG.same _ r0.lt (by omega)).trans r0
        have g1 : Boxed G (w.heap.size + 1) 4 (.bool false) := (hBG.same _ r1.lt (by omega)).trans r1
        have g5 : Boxed G w1.heap.size 24 (.slice oa (signs s).length ca) := (hBG.same _ r5.lt (by omega)).trans r5
        have g6 : Boxed G (w1.heap.size + 1) 3 (.int .i64 (signs s).length) := (hBG.same _ r6.lt (by omega)).trans r6
        have ga : Boxed G W.heap.size 3 (.int .i64 A) := (hBG.same _ ra.lt (by omega)).trans ra
        have h0 : G.heap[D0]? = some (.deferred (some [])) := (hBG.same _ (Array.getElem?_eq_some_iff.1 e0).1 (by omega)).trans e0
        have h1 : G.heap[D1]? = some (.deferred (some [])) := (hBG.same _ (Array.getElem?_eq_some_iff.1 e1).1 (by omega)).trans e1
        have bG : Below w.heap.size w G := bT.trans (hBG.below (by omega) (fun k e => by omega))
        clear r0 r1 r4 r5 r6 ra r7 e0 e1 bT hBG
        have k0 := g0.cell
        have k1 := g1.cell
        have k5 := g5.cell
        have k6 := g6.cell
        have ka := ga.cell
        have kb := hb.cell
        obtain ⟨Bl, hBl⟩ : ∃ Bl, (lines s).length = Bl := ⟨_, rfl⟩
        rw [hBl] at hA kb
        clear hBl
        by_cases hAB : A = Bl
        · skip
          have t1 : ((A : Int) == (Bl : Int)) = true := by rw [beq_iff_eq]; omega
          clear hA hAB
          gi_wp2_with fail
          refine ⟨trivial, (callsIn_wide.2 (head_any G (by omega) (tabs_below hw hT bG))).mono ?_⟩
          rintro e w' ⟨rfl, bh⟩
          have hsh := bh.size
          have m1 : Boxed w' (w.heap.size + 1) 4 (.bool false) := (bh.block _ g1.lt).trans g1
          have n0 := (bh.block _ (Array.getElem?_eq_some_iff.1 h0).1).trans h0
          have n1 := (bh.block _ (Array.getElem?_eq_some_iff.1 h1).1).trans h1
          have n2 := (bh.block _ (Array.getElem?_eq_some_iff.1 hdf5).1).trans hdf5
          have km := m1.cell
          have fm := m1.frozen
          have HN := hideO (And.intro n0 (And.intro n1 n2))
          have bw' := bG.trans (bh.mono (by omega))
          clear n0 n1 n2 h0 h1 hdf5
          gi_wp2
          obtain ⟨n0, n1, n2⟩ := HN.out
          have l0 : (w'.setCell ⟨w.heap.size + 1, 0, none⟩ (.bool true)).heap[D0]? = some (.deferred (some [])) := (Below.heap_setCell _ _ _ _ (by show D0 ≠ w.heap.size + 1; omega)).trans n0
          have l1 : (w'.setCell ⟨w.heap.size + 1, 0, none⟩ (.bool true)).heap[D1]? = some (.deferred (some [])) := (Below.heap_setCell _ _ _ _ (by show D1 ≠ w.heap.size + 1; omega)).trans n1
          have l2 : (w'.setCell ⟨w.heap.size + 1, 0, none⟩ (.bool true)).heap[D2]? = some (.deferred (some [])) := (Below.heap_setCell _ _ _ _ (by show D2 ≠ w.heap.size + 1; omega)).trans n2
          have hne1 : D1 ≠ D2 := by omega
          have hne0 : D0 ≠ D2 := by omega
          have hne2 : D0 ≠ D1 := by omega
          refine ⟨by simp, .inl ⟨_, _, rfl, run_takeDeferred l2, ?_⟩⟩
          refine ⟨by simp, .inl ⟨_, _, rfl, run_takeDeferred ((World.putObj_heap_other hne1).trans l1), ?_⟩⟩
          refine ⟨by simp, .inl ⟨_, _, rfl, run_takeDeferred ((World.putObj_heap_other hne2).trans ((World.putObj_heap_other hne0).trans l0)), ?_⟩⟩
          have z0 : ((((w'.setCell ⟨w.heap.size + 1, 0, none⟩ (.bool true)).putObj D2 (.deferred none)).putObj D1 (.deferred none)).putObj D0 (.deferred none)).cell? ⟨w.heap.size + 1, 0, none⟩ = some (.bool true) :=
            (World.cell?_of_block ((World.putObj_heap_other (by show w.heap.size + 1 ≠ D0; omega)).trans ((World.putObj_heap_other (by show w.heap.size + 1 ≠ D1; omega)).trans (World.putObj_heap_other (by show w.heap.size + 1 ≠ D2; omega))))).trans (Boxed.set (.bool true) m1).cell
          refine ⟨.bool true, by simp [results, Tryd.f16, go_sem, z0], rfl, ?_⟩
          exact (((bw'.setCell (p := ⟨w.heap.size + 1, 0, none⟩) (by simp) _).trans ((putObj_belowL _ _ _).mono (by omega))).trans ((putObj_belowL _ _ _).mono (by omega))).trans ((putObj_belowL _ _ _).mono (by omega))
        · skip
          have t1 : ((A : Int) == (Bl : Int)) = false := by rw [beq_eq_false_iff_ne]; omega
          have t2 : ((A : Int) == (y : Int) + 1) = true := by rw [beq_iff_eq]; omega
          have t3 : (A : Int) ≤ (Bl : Int) := by omega
          have hyb : y ≤ 1048576 := by omega
          clear hA hAB
          gi_wp2_with fail
          refine ⟨trivial, (callsIn_wide.2 (head_any G (by omega) (tabs_below hw hT bG))).mono ?_⟩
          rintro e w' ⟨rfl, bh⟩
          have hsh := bh.size
          have m1 : Boxed w' (w.heap.size + 1) 4 (.bool false) := (bh.block _ g1.lt).trans g1
          have n0 := (bh.block _ (Array.getElem?_eq_some_iff.1 h0).1).trans h0
          have n1 := (bh.block _ (Array.getElem?_eq_some_iff.1 h1).1).trans h1
          have n2 := (bh.block _ (Array.getElem?_eq_some_iff.1 hdf5).1).trans hdf5
          have km := m1.cell
          have fm := m1.frozen
          have HN := hideO (And.intro n0 (And.intro n1 n2))
          have bw' := bG.trans (bh.mono (by omega))
          clear n0 n1 n2 h0 h1 hdf5
          gi_wp2
          obtain ⟨n0, n1, n2⟩ := HN.out
          have l0 : (w'.setCell ⟨w.heap.size + 1, 0, none⟩ (.bool true)).heap[D0]? = some (.deferred (some [])) := (Below.heap_setCell _ _ _ _ (by show D0 ≠ w.heap.size + 1; omega)).trans n0
          have l1 : (w'.setCell ⟨w.heap.size + 1, 0, none⟩ (.bool true)).heap[D1]? = some (.deferred (some [])) := (Below.heap_setCell _ _ _ _ (by show D1 ≠ w.heap.size + 1; omega)).trans n1
          have l2 : (w'.setCell ⟨w.heap.size + 1, 0, none⟩ (.bool true)).heap[D2]? = some (.deferred (some [])) := (Below.heap_setCell _ _ _ _ (by show D2 ≠ w.heap.size + 1; omega)).trans n2
          have hne1 : D1 ≠ D2 := by omega
          have hne0 : D0 ≠ D2 := by omega
          have hne2 : D0 ≠ D1 := by omega
          refine ⟨by simp, .inl ⟨_, _, rfl, run_takeDeferred l2, ?_⟩⟩
          refine ⟨by simp, .inl ⟨_, _, rfl, run_takeDeferred ((World.putObj_heap_other hne1).trans l1), ?_⟩⟩
          refine ⟨by simp, .inl ⟨_, _, rfl, run_takeDeferred ((World.putObj_heap_other hne2).trans ((World.putObj_heap_other hne0).trans l0)), ?_⟩⟩
          have z0 : ((((w'.setCell ⟨w.heap.size + 1, 0, none⟩ (.bool true)).putObj D2 (.deferred none)).putObj D1 (.deferred none)).putObj D0 (.deferred none)).cell? ⟨w.heap.size + 1, 0, none⟩ = some (.bool true) :=
            (World.cell?_of_block ((World.putObj_heap_other (by show w.heap.size + 1 ≠ D0; omega)).trans ((World.putObj_heap_other (by show w.heap.size + 1 ≠ D1; omega)).trans (World.putObj_heap_other (by show w.heap.size + 1 ≠ D2; omega))))).trans (Boxed.set (.bool true) m1).cell
          refine ⟨.bool true, by simp [results, Tryd.f16, go_sem, z0], rfl, ?_⟩
          exact (((bw'.setCell (p := ⟨w.heap.size + 1, 0, none⟩) (by simp) _).trans ((putObj_belowL _ _ _).mono (by omega))).trans ((putObj_belowL _ _ _).mono (by omega))).trans ((putObj_belowL _ _ _).mono (by omega))
    case stop3 =>
      rintro D1 c pre Y hD2 hpre ⟨rfl, ha, hay⟩ hBY hdf3
      obtain ⟨A, hAe⟩ : ∃ A, pre.length = A := ⟨_, rfl⟩
      have hA : A = (lines s).length ∨ (A = y + 1 ∧ A ≤ (lines s).length) := .inr ⟨by omega, by have := hpre.length_le; omega⟩
      rw [hAe] at ha
      clear hAe hay hpre
      have hXY := hBY.size
      have q0 : Boxed Y w.heap.size 3 (.int .i64 y) := (hBY.same _ p0.lt (by omega)).trans p0
      have q1 : Boxed Y (w.heap.size + 1) 4 (.bool false) := (hBY.same _ p1.lt (by omega)).trans p1
      have q4 : Boxed Y (w.heap.size + 1 + 1 + 1 + 1) 9 (.string s) := (hBY.same _ p4.lt (by omega)).trans p4
      have q5 : Boxed Y w1.heap.size 24 (.slice oa (signs s).length ca) := (hBY.same _ p5.lt (by omega)).trans p5
      have q6 : Boxed Y (w1.heap.size + 1) 3 (.int .i64 (signs s).length) := (hBY.same _ p6.lt (by omega)).trans p6
      have hdf4 : Y.heap[D0]? = some (.deferred (some [])) := (hBY.same _ (by omega) (by omega)).trans hdf2
      have hD3 : D1 < Y.heap.size := (Array.getElem?_eq_some_iff.1 hdf3).1
      have bY : Below w.heap.size w Y := bX.trans (hBY.below (by omega) (fun k e => by omega))
      clear p0 p1 p4 p5 p6 p7 hdf2 bX hBY
      have r0 : Boxed (Y.alloc (.cells #[.int .i64 0] 3)) w.heap.size 3 (.int .i64 y) := q0.alloc _
      have r1 : Boxed (Y.alloc (.cells #[.int .i64 0] 3)) (w.heap.size + 1) 4 (.bool false) := q1.alloc _
      have r4 : Boxed (Y.alloc (.cells #[.int .i64 0] 3)) (w.heap.size + 1 + 1 + 1 + 1) 9 (.string s) := q4.alloc _
      have r5 : Boxed (Y.alloc (.cells #[.int .i64 0] 3)) w1.heap.size 24 (.slice oa (signs s).length ca) := q5.alloc _
      have r6 : Boxed (Y.alloc (.cells #[.int .i64 0] 3)) (w1.heap.size + 1) 3 (.int .i64 (signs s).length) := q6.alloc _
      have ra : Boxed (Y.alloc (.cells #[.int .i64 0] 3)) W.heap.size 3 (.int .i64 A) := ha.alloc _
      have r7 : Boxed (Y.alloc (.cells #[.int .i64 0] 3)) Y.heap.size 3 (.int .i64 0) := Boxed.new Y 3 _
      have e0 : (Y.alloc (.cells #[.int .i64 0] 3)).heap[D0]? = some (.deferred (some [])) := (Below.heap_alloc _ _ _ (by omega)).trans hdf4
      have e1 : (Y.alloc (.cells #[.int .i64 0] 3)).heap[D1]? = some (.deferred (some [])) := (Below.heap_alloc _ _ _ (by omega)).trans hdf3
      have hzT1 : Y.heap.size + 1 ≤ (Y.alloc (.cells #[.int .i64 0] 3)).heap.size := by rw [World.size_alloc]; omega
      have bT : Below w.heap.size w (Y.alloc (.cells #[.int .i64 0] 3)) := bY.alloc (by omega) _
      have HY := hideO (And.intro r0 (And.intro r1 (And.intro r4 (And.intro r5 (And.intro r6 (And.intro ra (And.intro r7 (And.intro e0 (And.intro e1 (And.intro hzT1 bT))))))))))
      clear r0 r1 r4 r5 r6 ra r7 e0 e1 hzT1 bT q0 q1 q4 q5 q6 ha hdf4 hdf3
      gi_wp2
      obtain ⟨r0, r1, r4, r5, r6, ra, r7, e0, e1, hzT1, bT⟩ := HY.out
      clear HY
      generalize Y.alloc (.cells #[.int .i64 0] 3) = T at *
      refine rangeFunc_box (α := Ln s) (by omega) (gf := 70) (lb := #[.pointer (some ⟨w.heap.size + 1 + 1 + 1 + 1, 0, none⟩)]) rfl (enters_of Tryd.func70 (by kernel_rfl) rfl)
        (lines_seqS (30 - 1) (w.heap.size + 1 + 1 + 1 + 1) (by omega) s (by omega) T (by omega) r4.cell) (fun _ => rfl) (fun k => k = Y.heap.size) (fun k e => ⟨by omega, by omega⟩)
        (fun pre A => Boxed A Y.heap.size 3 (.int .i64 pre.length)) (fun _ _ _ => False)
        (fun pre A B h hk => (hk.same _ h.lt (.inl (by omega))).trans h) (fun _ _ _ _ h _ => h) r7 ?round4 ?done4 ?stop4
      case stop4 =>
        rintro D c pre A hD hpre h hB hK
        exact h.elim
      case round4 =>
        rintro l pre x V2 K hm1 hm2 hm3 hm4 _ hi hpx hK
        simp only [Ln.vals]
        gi_wp2
        refine hK _ _ (Below.refl _ _) ?_
        intro Z hbl hzZ hBZ hi2 _
        have k7 := hi2.cell
        have f7 := hi2.frozen
        have hpl := hpx.length_le
        have hn2' : (pre.length : Int) + 1 = ((pre ++ [x]).length : Nat) := by simp
        have hnb2 : (pre ++ [x]).length ≤ 1048577 := by omega
        have FIN : Hid (∀ a, boxPost (T.heap.size + 2 + 0) (fun k => k = Y.heap.size) (fun (pre : List (Ln s)) A => Boxed A Y.heap.size 3 (.int .i64 pre.length)) (fun _ _ _ => False) (pre ++ [x]) Z .normal a (Z.setCell ⟨Y.heap.size, 0, none⟩ (.int .i64 (pre ++ [x]).length))) := fun _ => ⟨(But.refl _ _).setCell (p := ⟨Y.heap.size, 0, none⟩) (.inl rfl) _, Boxed.set _ hi2⟩
        clear hK hbl hzZ hBZ hi2 hi hpl hpx
        generalize (pre ++ [x]).length = N2 at *
        gi_wp2
        exact FIN.out _
      case done4 =>
        intro D2 G hD4 hb hBG hdf5
        have hTG := hBG.size
        have g0 : Boxed G w.heap.size 3 (.int .i64 y) := (hBG.same _ r0.lt (by omega)).trans r0
        have g1 : Boxed G (w.heap.size + 1) 4 (.bool false) := (hBG.same _ r1.lt (by omega)).trans r1
        have g5 : Boxed G w1.heap.size 24 (.slice oa (signs s).length ca) := (hBG.same _ r5.lt (by omega)).trans r5
        have g6 : Boxed G (w1.heap.size + 1) 3 (.int .i64 (signs s).length) := (hBG.same _ r6.lt (by omega)).trans r6
        have ga : Boxed G W.heap.size 3 (.int .i64 A) := (hBG.same _ ra.lt (by omega)).trans ra
        have h0 : G.heap[D0]? = some (.deferred (some [])) := (hBG.same _ (Array.getElem?_eq_some_iff.1 e0).1 (by omega)).trans e0
        have h1 : G.heap[D1]? = some (.deferred (some [])) := (hBG.same _ (Array.getElem?_eq_some_iff.1 e1).1 (by omega)).trans e1
        have bG : Below w.heap.size w G := bT.trans (hBG.below (by omega) (fun k e => by omega))
        clear r0 r1 r4 r5 r6 ra r7 e0 e1 bT hBG
        have k0 := g0.cell
        have k1 := g1.cell
        have k5 := g5.cell
        have k6 := g6.cell
        have ka := ga.cell
        have kb := hb.cell
        obtain ⟨Bl, hBl⟩ : ∃ Bl, (lines s).length = Bl := ⟨_, rfl⟩
        rw [hBl] at hA kb
        clear hBl
        by_cases hAB : A = Bl
        · skip
          have t1 : ((A : Int) == (Bl : Int)) = true := by rw [beq_iff_eq]; omega
          clear hA hAB
          gi_wp2_with fail
          refine ⟨trivial, (callsIn_wide.2 (head_any G (by omega) (tabs_below hw hT bG))).mono ?_⟩
          rintro e w' ⟨rfl, bh⟩
          have hsh := bh.size
          have m1 : Boxed w' (w.heap.size + 1) 4 (.bool false) := (bh.block _ g1.lt).trans g1
          have n0 := (bh.block _ (Array.getElem?_eq_some_iff.1 h0).1).trans h0
          have n1 := (bh.block _ (Array.getElem?_eq_some_iff.1 h1).1).trans h1
          have n2 := (bh.block _ (Array.getElem?_eq_some_iff.1 hdf5).1).trans hdf5
          have km := m1.cell
          have fm := m1.frozen
          have HN := hideO (And.intro n0 (And.intro n1 n2))
          have bw' := bG.trans (bh.mono (by omega))
          clear n0 n1 n2 h0 h1 hdf5
          gi_wp2
          obtain ⟨n0, n1, n2⟩ := HN.out
          have l0 : (w'.setCell ⟨w.heap.size + 1, 0, none⟩ (.bool true)).heap[D0]? = some (.deferred (some [])) := (Below.heap_setCell _ _ _ _ (by show D0 ≠ w.heap.size + 1; omega)).trans n0
          have l1 : (w'.setCell ⟨w.heap.size + 1, 0, none⟩ (.bool true)).heap[D1]? = some (.deferred (some [])) := (Below.heap_setCell _ _ _ _ (by show D1 ≠ w.heap.size + 1; omega)).trans n1
          have l2 : (w'.setCell ⟨w.heap.size + 1, 0, none⟩ (.bool true)).heap[D2]? = some (.deferred (some [])) := (Below.heap_setCell _ _ _ _ (by show D2 ≠ w.heap.size + 1; omega)).trans n2
          have hne1 : D1 ≠ D2 := by omega
          have hne0 : D0 ≠ D2 := by omega
          have hne2 : D0 ≠ D1 := by omega
          refine ⟨by simp, .inl ⟨_, _, rfl, run_takeDeferred l2, ?_⟩⟩
          refine ⟨by simp, .inl ⟨_, _, rfl, run_takeDeferred ((World.putObj_heap_other hne1).trans l1), ?_⟩⟩
          refine ⟨by simp, .inl ⟨_, _, rfl, run_takeDeferred ((World.putObj_heap_other hne2).trans ((World.putObj_heap_other hne0).trans l0)), ?_⟩⟩
          have z0 : ((((w'.setCell ⟨w.heap.size + 1, 0, none⟩ (.bool true)).putObj D2 (.deferred none)).putObj D1 (.deferred none)).putObj D0 (.deferred none)).cell? ⟨w.heap.size + 1, 0, none⟩ = some (.bool true) :=
            (World.cell?_of_block ((World.putObj_heap_other (by show w.heap.size + 1 ≠ D0; omega)).trans ((World.putObj_heap_other (by show w.heap.size + 1 ≠ D1; omega)).trans (World.putObj_heap_other (by show w.heap.size + 1 ≠ D2; omega))))).trans (Boxed.set (.bool true) m1).cell
          refine ⟨.bool true, by simp [results, Tryd.f16, go_sem, z0], rfl, ?_⟩
          exact (((bw'.setCell (p := ⟨w.heap.size + 1, 0, none⟩) (by simp) _).trans ((putObj_belowL _ _ _).mono (by omega))).trans ((putObj_belowL _ _ _).mono (by omega))).trans ((putObj_belowL _ _ _).mono (by omega))
        · skip
          have t1 : ((A : Int) == (Bl : Int)) = false := by rw [beq_eq_false_iff_ne]; omega
          have t2 : ((A : Int) == (y : Int) + 1) = true := by rw [beq_iff_eq]; omega
          have t3 : (A : Int) ≤ (Bl : Int) := by omega
          have hyb : y ≤ 1048576 := by omega
          clear hA hAB
          gi_wp2_with fail
          refine ⟨trivial, (callsIn_wide.2 (head_any G (by omega) (tabs_below hw hT bG))).mono ?_⟩
          rintro e w' ⟨rfl, bh⟩
          have hsh := bh.size
          have m1 : Boxed w' (w.heap.size + 1) 4 (.bool false) := (bh.block _ g1.lt).trans g1
          have n0 := (bh.block _ (Array.getElem?_eq_some_iff.1 h0).1).trans h0
          have n1 := (bh.block _ (Array.getElem?_eq_some_iff.1 h1).1).trans h1
          have n2 := (bh.block _ (Array.getElem?_eq_some_iff.1 hdf5).1).trans hdf5
          have km := m1.cell
          have fm := m1.frozen
          have HN := hideO (And.intro n0 (And.intro n1 n2))
          have bw' := bG.trans (bh.mono (by omega))
          clear n0 n1 n2 h0 h1 hdf5
          gi_wp2
          obtain ⟨n0, n1, n2⟩ := HN.out
          have l0 : (w'.setCell ⟨w.heap.size + 1, 0, none⟩ (.bool true)).heap[D0]? = some (.deferred (some [])) := (Below.heap_setCell _ _ _ _ (by show D0 ≠ w.heap.size + 1; omega)).trans n0
          have l1 : (w'.setCell ⟨w.heap.size + 1, 0, none⟩ (.bool true)).heap[D1]? = some (.deferred (some [])) := (Below.heap_setCell _ _ _ _ (by show D1 ≠ w.heap.size + 1; omega)).trans n1
          have l2 : (w'.setCell ⟨w.heap.size + 1, 0, none⟩ (.bool true)).heap[D2]? = some (.deferred (some [])) := (Below.heap_setCell _ _ _ _ (by show D2 ≠ w.heap.size + 1; omega)).trans n2
          have hne1 : D1 ≠ D2 := by omega
          have hne0 : D0 ≠ D2 := by omega
          have hne2 : D0 ≠ D1 := by omega
          refine ⟨by simp, .inl ⟨_, _, rfl, run_takeDeferred l2, ?_⟩⟩
          refine ⟨by simp, .inl ⟨_, _, rfl, run_takeDeferred ((World.putObj_heap_other hne1).trans l1), ?_⟩⟩
          refine ⟨by simp, .inl ⟨_, _, rfl, run_takeDeferred ((World.putObj_heap_other hne2).trans ((World.putObj_heap_other hne0).trans l0)), ?_⟩⟩
          have z0 : ((((w'.setCell ⟨w.heap.size + 1, 0, none⟩ (.bool true)).putObj D2 (.deferred none)).putObj D1 (.deferred none)).putObj D0 (.deferred none)).cell? ⟨w.heap.size + 1, 0, none⟩ = some (.bool true) :=
            (World.cell?_of_block ((World.putObj_heap_other (by show w.heap.size + 1 ≠ D0; omega)).trans ((World.putObj_heap_other (by show w.heap.size + 1 ≠ D1; omega)).trans (World.putObj_heap_other (by show w.heap.size + 1 ≠ D2; omega))))).trans (Boxed.set (.bool true) m1).cell
          refine ⟨.bool true, by simp [results, Tryd.f16, go_sem, z0], rfl, ?_⟩
          exact (((bw'.setCell (p := ⟨w.heap.size + 1, 0, none⟩) (by simp) _).trans ((putObj_belowL _ _ _).mono (by omega))).trans ((putObj_belowL _ _ _).mono (by omega))).trans ((putObj_belowL _ _ _).mono (by omega))
end Go.Proofs.YtofhmecbcmahaaaDoor
