/- The contract of utf.Repair: the text of a text's runes, and how many signs were bad. -/
import Derived.Test.YtofhmecbcmahaaaDoorSbW
import Derived.Test.YtofhmecbcmahaaaDoorBldL
namespace Go.Proofs.YtofhmecbcmahaaaDoor
open Go.RowKit Go.Shelf
attribute [local go_sem] Oper.semAt_some

/-- How many of these signs are bad. -/
def badN (l : List Sb) : Nat := (l.filter fun x => x.g.bad).length
theorem badN_snoc (l : List Sb) (x : Sb) : badN (l ++ [x]) = badN l + if x.g.bad then 1 else 0 := by
  unfold badN
  rw [List.filter_append, List.length_append]
  cases h : x.g.bad <;> simp [h]
theorem badN_le (l : List Sb) : badN l ≤ l.length := List.length_filter_le _ _
/-- The bytes of the runes of these signs. -/
def runeB (l : List Sb) : List UInt8 := textL (l.map fun x => x.g.rune)
theorem runeB_snoc (l : List Sb) (x : Sb) : Lib.byteCells (runeB (l ++ [x])) = Lib.byteCells (runeB l) ++ Lib.runeCells x.g.rune := by
  unfold runeB
  rw [List.map_append, textL_append, ← Lib.byteCells_encodeRune, encRune]
  simp [Lib.byteCells, textL]
theorem runeB_le (l : List Sb) : (runeB l).length ≤ 4 * l.length := by
  unfold runeB
  induction l with
  | nil => simp [textL]
  | cons x l ih =>
    have := encN_length (fixN x.g.rune)
    simp only [List.map_cons, textL, List.length_append, List.length_cons] at *
    omega

theorem isB_kept {T e : TypeId} {B b : Nat} {bs : List Value} {A C : World} {row : Option Nat} (h : Lib.IsBuilderF T e B b bs A) (hg : A.grownBy C row) (hr : ∀ k, row = some k → ∃ o, A.heap[k]? = some o ∧ o.isCells = false) : Lib.IsBuilderF T e B b bs C := by
  have key : ∀ p, Lib.BuilderAtF T e B b p bs A → Lib.BuilderAtF T e B b p bs C := by
    rintro p ⟨hB, v, hb, hown, hne⟩
    have nb : ∀ (k : Nat) (c : Array Value) (t : TypeId) (f : Nat × Nat), A.heap[k]? = some (.cells c t f) → C.heap[k]? = some (.cells c t f) := fun k c t f hk => by
      refine (hg.block k (Array.getElem?_eq_some_iff.1 hk).1 (fun e1 => ?_)).trans hk
      obtain ⟨o, ho, hc⟩ := hr k e1.symm
      rw [hk] at ho
      cases ho
      cases hc
    refine ⟨hB, v, nb _ _ _ _ hb, ⟨hown.1, ?_⟩, hne⟩
    rcases hown.2 with hn | ⟨g, cap, cur, fz, rfl, hbg, hgg, rest⟩
    · exact .inl hn
    · exact .inr ⟨g, cap, cur, fz, rfl, hbg, nb _ _ _ _ hgg, rest⟩
  exact h.elim (fun x => .inl (key _ x)) (fun x => .inr (key _ x))
theorem isB_set {T e : TypeId} {B b : Nat} {bs : List Value} {A : World} {k t : Nat} {v u : Value} (h : Lib.IsBuilderF T e B b bs A) (hk : Boxed A k t v) (hb : b ≠ k) (ht : t ≠ e) : Lib.IsBuilderF T e B b bs (A.setCell ⟨k, 0, none⟩ u) := by
  have key : ∀ p, Lib.BuilderAtF T e B b p bs A → Lib.BuilderAtF T e B b p bs (A.setCell ⟨k, 0, none⟩ u) := by
    rintro p ⟨hB, v', hb', hown, hne⟩
    refine ⟨hB, v', (Below.heap_setCell _ _ _ _ hb).trans hb', ⟨hown.1, ?_⟩, hne⟩
    rcases hown.2 with hn | ⟨g, cap, cur, fz, rfl, hbg, hgg, rest⟩
    · exact .inl hn
    · refine .inr ⟨g, cap, cur, fz, rfl, hbg, (Below.heap_setCell _ _ _ _ (fun e1 => ?_)).trans hgg, rest⟩
      have e2 : g = k := e1
      subst e2
      rw [show A.heap[g]? = _ from hk] at hgg
      cases hgg
      exact ht rfl
  exact h.elim (fun x => .inl (key _ x)) (fun x => .inr (key _ x))
theorem boxed_others {A C : World} {e : TypeId} {b k t : Nat} {v : Value} (h : Boxed A k t v) (hk : Lib.OthersKept e (some b) A C) (hb : k ≠ b) (ht : t ≠ e) : Boxed C k t v :=
  hk k _ h (fun e1 => hb (Option.some.inj e1)) (fun c fz e1 => by cases e1; exact ht rfl)

theorem others_keeps {A C : World} {T e : TypeId} {B b : Nat} {bs : List Value} (hk : Lib.OthersKept e (some b) A C) (h : Lib.IsBuilderF T e B b bs A) (hz : A.heap.size ≤ C.heap.size) : KeepsOthers A C :=
  ⟨hz, fun k o ho hc => hk k o ho (fun e1 => by
    have e2 : k = b := Option.some.inj e1
    subst e2
    rcases h with ⟨_, v, hb, _⟩ | ⟨_, v, hb, _⟩
    all_goals
      rw [hb] at ho
      cases ho
      cases hc) (fun c fz e1 => by rw [e1] at hc; cases hc)⟩

set_option maxRecDepth 100000 in
set_option maxHeartbeats 4000000 in
theorem repair_any (s : ByteArray) (hs : s.size ≤ 16777216) (w : World) :
    Calls Tryd.prog 30 #[.string s] w fun e w' => e = .returned (.tuple #[.string ⟨(runeB (sbsL s)).toArray⟩, .int .i64 (badN (sbsL s))]) ∧ Below w.heap.size w w' := by
  refine (callsIn_wide (n := 9)).1 ?_
  refine callsIn_of_wp_marks Tryd.func30 rfl trivial ?_ rfl
  simp only [Tryd.ntmps30, List.size_toArray, List.length_cons, List.length_nil, Nat.reduceAdd, Nat.reduceSub, Array.replicate_succ, Array.replicate_zero, List.push_toArray, List.append_toArray, List.nil_append, List.cons_append]
  gi_wp2_with (refine ⟨trivial, ?_⟩; gi_at_call 51; refine (callsIn_wide.2 (signs_mk _ _)).mono ?_; rintro e w' ⟨rfl, rfl⟩)
  obtain ⟨V, hV⟩ : ∃ V, ((w.alloc (.cells #[.pointer none, .slice none 0 0] 90)).alloc (.cells #[.int .i64 0] 3)).alloc (.cells #[.string s] 9) = V := ⟨_, rfl⟩
  have b0 : Lib.IsBuilderF 90 5 w.heap.size w.heap.size (Lib.byteCells (runeB [])) V := by
    rw [← hV]
    refine .inl ⟨Nat.le_refl _, .slice none 0 0, ?_, ⟨rfl, .inl ⟨rfl, rfl⟩⟩, by simp [Value.ownBlock]⟩
    exact (Below.heap_alloc _ _ _ (by simp; omega)).trans ((Below.heap_alloc _ _ _ (by simp)).trans (World.alloc_heap_new w _))
  have b1 : Boxed V (w.heap.size + 1) 3 (.int .i64 0) := by
    rw [← hV]
    have := Boxed.new (w.alloc (.cells #[.pointer none, .slice none 0 0] 90)) 3 (.int .i64 0)
    rw [World.size_alloc] at this
    exact this.alloc _
  have b2 : Boxed V (w.heap.size + 1 + 1) 9 (.string s) := by
    rw [← hV]
    have := Boxed.new ((w.alloc (.cells #[.pointer none, .slice none 0 0] 90)).alloc (.cells #[.int .i64 0] 3)) 9 (.string s)
    rw [World.size_alloc, World.size_alloc] at this
    exact this
  have hB : Below w.heap.size w V := by rw [← hV]; exact (((Below.refl _ w).alloc (Nat.le_refl _) _).alloc (by simp) _).alloc (by simp; omega) _
  have hz : V.heap.size = w.heap.size + 3 := by rw [← hV]; simp
  have hzV1 : w.heap.size + 3 ≤ V.heap.size := by omega
  have hzV2 : V.heap.size ≤ w.heap.size + 3 := by omega
  have hsl : (sbsL s).length ≤ 16777216 := by rw [sbsL_length]; exact Nat.le_trans (sgns_length s _ _) hs
  rw [hV]
  clear hV hz
  refine wpIn_rangeFunc_ownH (α := Sb) rfl (by omega) (gf := 68) (lb := #[.pointer (some ⟨w.heap.size + 1 + 1, 0, none⟩)]) rfl trivial (enters_of Tryd.func68 (by kernel_rfl) rfl)
    (sbs_stops (9 - 1) (w.heap.size + 1 + 1) (by omega) s (by omega) V (by omega) b2.cell) Kp_t (Kp_b (by omega)) (Below.refl _ _) (fun _ => rfl)
    (fun pre A => ((Lib.IsBuilderF 90 5 w.heap.size w.heap.size (Lib.byteCells (runeB pre)) A ∧ Boxed A (w.heap.size + 1) 3 (.int .i64 (badN pre : Nat))) ∧ Boxed A (w.heap.size + 1 + 1) 9 (.string s)) ∧ (Below w.heap.size w A ∧ V.heap.size ≤ A.heap.size))
    (fun _ _ _ => False)
    (OwnFrom.and (OwnFrom.and (OwnFrom.and (fun _ _ _ _ hs hg hr => isB_kept hs hg (fun k e => (hr k e).2)) (fun _ _ _ _ hs hg hr => hs.kept hg (fun e => by have := (hr _ e.symm).1; omega))) (Own.from (boxed_own _ _ _) _)) (OwnFrom.and (ownFrom_below (Nat.le_refl _) (by omega)) (fun _ _ _ _ hs hg _ => Nat.le_trans hs hg.size)))
    (fun _ _ _ _ _ hs _ _ => hs)
    ⟨⟨⟨b0, b1⟩, b2⟩, hB, Nat.le_refl _⟩
    (fun x a' A => ∃ gb, w.heap.size + 2 < gb ∧ Row4 A gb 63 (.int .i64 x.g.loc) (.int .i64 x.g.len) (.int .i32 x.g.rune) (.bool x.g.bad) ∧
      a' = { tmps := #[.string s, undef, .string ⟨#[]⟩, .int .i64 0, .pointer (some ⟨w.heap.size, 0, none⟩), .pointer (some ⟨w.heap.size + 1, 0, none⟩), .pointer (some ⟨gb, 0, none⟩), .string s, .func (.func 68) #[] #[.pointer (some ⟨w.heap.size + 1 + 1, 0, none⟩)], (.agg #[.int .i64 x.g.loc, .int .i64 x.g.len, .int .i32 x.g.rune, .bool x.g.bad]), undef, undef, undef, undef, undef, undef, undef, undef, undef], defers := [] })
    (fun x a' _ A B row hs hg hr => by
      obtain ⟨gb, e1, e2, e3⟩ := hs
      refine ⟨gb, e1, e2.of_block (hg.block _ e2.lt (fun e => ?_)), e3⟩
      obtain ⟨_, o, ho, hcl⟩ := hr _ e.symm
      rw [show A.heap[gb]? = _ from e2] at ho
      cases ho
      cases hcl)
    ?assign ?body ?done ?stop
  case assign =>
    rintro lin pre x A K ⟨⟨⟨c0, c1⟩, c2⟩, hBA, hzA⟩ hK
    simp only [Sg.val]
    gi_wp2
    exact hK _ _ ((KeepsOthers.alloc _ _).from _) (Kp_of (fun k _ hk => Below.heap_alloc _ _ _ hk) (by omega)) ⟨⟨⟨c0.alloc _, c1.alloc _⟩, c2.alloc _⟩, hBA.alloc hBA.size _, by simp; omega⟩ ⟨A.heap.size, by omega, World.alloc_heap_new A _, rfl⟩
  case body =>
    rintro lin pre x a' A hlin ⟨r, hr⟩ ⟨⟨⟨c0, c1⟩, c2⟩, hBA, hzA⟩ ⟨gb, hgb, hg4, rfl⟩ hlen
    obtain ⟨g0, g1, g2, g3⟩ := hg4.cells
    have k1 := c1.cell
    have f1 := c1.frozen
    have hbl := badN_le pre
    have hrl := runeB_le pre
    have hbz := hBA.size
    have hlo := x.lo
    have hhi := x.hi
    have hrs := runeB_snoc pre x
    have hbs := badN_snoc pre x
    cases hbad : x.g.bad with
    | false =>
      rw [hbad] at g3 hbs
      have HW := hide (Any.Builder_WriteRune_k (ρ := lay168Ren) lay168 ext168 w.heap.size w.heap.size (Lib.byteCells (runeB pre)) x.g.rune (by omega) (by omega) A c0 (by rw [Lib.byteCells_length]; omega) (by omega))
      have HRS := hide hrs
      have HBS := hide hbs
      clear hrs hbs
      gi_wp2_with fail
      refine ⟨trivial, ?_⟩
      refine (callsIn_wide.2 HW.out).mono ?_
      rintro e A3 ⟨rfl, hbd, hbl3, hot⟩
      have hz3 := hbl3.size
      have hk3 := others_keeps hot c0 hz3
      have d1 := boxed_others c1 hot (by omega) (by decide)
      have d2 := boxed_others c2 hot (by omega) (by decide)
      gi_wp2
      refine ⟨hk3.from _, ⟨d2.cell.trans c2.cell.symm, fun k o _ ha ho => hk3.same k o ha (Obj.not_cells_of_walk ho)⟩, ⟨⟨?_, ?_⟩, d2⟩, hBA.trans hbl3, Nat.le_trans hzA hz3⟩
      · rw [HRS.out]; exact .inr hbd
      · rw [HBS.out]; exact d1
    | true =>
      rw [hbad] at g3 hbs
      have hs1 : Boxed (A.setCell ⟨w.heap.size + 1, 0, none⟩ (.int .i64 ((badN pre : Int) + 1))) (w.heap.size + 1) 3 (.int .i64 ((badN pre : Int) + 1)) := c1.set _
      have hs2 : Boxed (A.setCell ⟨w.heap.size + 1, 0, none⟩ (.int .i64 ((badN pre : Int) + 1))) (w.heap.size + 1 + 1) 9 (.string s) := (Below.heap_setCell _ _ _ _ (by simp)).trans c2
      have hs0 := isB_set (u := .int .i64 ((badN pre : Int) + 1)) c0 c1 (by omega) (by decide)
      have hgs : Row4 (A.setCell ⟨w.heap.size + 1, 0, none⟩ (.int .i64 ((badN pre : Int) + 1))) gb 63 (.int .i64 x.g.loc) (.int .i64 x.g.len) (.int .i32 x.g.rune) (.bool x.g.bad) := hg4.of_block (Below.heap_setCell _ _ _ _ (by show gb ≠ w.heap.size + 1; omega))
      have hzs : (A.setCell ⟨w.heap.size + 1, 0, none⟩ (.int .i64 ((badN pre : Int) + 1))).heap.size = A.heap.size := by show (A.heap.modify _ _).size = _; rw [Array.size_modify]
      have hbs1 : Below w.heap.size w (A.setCell ⟨w.heap.size + 1, 0, none⟩ (.int .i64 ((badN pre : Int) + 1))) := hBA.setCell (p := ⟨w.heap.size + 1, 0, none⟩) (by simp) _
      have hk1 := KeepsOthers.setCell A ⟨w.heap.size + 1, 0, none⟩ (.int .i64 ((badN pre : Int) + 1))
      have hgne : gb ≠ w.heap.size + 1 := by omega
      gi_wp2_with fail
      refine ⟨trivial, ?_⟩
      clear k1 f1 g0 g1 g2 g3
      generalize A.setCell ⟨w.heap.size + 1, 0, none⟩ (.int .i64 ((badN pre : Int) + 1)) = A1 at *
      refine (callsIn_wide.2 (Any.Builder_WriteRune_k (ρ := lay168Ren) lay168 ext168 w.heap.size w.heap.size (Lib.byteCells (runeB pre)) x.g.rune (by omega) (by omega) A1 hs0 (by rw [Lib.byteCells_length]; omega) (by omega))).mono ?_
      rintro e A3 ⟨rfl, hbd, hbl3, hot⟩
      have hz3 := hbl3.size
      have hk3 := hk1.trans (others_keeps hot hs0 hz3)
      have d1 := boxed_others hs1 hot (by omega) (by decide)
      have d2 := boxed_others hs2 hot (by omega) (by decide)
      gi_wp2
      refine ⟨hk3.from _, ⟨d2.cell.trans c2.cell.symm, fun k o _ ha ho => hk3.same k o ha (Obj.not_cells_of_walk ho)⟩, ⟨⟨?_, ?_⟩, d2⟩, hbs1.trans hbl3, by omega⟩
      · rw [hrs]; exact .inr hbd
      · rw [hbs]; exact d1
  case done =>
    rintro D xs A hD rfl ⟨⟨⟨c0, c1⟩, c2⟩, hBA, hzA⟩ hK
    have k1 := c1.cell
    have hbz := hBA.size
    have hot0 : Lib.OthersKept 5 (some w.heap.size) A A := Lib.OthersKept.refl _ _ _
    have hDA : D < A.heap.size := (Array.getElem?_eq_some_iff.1 hK).1
    have HK := hide hK
    generalize hRB : runeB (sbsL s) = RB at *
    generalize hBN : badN (sbsL s) = BN at *
    have HS := hide (Any.Builder_String_any_k (ρ := lay169Ren) lay169 ext169 w.heap.size w.heap.size RB A.drew c0 (by show w.heap.size ≤ A.heap.size; omega))
    clear hK
    gi_wp2_with fail
    refine wpIn_mono (Q := Exit.then (fun a' w' => a'.defers = [{ target := .collected D, args := #[] }] ∧ (a'.tmps[2]?.getD undef = .string ⟨RB.toArray⟩ ∧ a'.tmps[3]?.getD undef = .int .i64 BN) ∧ Below w.heap.size A w' ∧ Lib.OthersKept 5 (some w.heap.size) A w') (fun _ _ _ => False)) ?_ ?_
    · refine wpIn_wide.2 ?_
      go_region_held (fun w' => w'.cell? ⟨w.heap.size + 1, 0, none⟩ = some (.int .i64 BN)) (first | go_keep | assumption) (first | (go_at_call 63; refine HS.out.mono ?_; rintro e w5 ⟨rfl, hib, hb5, ho5⟩; have k5 := (boxed_others (show Boxed A.drew (w.heap.size + 1) 3 (.int .i64 BN) from c1) ho5 (by omega) (by decide)).cell) | fail)
      all_goals exact ⟨rfl, ⟨rfl, rfl⟩, ((Below.refl w.heap.size A).drew).trans hb5, ho5⟩
    · rintro e a' w' hq
      cases e with
      | normal =>
        obtain ⟨h1, ⟨h2, h3⟩, h5, h6⟩ := hq
        have hK6 := h6 D _ HK.out (fun e => by have := Option.some.inj e; omega) (fun c fz e => by cases e)
        gi_wp2
        show LeavesInM Fence.wide 9 Tryd.prog Tryd.f30 a'.tmps _ a'.defers .returning w'
        rw [h1]
        refine ⟨by simp, .inl ⟨_, _, rfl, run_takeDeferred hK6, ?_⟩⟩
        refine ⟨.tuple #[.string ⟨RB.toArray⟩, .int .i64 BN], by simp [results, Tryd.f30, go_sem, h2, h3], by rw [hRB, hBN], (hBA.trans h5).trans ((putObj_below _ _ _).mono (by omega))⟩
      | _ => exact hq.elim
  case stop =>
    rintro D c pre A hD hpre h hK
    exact h.elim
end Go.Proofs.YtofhmecbcmahaaaDoor
