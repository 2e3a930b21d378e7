/- The walk of UtfLines: utf.Lines tells the document's lines. -/
import Derived.Test.YtfkoebbpdnleeabDoorHead
import Derived.Test.YtfkoebbpdnleeabDoorLinesRef
namespace Go.Proofs.YtfkoebbpdnleeabDoor
open Go.RowKit Go.Shelf
attribute [local go_sem] Oper.semAt_some

theorem flatL_get {s : ByteArray} : ∀ (l : List (Ln s)) (n : Nat) (h : n < l.length), (flatL l)[n * 2]? = some (.int .i64 l[n].loc) ∧ (flatL l)[n * 2 + 1]? = some (.string (s.extract l[n].loc l[n].fin))
  | [], _, h => by simp at h
  | x :: r, 0, _ => by simp [flatL]
  | x :: r, n + 1, h => by
    have := flatL_get r n (by simpa using h)
    have e : flatL (x :: r) = .int .i64 x.loc :: .string (s.extract x.loc x.fin) :: flatL r := by simp [flatL]
    rw [e, show (n + 1) * 2 = n * 2 + 1 + 1 by omega]
    simpa using this

theorem linesF_length (s : ByteArray) : ∀ f p, (linesF s f p).length ≤ f
  | 0, _ => by simp [linesF]
  | f + 1, p => by
    unfold linesF
    split
    · have := linesF_length s f (lnAt s p ‹_›).next
      simp; omega
    · simp

def vOf {s : ByteArray} (x : Ln s) : Nat × List UInt8 := (x.loc, (s.extract x.loc x.fin).toList)
/-- So far they are the lines, as they are told. -/
def Met {s : ByteArray} (pre : List (Ln s)) : Prop := pre.map vOf <+: (lines s).map vOf
theorem met_snoc {s : ByteArray} (pre : List (Ln s)) (x : Ln s) (h : Met pre) (hl : pre.length < (lines s).length) : Met (pre ++ [x]) ↔ vOf (lines s)[pre.length] = vOf x := by
  unfold Met at *
  obtain ⟨r, hr⟩ := h
  have hlen := congrArg List.length hr
  simp only [List.length_append, List.length_map] at hlen
  have hget : ((lines s).map vOf)[pre.length]? = r[0]? := by rw [← hr, List.getElem?_append_right (by simp)]; simp
  cases r with
  | nil => simp at hlen; omega
  | cons y r =>
    simp only [List.getElem?_map, List.getElem?_eq_getElem hl, Option.map_some, List.getElem?_cons_zero, Option.some.injEq] at hget
    rw [hget]
    constructor
    · rintro ⟨q, hq⟩
      rw [← hr, List.map_append, List.append_assoc] at hq
      have := List.append_cancel_left hq
      simp at this
      exact this.1.symm
    · intro e
      exact ⟨r, by rw [← hr, e]; simp⟩

theorem cells_of {s : ByteArray} {W : World} {base : Nat} {v : Value} (h : HoldsLines s W base v (lines s)) :
    ∃ oa cap, v = .slice oa (lines s).length cap ∧ ∀ n (hn : n < (lines s).length), ∃ g, oa = some ⟨g, 0, none⟩ ∧ g < W.heap.size ∧ W.cell? ⟨g, n * 2, none⟩ = some (.int .i64 (lines s)[n].loc) ∧ W.cell? ⟨g, n * 2 + 1, none⟩ = some (.string (s.extract (lines s)[n].loc (lines s)[n].fin)) := by
  obtain ⟨h1, ⟨rfl, h0⟩ | ⟨g, cap, cur, rfl, hg, hh, hn, hcap, hsz, htake⟩⟩ := h
  · exact ⟨none, 0, by rw [h0], fun n hn => by omega⟩
  · refine ⟨some ⟨g, 0, none⟩, cap, rfl, fun n hn => ⟨g, rfl, (Array.getElem?_eq_some_iff.1 hh).1, ?_, ?_⟩⟩
    · have := (flatL_get (lines s) n hn).1
      rw [← htake, List.getElem?_take, if_pos (by omega), Array.getElem?_toList] at this
      simpa [World.cell?, hh] using this
    · have := (flatL_get (lines s) n hn).2
      rw [← htake, List.getElem?_take, if_pos (by omega), Array.getElem?_toList] at this
      simpa [World.cell?, hh] using this

set_option maxRecDepth 100000 in
set_option maxHeartbeats 4000000 in
theorem linesL_any (s : ByteArray) (hs : s.size ≤ 1048576) (w : World) (hw : 2 ≤ w.heap.size) (hT : Lib.Utf8Tabs 0 1 w) :
    Calls Tryd.prog 4 #[.string s] w fun e w' => e = .returned (.bool true) ∧ Below w.heap.size w w' := by
  refine (callsIn_wide (n := 9)).1 ?_
  refine callsIn_of_wp_marks Tryd.func4 rfl trivial ?_ rfl
  simp only [Tryd.ntmps4, List.size_toArray, List.length_cons, List.length_nil, Nat.reduceAdd, Nat.reduceSub, Array.replicate_succ, Array.replicate_zero, List.push_toArray, List.append_toArray, List.nil_append, List.cons_append]
  have hBV : Below w.heap.size w (w.alloc (.cells #[.bool false] 4)) := (Below.refl _ w).alloc (Nat.le_refl _) _
  have b1 := Boxed.new w 4 (.bool false)
  gi_wp2_with fail
  refine ⟨trivial, ?_⟩
  refine (callsIn_wide.2 (head_any _ (by simp; omega) (tabs_below hw hT hBV))).mono ?_
  rintro e V1 ⟨rfl, hB1⟩
  have hz1 := hB1.size
  have c1 : Boxed V1 w.heap.size 4 (.bool false) := (hB1.block _ (by simp)).trans b1
  have hBw1 : Below w.heap.size w V1 := hBV.trans (hB1.mono (by simp))
  rw [World.size_alloc] at hz1
  clear b1 hBV hB1
  gi_wp2_with fail
  refine ⟨trivial, ?_⟩
  refine (callsIn_wide.2 (refLines_any s V1 hs)).mono ?_
  rintro e V2 ⟨v, rfl, hown, hB2⟩
  have hz2 := hB2.size
  have c2 : Boxed V2 w.heap.size 4 (.bool false) := (hB2.block _ (by omega)).trans c1
  have hBw2 : Below w.heap.size w V2 := hBw1.trans (hB2.mono (by omega))
  obtain ⟨oa, cap, rfl, hcells⟩ := cells_of hown
  clear c1 hown hB2 hBw1
  have HC := hide hcells
  clear hcells
  gi_wp2_with (refine ⟨trivial, ?_⟩; gi_at_call 13; refine (callsIn_wide.2 (lines_mk _ _)).mono ?_; rintro e w' ⟨rfl, rfl⟩)
  obtain ⟨U, hU⟩ : ∃ U, ((V2.alloc (.cells #[.slice oa (lines s).length cap] 24)).alloc (.cells #[.int .i64 0] 3)).alloc (.cells #[.string s] 9) = U := ⟨_, rfl⟩
  have d2 : Boxed U V2.heap.size 24 (.slice oa (lines s).length cap) := by rw [← hU]; exact ((Boxed.new V2 24 _).alloc _).alloc _
  have d3 : Boxed U (V2.heap.size + 1) 3 (.int .i64 0) := by
    rw [← hU]
    have := Boxed.new (V2.alloc (.cells #[.slice oa (lines s).length cap] 24)) 3 (.int .i64 0)
    rw [World.size_alloc] at this
    exact this.alloc _
  have d4 : Boxed U (V2.heap.size + 1 + 1) 9 (.string s) := by
    rw [← hU]
    have := Boxed.new ((V2.alloc (.cells #[.slice oa (lines s).length cap] 24)).alloc (.cells #[.int .i64 0] 3)) 9 (.string s)
    rw [World.size_alloc, World.size_alloc] at this
    exact this
  have hBU : Below V2.heap.size V2 U := by rw [← hU]; exact (((Below.refl _ V2).alloc (Nat.le_refl _) _).alloc (by simp) _).alloc (by simp; omega) _
  have hzU : U.heap.size = V2.heap.size + 3 := by rw [← hU]; simp
  have hzU1 : V2.heap.size + 3 ≤ U.heap.size := by omega
  have hzU2 : U.heap.size ≤ V2.heap.size + 3 := by omega
  rw [hU]
  clear hU hzU
  refine wpIn_rangeFunc_ownH (α := Ln s) rfl (by omega) (gf := 31) (lb := #[.pointer (some ⟨V2.heap.size + 1 + 1, 0, none⟩)]) rfl trivial (enters_of Tryd.func31 (by kernel_rfl) rfl)
    (lines_stops (9 - 1) (V2.heap.size + 1 + 1) (by omega) s (by omega) U (by omega) d4.cell) Kp_t (Kp_b (by omega)) (Below.refl _ _) (fun _ => rfl)
    (fun pre A => ((Met pre ∧ Boxed A V2.heap.size 24 (.slice oa (lines s).length cap)) ∧ Boxed A (V2.heap.size + 1) 3 (.int .i64 (pre.length : Nat))) ∧ (Below V2.heap.size V2 A ∧ U.heap.size ≤ A.heap.size))
    (fun _ pre _ => ¬ Met pre)
    (OwnFrom.and (OwnFrom.and (OwnFrom.and (ownFrom_pure _ _) (Own.from (boxed_own _ _ _) _)) (Own.from (boxed_own _ _ _) _)) (OwnFrom.and (ownFrom_below (Nat.le_refl _) (by omega)) (fun _ _ _ _ hs hg _ => Nat.le_trans hs hg.size)))
    (fun _ => ownFrom_pure _ _)
    ⟨⟨⟨⟨_, List.nil_append _⟩, d2⟩, d3⟩, hBU, Nat.le_refl _⟩
    (fun x a' _ => a' = { tmps := #[.string s, undef, .pointer (some ⟨w.heap.size, 0, none⟩), .pointer (some ⟨V2.heap.size, 0, none⟩), .pointer (some ⟨V2.heap.size + 1, 0, none⟩), .int .i64 x.loc, .string (s.extract x.loc x.fin), .bool true, .bool false, .string s, .slice oa (lines s).length cap, .string s, .func (.func 31) #[] #[.pointer (some ⟨V2.heap.size + 1 + 1, 0, none⟩)], .int .i64 x.loc, .string (s.extract x.loc x.fin), undef, undef, undef, undef, undef, undef, undef, undef, undef, undef, undef, undef, undef, undef, undef, undef, undef, undef, undef, undef, undef, undef, undef, undef, undef, undef, undef, undef, undef, undef, undef], defers := [] })
    (fun _ _ _ _ _ _ hs _ _ => hs)
    ?assign ?body ?done ?stop
  case assign =>
    rintro lin pre x A K hi hK
    simp only [Ln.vals]
    gi_wp2
    exact hK _ _ (KeepsFrom.refl _ _) (Kp_of (fun _ _ _ => rfl) (by have := hi.2.2; omega)) hi rfl
  case body =>
    rintro lin pre x a' A hlin ⟨r, hr⟩ ⟨⟨⟨hmet, e2⟩, e3⟩, hBA, hzA⟩ rfl hlen
    obtain ⟨g, rfl, hg, g1, g2⟩ := HC.out pre.length hlen
    have k2 := e2.cell
    have k3 := e3.cell
    have f3 := e3.frozen
    have e1 : Boxed A w.heap.size 4 (.bool false) := (hBA.block w.heap.size (by omega)).trans c2
    have k1 := e1.cell
    have f1 := e1.frozen
    have q1 := (hBA.cell (p := ⟨g, pre.length * 2, none⟩) hg).trans g1
    have q2 := (hBA.cell (p := ⟨g, pre.length * 2 + 1, none⟩) hg).trans g2
    have MS := hide (met_snoc pre x hmet hlen)
    clear hmet
    have hlb : (lines s).length ≤ 1048576 := Nat.le_trans (linesF_length s _ _) hs
    generalize hy : (lines s)[pre.length] = y at *
    have HY := hide hy
    clear hy
    have MS2 : Hid (Met (pre ++ [x]) ↔ y.loc = x.loc ∧ (s.extract y.loc y.fin).toList = (s.extract x.loc x.fin).toList) := by
      show Met (pre ++ [x]) ↔ _
      rw [MS.out]
      simp [vOf]
    clear MS HY
    generalize s.extract y.loc y.fin = Y at *
    generalize s.extract x.loc x.fin = X at *
    generalize y.loc = ly at *
    by_cases h1 : ly = x.loc
    · by_cases h2 : Y.toList = X.toList
      · have t2 : (Y.toList == X.toList) = true := beq_iff_eq.2 h2
        have GD := hide (MS2.out.2 ⟨h1, h2⟩)
        clear MS2 h2
        subst h1
        gi_wp2
        refine ⟨(KeepsOthers.setCell _ _ _).from _, Kp_of (fun k hk _ => Below.heap_setCell _ _ _ _ (by show k ≠ V2.heap.size + 1; omega)) (by omega), ⟨⟨GD.out, (Below.heap_setCell _ _ _ _ (by simp)).trans e2⟩, ?_⟩, hBA.setCell (p := ⟨V2.heap.size + 1, 0, none⟩) (by simp) _, ?_⟩
        · rw [List.length_append, List.length_singleton]
          exact e3.set _
        · show U.heap.size ≤ (A.heap.modify _ _).size
          rw [Array.size_modify]
          exact hzA
      · have t2 : (Y.toList == X.toList) = false := beq_eq_false_iff_ne.2 h2
        have NG : Hid (¬ Met (pre ++ [x])) := fun h => h2 (MS2.out.1 h).2
        clear MS2 h2
        subst h1
        gi_wp2
        exact ⟨(KeepsOthers.setCell _ _ _).from _, NG.out⟩
    · have t1 : ((ly : Int) != (x.loc : Int)) = true := by rw [bne_iff_ne]; omega
      have NG : Hid (¬ Met (pre ++ [x])) := fun h => h1 (MS2.out.1 h).1
      clear h1 MS2
      gi_wp2
      exact ⟨(KeepsOthers.setCell _ _ _).from _, NG.out⟩
  case done =>
    rintro D xs A hD rfl ⟨⟨⟨hmet, e2⟩, e3⟩, hBA, hzA⟩ hK
    have e1 : Boxed A w.heap.size 4 (.bool false) := (hBA.block w.heap.size (by omega)).trans c2
    have k1 := e1.cell
    have f1 := e1.frozen
    have k2 := e2.cell
    have k3 := e3.cell
    have hlb : (lines s).length ≤ 1048576 := Nat.le_trans (linesF_length s _ _) hs
    have hBwA := hBw2.trans (hBA.mono (by omega))
    have hTA := tabs_below hw hT hBwA
    clear hmet
    gi_wp2_with fail
    refine ⟨trivial, ?_⟩
    refine (callsIn_wide.2 (head_any A (by omega) hTA)).mono ?_
    rintro e A1 ⟨rfl, hB1⟩
    have e1' : Boxed A1 w.heap.size 4 (.bool false) := (hB1.block _ (by omega)).trans e1
    have k1' := e1'.cell
    have f1' := e1'.frozen
    have hK1 := (hB1.block D (Array.getElem?_eq_some_iff.1 hK).1).trans hK
    have hBw1 := hBwA.trans (hB1.mono (by omega))
    clear k1 f1
    gi_wp2
    have hK2 := (Below.heap_setCell A1 ⟨w.heap.size, 0, none⟩ (.bool true) D (by simp; omega)).trans hK1
    refine ⟨by simp, .inl ⟨_, _, rfl, run_takeDeferred hK2, ?_⟩⟩
    have z0 : ((A1.setCell ⟨w.heap.size, 0, none⟩ (.bool true)).putObj D (.deferred none)).cell? ⟨w.heap.size, 0, none⟩ = _ := (World.cell?_of_block (World.putObj_heap_other (by show w.heap.size ≠ D; omega))).trans (e1'.set (.bool true)).cell
    refine ⟨.bool true, by simp [results, Tryd.f4, go_sem, z0], rfl, (hBw1.setCell (p := ⟨w.heap.size, 0, none⟩) (by simp) _).trans ((putObj_below _ _ _).mono (by omega))⟩
  case stop =>
    rintro D c pre A hD ⟨r, hr⟩ hng hK
    exact absurd ⟨r.map vOf, by rw [← List.map_append, hr]⟩ hng

end Go.Proofs.YtfkoebbpdnleeabDoor
