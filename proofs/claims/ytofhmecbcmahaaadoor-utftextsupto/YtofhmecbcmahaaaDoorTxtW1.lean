/- The walk of UtfTexts: any numbers as runes. -/
import Derived.Test.YtofhmecbcmahaaaDoorHead
import Derived.Test.YtofhmecbcmahaaaDoorRRun
import Derived.Deep.DeepAppendRoom
import Derived.OwnWalk
namespace Go.Proofs.YtofhmecbcmahaaaDoor
open Go.RowKit

theorem infoRune1 : (Tryd.prog.info? 21).map (fun i => (i.zero, i.size, i.bytes)) = some (some (.int .i32 0), 1, 4) := by kernel_rfl
def runeV1 (l : List Int) : List Value := l.map fun x => .int .i32 x
theorem addr_zero (g j : Nat) : ((⟨g, 0, none⟩ : Addr).add j) = ⟨g, j, none⟩ := by
  by_cases c : j = 0
  · subst c; simp [Addr.add]
  · simp [Addr.add, c]

set_option maxRecDepth 100000 in
set_option maxHeartbeats 2000000 in
theorem texts_some (w : World) (hw : 2 ≤ w.heap.size) (hT : Lib.Utf8Tabs 0 1 w) (a : Addr) (cap : Nat) (l : List Int) (hl : l.length ≤ 1048576) (hb : ∀ x ∈ l, -2147483648 ≤ x ∧ x ≤ 2147483647)
    (hc : ∀ n (hn : n < l.length), (a.add n).block < w.heap.size ∧ w.cell? (a.add n) = some (.int .i32 l[n])) :
    Calls Tryd.prog 7 #[.slice (some a) l.length cap] w fun e w' => e = .returned (.bool true) ∧ Below w.heap.size w w' := by
  obtain ⟨i0, hi, hz0, hz1, hz2⟩ := info_parts2 infoRune1
  have HC := hideO hc
  have HB := hideO hb
  have hvl : (runeV1 l).length = l.length * 1 := by simp [runeV1]
  have hnews : ∀ j u, (runeV1 l)[j]? = some u → w.cell? (a.add j) = some u := fun j u hu => by
    unfold runeV1 at hu
    rw [List.getElem?_map] at hu
    by_cases c : j < l.length
    · rw [List.getElem?_eq_getElem c] at hu
      rw [(hc j c).2]
      exact hu
    · rw [List.getElem?_eq_none (by omega)] at hu
      cases hu
  have HNW : Hid (∀ W, Below w.heap.size w W → ∀ j u, (runeV1 l)[j]? = some u → W.cell? (a.add j) = some u) := fun W hW j u hu => by
    have h1 := hnews j u hu
    have hj : j < l.length := by
      by_cases c : j < l.length
      · exact c
      · unfold runeV1 at hu
        rw [List.getElem?_eq_none (by rw [List.length_map]; omega)] at hu
        cases hu
    exact (hW.cell (p := a.add j) (hc j hj).1).trans h1
  have HONE : Hid (∀ u ∈ runeV1 l, u.oneCell' = true) := fun u hu => by
    unfold runeV1 at hu
    obtain ⟨x, _, rfl⟩ := List.mem_map.1 hu
    rfl
  clear hc hb hnews
  go_enter Tryd.func7, Tryd.ntmps7
  go_wp2_with (first
    | (at_make; refine wpList_make_own _ rfl _ _ 44 rfl w.heap.size 21 i0 (.int .i32 0) 1 Tryd.underlying44 hi hz0 hz1 .i64 .i64 _ (l.length + 3) rfl rfl (by simp) (by rw [hz2]; omega) (by unfold maxLen; omega) (by omega) ?_; intro w2 own2 gr2; have B2 := Below.grown (Below.refl w.heap.size w) gr2 (by omega) (fun k hk => by cases hk); have s2 := gr2.size)
    | (at_builtin; refine wpList_append_own_spare _ rfl _ _ 44 rfl w.heap.size 21 i0 1 Tryd.underlying44 hi hz1 w.heap.size 0 (l.length + 3) [] rfl own2 a l.length cap (runeV1 l) rfl hvl (HNW.out _ B2) HONE.out (by omega) ?_; intro w3 own3 gr3; simp only [Nat.zero_add, List.nil_append] at own3; have B3 := Below.grown B2 gr3 (by omega) (fun k hk => by cases hk; omega); have s3 := gr3.size)
    | (at_builtin; refine wpList_append_own_spare _ rfl _ _ 44 rfl w.heap.size 21 i0 1 Tryd.underlying44 hi hz1 w.heap.size l.length (l.length + 3) (runeV1 l) rfl (own3.alloc _) ⟨w3.heap.size, 0, none⟩ 1 1 [.int .i32 (-77)] rfl rfl (cell_one2 _ _ _) (fun u hu => by simp at hu; subst hu; rfl) (by omega) ?_; intro w4 own4 gr4; have B4 := Below.grown (B3.alloc (by omega) _) gr4 (by simp; omega) (fun k hk => by cases hk; omega)))
  have cm := World.ownsRow.cells own4 (g := w.heap.size) rfl
  have s4 := gr4.size
  simp only [World.size_alloc] at s4
  have hRI : RunesI w4 w.heap.size l := fun j hj => by
    have := cm j (.int .i32 l[j]) (by rw [List.getElem?_append_left (by simpa [runeV1] using hj)]; unfold runeV1; rw [List.getElem?_map, List.getElem?_eq_getElem hj]; rfl)
    rwa [addr_zero] at this
  have hlast : w4.cell? ⟨w.heap.size, l.length, none⟩ = some (.int .i32 (-77)) := by
    have := cm l.length (.int .i32 (-77)) (by rw [List.getElem?_append_right (by simp [runeV1])]; simp [runeV1])
    rwa [addr_zero] at this
  have HRI := hideO hRI
  clear cm hRI own2 own3 own4 gr2 gr3 gr4 B2 B3
  go_wp2_with fail
  refine (text_text1 l w4 w.heap.size (l.length + 3) HRI.out).mono ?_
  rintro r w4' ⟨rfl, rfl⟩
  go_wp2
  clear hlast
  go_loopw [5, 6] (fun ok i wr => ∃ k : Nat, ok = .bool true ∧ i = .int .i64 k ∧ k ≤ l.length ∧ Below w4'.heap.size w4' wr) (fun _ i _ => l.length - (intOf i).toNat)
  case atStart => exact ⟨0, rfl, rfl, by omega, Below.refl _ _⟩
  case round =>
    obtain ⟨k, rfl, rfl, hk, hB⟩ := hrel
    have sB := hB.size
    have b1B := B4.trans (hB.mono (by omega))
    by_cases hkl : k < l.length
    · obtain ⟨hab, hac⟩ := HC.out k hkl
      have c1 := (b1B.cell (p := a.add k) hab).trans hac
      have hr := HRI.out k hkl
      have c2 := (hB.cell (p := ⟨w.heap.size, k, none⟩) (World.block_lt_of_cell? w4' _ hr)).trans hr
      have hki : (k : Int) < (l.length : Int) := by omega
      clear hac hr
      generalize l[k] = x at *
      go_wp2
      go_quiet (fail)
      go_wp2
      exact ⟨⟨k + 1, rfl, by go_num, by omega, below_dn hB nq⟩, by simp [intOf]; omega⟩
    · obtain rfl : k = l.length := by omega
      go_wp2_with fail
      refine (ints_any l (by omega) _ _ _ (fun n hn => ⟨a, rfl, Nat.lt_of_lt_of_le (HC.out n hn).1 (by omega), (b1B.cell (p := a.add n) (HC.out n hn).1).trans (HC.out n hn).2⟩) HB.out).mono ?_
      rintro r w5 ⟨v5, rfl, o5, b5⟩
      have s5 := b5.size
      have b15 := b1B.trans (b5.mono (by omega))
      obtain ⟨oa, ca, rfl, hi5⟩ := ints_of o5
      have HI5 := hideO hi5
      clear o5 hi5
      go_wp2_with fail
      refine (rtext_any l (by omega) oa ca _ HI5.out).mono ?_
      rintro r w6 ⟨rfl, b6⟩
      have s6 := b6.size
      have b16 := b15.trans (b6.mono (by omega))
      go_wp2_with fail
      refine (head_any _ (by omega) (tabs_below hw hT b16)).mono ?_
      rintro r x9 ⟨rfl, d9⟩
      go_wp2
      go_ret
      exact ⟨rfl, b16.trans (d9.mono (by omega))⟩

set_option maxRecDepth 100000 in
set_option maxHeartbeats 2000000 in
theorem texts_nil (w : World) (hw : 2 ≤ w.heap.size) (hT : Lib.Utf8Tabs 0 1 w) :
    Calls Tryd.prog 7 #[.slice none 0 0] w fun e w' => e = .returned (.bool true) ∧ Below w.heap.size w w' := by
  obtain ⟨i0, hi, hz0, hz1, hz2⟩ := info_parts2 infoRune1
  go_enter Tryd.func7, Tryd.ntmps7
  go_wp2_with (first
    | (at_make; refine wpList_make_own _ rfl _ _ 44 rfl w.heap.size 21 i0 (.int .i32 0) 1 Tryd.underlying44 hi hz0 hz1 .i64 .i64 _ 3 rfl rfl (by simp) (by rw [hz2]; omega) (by unfold maxLen; omega) (by omega) ?_; intro w2 own2 gr2; have B2 := Below.grown (Below.refl w.heap.size w) gr2 (by omega) (fun k hk => by cases hk); have s2 := gr2.size)
    | (at_builtin; refine wpList_append_own_spare _ rfl _ _ 44 rfl w.heap.size 21 i0 1 Tryd.underlying44 hi hz1 w.heap.size 0 3 [] rfl (own2.alloc _) ⟨w2.heap.size, 0, none⟩ 1 1 [.int .i32 (-77)] rfl rfl (cell_one2 _ _ _) (fun u hu => by simp at hu; subst hu; rfl) (by omega) ?_; intro w4 own4 gr4; have B4 := Below.grown (B2.alloc (by omega) _) gr4 (by simp; omega) (fun k hk => by cases hk; omega)))
  have cm := World.ownsRow.cells own4 (g := w.heap.size) rfl
  have s4 := gr4.size
  simp only [World.size_alloc] at s4
  have hlast : w4.cell? ⟨w.heap.size, 0, none⟩ = some (.int .i32 (-77)) := by
    have := cm 0 (.int .i32 (-77)) (by simp)
    rwa [addr_zero] at this
  clear cm own2 own4 gr2 gr4 B2
  have HTX := hideO (text_text1 [] w4 w.heap.size 3 (fun j hj => by simp at hj))
  simp only [List.length_nil] at HTX
  have HIN := hideO (fun W => ints_any [] (by simp) none 0 W (fun n hn => by simp at hn) (fun x hx => by simp at hx))
  simp only [List.length_nil] at HIN
  have HRT := hideO (fun oa ca W h => rtext_any [] (by simp) oa ca W h)
  simp only [List.length_nil] at HRT
  go_wp2_with fail
  refine HTX.out.mono ?_
  rintro r w4' ⟨rfl, rfl⟩
  go_wp2
  go_loopw [5, 6] (fun ok i wr => ok = .bool true ∧ i = .int .i64 0 ∧ wr = w4') (fun _ i _ => 0 - (intOf i).toNat)
  case atStart => exact ⟨rfl, rfl, rfl⟩
  case round =>
    obtain ⟨rfl, rfl, rfl⟩ := hrel
    go_wp2_with fail
    refine (HIN.out _).mono ?_
    rintro r w5 ⟨v5, rfl, o5, b5⟩
    have s5 := b5.size
    have b15 := B4.trans (b5.mono (by omega))
    obtain ⟨oa, ca, rfl, hi5⟩ := ints_of (l := []) o5
    have HI5 := hideO hi5
    clear o5 hi5
    go_wp2_with fail
    refine (HRT.out oa ca _ HI5.out).mono ?_
    rintro r w6 ⟨rfl, b6⟩
    have s6 := b6.size
    have b16 := b15.trans (b6.mono (by omega))
    go_wp2_with fail
    refine (head_any _ (by omega) (tabs_below hw hT b16)).mono ?_
    rintro r x9 ⟨rfl, d9⟩
    go_wp2
    go_ret
    exact ⟨rfl, b16.trans (d9.mono (by omega))⟩
end Go.Proofs.YtofhmecbcmahaaaDoor
