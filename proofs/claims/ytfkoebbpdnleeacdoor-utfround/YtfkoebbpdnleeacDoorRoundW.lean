/- The walk of UtfRound: the runes of the text of any runes are those that have encodings, and U+FFFD for the others. -/
import Derived.Test.YtfkoebbpdnleeacDoorHead
import Derived.Test.YtfkoebbpdnleeacDoorEnc
namespace Go.Proofs.YtfkoebbpdnleeacDoor
open Go.RowKit

set_option maxRecDepth 100000 in
set_option maxHeartbeats 400000 in
theorem text_any (w : World) (a : Addr) (len cap : Nat) (zs : List Int) (hl : len ≤ zs.length) (hc : ∀ j, j < zs.length → w.cell? (a.add j) = some (.int .i32 (zs.getD j 0))) :
    Calls Tryd.prog 11 #[.slice (some a) len cap] w fun e w' => e = .returned (.string (runesBytes (zs.take len))) ∧ w' = w := by
  have hcv := run_convert_runes (P := Tryd.prog) w 26 9 21 a len cap zs hl Tryd.underlying26 Tryd.underlying21 Tryd.underlying9 hc
  clear hc
  go_enter Tryd.func11, Tryd.ntmps11
  go_wp2
  go_ret
  exact ⟨rfl, rfl⟩

set_option maxRecDepth 100000 in
set_option maxHeartbeats 400000 in
theorem text_nil (w : World) (l c : Nat) : Calls Tryd.prog 11 #[.slice none l c] w fun e w' => e = .returned (.string ByteArray.empty) ∧ w' = w := by
  have hcv := run_convert_runes_nil (P := Tryd.prog) w 26 9 21 l c Tryd.underlying26 Tryd.underlying21 Tryd.underlying9
  go_enter Tryd.func11, Tryd.ntmps11
  go_wp2
  go_ret
  exact ⟨rfl, rfl⟩

/-- The runes that lie in a block from its beginning on. -/
def RunesAt (W : World) (B : Nat) (ns : List Nat) : Prop := ∀ j (h : j < ns.length), W.cell? ⟨B, j, none⟩ = some (.int .i32 (ns[j] : Nat))

set_option maxRecDepth 100000 in
set_option maxHeartbeats 400000 in
theorem runes_any (w : World) (s : ByteArray) (ns : List Nat) (hns : Conv.runesFrom s s.size 0 #[] = (ns.map fun n => Value.int .i32 (n : Nat)).toArray) (h46 : ns.length ≤ 70368744177664) :
    Calls Tryd.prog 12 #[.string s] w fun e w' => (∃ cap, e = .returned (.slice (some ⟨w.heap.size, 0, none⟩) ns.length cap)) ∧ RunesAt w' w.heap.size ns ∧ Below w.heap.size w w' := by
  have hcv := run_runes_of_string (P := Tryd.prog) w 9 26 21 s Tryd.underlying9 Tryd.underlying26 Tryd.underlying21 (by rw [hns]; simpa using h46)
  rw [hns] at hcv
  simp only [List.size_toArray, List.length_map] at hcv
  generalize grownCap w ns.length 0 21 = cap at hcv
  clear hns
  go_enter Tryd.func12, Tryd.ntmps12
  go_wp2
  go_ret
  refine ⟨⟨_, rfl⟩, fun j hj => ?_, ((Below.refl _ w).alloc (Nat.le_refl _) _).drew⟩
  have h1 := World.alloc_heap_new w (.cells ((ns.map fun n => Value.int .i32 (n : Nat)).toArray ++ Array.replicate (cap - ns.length) (.int .i32 0)) 21)
  show World.cell? (w.alloc _) _ = _
  simp only [World.cell?, h1]
  show (if none.isSome = true then none else ((ns.map fun n => Value.int .i32 (n : Nat)).toArray ++ Array.replicate (cap - ns.length) (.int .i32 0))[j]?) = _
  rw [Array.getElem?_append_left (by simpa using hj)]
  simp [hj]

set_option maxRecDepth 100000 in
set_option maxHeartbeats 1000000 in
theorem round_any4 (w : World) (hT : Lib.Utf8Tabs 0 1 w) (hw : 2 ≤ w.heap.size) (a : Addr) (len cap : Nat) (zs : List Int) (hl : len ≤ zs.length) (hab : len = 0 ∨ a.block < w.heap.size) (h45 : len ≤ 70368744177664)
    (hc : ∀ j, j < zs.length → w.cell? (a.add j) = some (.int .i32 (zs.getD j 0))) :
    Calls Tryd.prog 4 #[.slice (some a) len cap] w fun e w' => e = .returned (.bool true) ∧ Below w.heap.size w w' := by
  have hz : (zs.take len).length = len := by simp; omega
  have hsz : (runesBytes (zs.take len)).size = (textL (zs.take len)).length := by rw [Lib.size_eq, runesBytes_data]
  have hrt := runes_text (runesBytes (zs.take len)) (zs.take len) (runesBytes (zs.take len)).size 0 #[] (by rw [List.drop_zero]; exact runesBytes_data _) (by rw [hsz]; exact textL_length _) (by rw [hsz]; omega)
  have HR := hide (runes_any (s := runesBytes (zs.take len)) (ns := (zs.take len).map fixN) (hns := by rw [hrt]; simp [Function.comp_def]) (h46 := by simp; omega))
  rw [List.length_map, hz] at HR
  clear hrt hsz
  have HT := hide (text_any w a len cap zs hl hc)
  go_enter Tryd.func4, Tryd.ntmps4
  go_wp2_with fail
  refine HT.out.mono ?_
  rintro e w' ⟨rfl, rfl⟩
  go_wp2_with fail
  refine (HR.out _).mono ?_
  rintro e w1 ⟨⟨cap1, rfl⟩, hra, hB⟩
  have hcl : ∀ j, j < len → w1.cell? (a.add j) = some (.int .i32 (zs.getD j 0)) := fun j hj => by
    have hbk : (a.add j).block < w'.heap.size := by
      have e : (a.add j).block = a.block := by unfold Addr.add; split <;> rfl
      rw [e]
      rcases hab with h | h
      · omega
      · exact h
    rw [hB.cell (p := a.add j) hbk]
    exact hc j (by omega)
  have hgot : ∀ j, j < len → w1.cell? ⟨w'.heap.size, j, none⟩ = some (.int .i32 (fixN (zs.getD j 0) : Nat)) := fun j hj => by
    have := hra j (by simp; omega)
    rw [this]
    simp [List.getD, List.getElem?_eq_getElem (show j < zs.length by omega)]
  have HC := hide hcl
  have HG := hide hgot
  have HE := hide (tabs_below hw hT hB)
  have HB := hide hB
  have hs1 := hB.size
  clear hcl hgot hra hB hc hT HT HR hz hab
  go_wp2
  go_loop [2, 4, 5] (fun _ i _ => ∃ k : Nat, k ≤ len ∧ i = .int .i64 k) (fun _ i _ => len - (intOf i).toNat)
  case atStart => exact ⟨0, Nat.zero_le _, rfl⟩
  case round =>
    obtain ⟨k, hk, rfl⟩ := hrel
    by_cases hlt : k < len
    · have c1 := HC.out k hlt
      have c2 := HG.out k hlt
      generalize zs.getD k 0 = x at *
      by_cases h1 : x < 0 ∨ 1114111 < x ∨ (55296 ≤ x ∧ x ≤ 57343)
      · rw [show fixN x = 65533 from by unfold fixN; rw [if_neg (by simp [Utf8.valid]; omega)]] at c2
        rcases h1 with h1 | h1 | ⟨h1, h2⟩
        all_goals
          go_wp2
          exact ⟨⟨k + 1, by omega, by go_num⟩, by simp [intOf]; omega⟩
      · have h2 : 0 ≤ x := by omega
        have h3 : x ≤ 1114111 := by omega
        rw [show ((fixN x : Nat) : Int) = x from by unfold fixN; rw [if_pos (by simp [Utf8.valid]; omega)]; omega] at c2
        by_cases h4 : x < 55296
        · clear h1
          go_wp2
          exact ⟨⟨k + 1, by omega, by go_num⟩, by simp [intOf]; omega⟩
        · have h5 : 57343 < x := by omega
          clear h1
          go_wp2
          exact ⟨⟨k + 1, by omega, by go_num⟩, by simp [intOf]; omega⟩
    · go_wp2_with (go_at_call 9; refine (head_any _ (by omega) HE.out).mono ?_; rintro e w2 ⟨rfl, hB2⟩)
      go_ret
      exact ⟨rfl, HB.out.trans (hB2.mono (by omega))⟩

set_option maxRecDepth 100000 in
set_option maxHeartbeats 1000000 in
theorem round_nil (w : World) (hT : Lib.Utf8Tabs 0 1 w) (hw : 2 ≤ w.heap.size) :
    Calls Tryd.prog 4 #[.slice none 0 0] w fun e w' => e = .returned (.bool true) ∧ Below w.heap.size w w' := by
  have HR := hide (runes_any (s := ByteArray.empty) (ns := []) (hns := rfl) (h46 := by simp))
  rw [List.length_nil] at HR
  have HT := hide (text_nil w 0 0)
  go_enter Tryd.func4, Tryd.ntmps4
  go_wp2_with fail
  refine HT.out.mono ?_
  rintro e w' ⟨rfl, rfl⟩
  go_wp2_with fail
  refine (HR.out _).mono ?_
  rintro e w1 ⟨⟨cap1, rfl⟩, _, hB⟩
  have HE := hide (tabs_below hw hT hB)
  have HB := hide hB
  have hs1 := hB.size
  clear hB hT HT HR
  go_wp2
  go_loop [2, 4, 5] (fun _ i _ => i = .int .i64 0) (fun _ i _ => 0 - (intOf i).toNat)
  case atStart => rfl
  case round =>
    obtain rfl := hrel
    go_wp2_with (go_at_call 9; refine (head_any _ (by omega) HE.out).mono ?_; rintro e w2 ⟨rfl, hB2⟩)
    go_ret
    exact ⟨rfl, HB.out.trans (hB2.mono (by omega))⟩
end Go.Proofs.YtfkoebbpdnleeacDoor
