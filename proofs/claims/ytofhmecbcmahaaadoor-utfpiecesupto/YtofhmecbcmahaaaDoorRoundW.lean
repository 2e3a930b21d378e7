/- The walk of UtfRound: the runes of the text of any runes are those that have encodings, and U+FFFD for the others. -/
import Derived.Test.YtofhmecbcmahaaaDoorHead
import Derived.Test.YtofhmecbcmahaaaDoorEnc
namespace Go.Proofs.YtofhmecbcmahaaaDoor
open Go.RowKit

set_option maxRecDepth 100000 in
set_option maxHeartbeats 400000 in
theorem text_any (w : World) (a : Addr) (len cap : Nat) (zs : List Int) (hl : len ≤ zs.length) (hc : ∀ j, j < zs.length → w.cell? (a.add j) = some (.int .i32 (zs.getD j 0))) :
    Calls Tryd.prog 38 #[.slice (some a) len cap] w fun e w' => e = .returned (.string (runesBytes (zs.take len))) ∧ w' = w := by
  have hcv := run_convert_runes (P := Tryd.prog) w 44 9 21 a len cap zs hl Tryd.underlying44 Tryd.underlying21 Tryd.underlying9 hc
  clear hc
  go_enter Tryd.func38, Tryd.ntmps38
  go_wp2
  go_ret
  exact ⟨rfl, rfl⟩

set_option maxRecDepth 100000 in
set_option maxHeartbeats 400000 in
theorem text_nil (w : World) (l c : Nat) : Calls Tryd.prog 38 #[.slice none l c] w fun e w' => e = .returned (.string ByteArray.empty) ∧ w' = w := by
  have hcv := run_convert_runes_nil (P := Tryd.prog) w 44 9 21 l c Tryd.underlying44 Tryd.underlying21 Tryd.underlying9
  go_enter Tryd.func38, Tryd.ntmps38
  go_wp2
  go_ret
  exact ⟨rfl, rfl⟩

/-- The runes that lie in a block from its beginning on. -/
def RunesAt (W : World) (B : Nat) (ns : List Nat) : Prop := ∀ j (h : j < ns.length), W.cell? ⟨B, j, none⟩ = some (.int .i32 (ns[j] : Nat))

set_option maxRecDepth 100000 in
set_option maxHeartbeats 400000 in
theorem runes_any (w : World) (s : ByteArray) (ns : List Nat) (hns : Conv.runesFrom s s.size 0 #[] = (ns.map fun n => Value.int .i32 (n : Nat)).toArray) (h46 : ns.length ≤ 70368744177664) :
    Calls Tryd.prog 34 #[.string s] w fun e w' => (∃ cap, e = .returned (.slice (some ⟨w.heap.size, 0, none⟩) ns.length cap)) ∧ RunesAt w' w.heap.size ns ∧ Below w.heap.size w w' := by
  have hcv := run_runes_of_string (P := Tryd.prog) w 9 44 21 s Tryd.underlying9 Tryd.underlying44 Tryd.underlying21 (by rw [hns]; simpa using h46)
  rw [hns] at hcv
  simp only [List.size_toArray, List.length_map] at hcv
  generalize grownCap w ns.length 0 21 = cap at hcv
  clear hns
  go_enter Tryd.func34, Tryd.ntmps34
  go_wp2
  go_ret
  refine ⟨⟨_, rfl⟩, fun j hj => ?_, ((Below.refl _ w).alloc (Nat.le_refl _) _).drew⟩
  have h1 := World.alloc_heap_new w (.cells ((ns.map fun n => Value.int .i32 (n : Nat)).toArray ++ Array.replicate (cap - ns.length) (.int .i32 0)) 21)
  show World.cell? (w.alloc _) _ = _
  simp only [World.cell?, h1]
  show (if none.isSome = true then none else ((ns.map fun n => Value.int .i32 (n : Nat)).toArray ++ Array.replicate (cap - ns.length) (.int .i32 0))[j]?) = _
  rw [Array.getElem?_append_left (by simpa using hj)]
  simp [hj]

end Go.Proofs.YtofhmecbcmahaaaDoor
