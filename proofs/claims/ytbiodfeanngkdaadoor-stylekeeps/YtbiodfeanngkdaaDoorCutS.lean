/- The contract of utf.Cut by signs, from one to another. -/
import Derived.Test.YtbiodfeanngkdaaDoorRS
import Derived.Test.YtbiodfeanngkdaaDoorW4
import Derived.Test.YtbiodfeanngkdaaDoorCloneW
namespace Go.Proofs.YtbiodfeanngkdaaDoor
open Go.RowKit

set_option maxRecDepth 100000 in
set_option maxHeartbeats 1000000 in
theorem cutS_any (s : ByteArray) (hs : s.size ≤ 140737488355328) (fr tt A B : Nat) (h1 : fr ≤ tt) (h2 : tt ≤ (signs s).length) (hA : (spotAt s fr).b = A) (hB : (spotAt s tt).b = B) (hAB : A ≤ B) (hBs : B ≤ s.size) (w : World) :
    Calls Tryd.prog 9 #[.string s, .int .i64 2, .int .i64 (fr : Nat), .int .i64 (tt : Nat)] w fun e w' => e = .returned (.tuple #[.string (s.extract A B), .int .i64 0]) ∧ Below w.heap.size w w' := by
  have HP := hideO (fun W => find_any s hs 2 fr (.inr (.inl rfl)) W)
  have HQ := hideO (fun W => find_any s hs 2 tt (.inr (.inl rfl)) W)
  rw [find_spot s fr (by omega)] at HP
  rw [find_spot s tt h2] at HQ
  obtain ⟨⟨pb, pc, pd⟩, hp⟩ : ∃ p, spotAt s fr = p := ⟨_, rfl⟩
  obtain ⟨⟨qb, qc, qd⟩, hq⟩ : ∃ q, spotAt s tt = q := ⟨_, rfl⟩
  rw [hp] at HP hA
  rw [hq] at HQ hB
  have hA : pb = (A : Int) := hA
  have hB : qb = (B : Int) := hB
  subst hA hB
  clear hp hq
  simp only [Spot.val] at HP HQ
  have hto : ¬ (tt : Int) < (fr : Int) := by omega
  have hsz : (s.extract A B).size ≤ 140737488355328 := by rw [ByteArray.size_extract]; omega
  have HCl := hideO (fun W => clone_any (s.extract A B) W hsz)
  clear hsz
  go_enter Tryd.func9, Tryd.ntmps9
  go_wp2_with fail
  refine (isUnit_yes 2 _ (.inr (.inl rfl))).mono ?_
  rintro e w' ⟨rfl, rfl⟩
  go_wp2_with fail
  refine (HP.out _).mono ?_
  rintro e w1 ⟨rfl, b1⟩
  have s1 := b1.size
  go_wp2_with fail
  refine (HQ.out _).mono ?_
  rintro e w2 ⟨rfl, b2⟩
  have s2 := b2.size
  rw [World.size_alloc] at s2
  have c1 : w2.cell? ⟨w1.heap.size, 1, none⟩ = some (.int .i64 A) := (b2.cell (p := ⟨w1.heap.size, 1, none⟩) (by simp)).trans (by simp)
  have b12 := ((b1.alloc s1 (.cells #[.int .i64 0, .int .i64 A, .int .i64 pc, .int .i64 pd] 67)).trans (b2.mono (by simp; omega))).alloc (by omega) (.cells #[.int .i64 0, .int .i64 B, .int .i64 qc, .int .i64 qd] 67)
  have c2 := (Below.heap_alloc w2 (.cells #[.int .i64 0, .int .i64 B, .int .i64 qc, .int .i64 qd] 67) w1.heap.size (by omega))
  have c3 : (w2.alloc (.cells #[.int .i64 0, .int .i64 B, .int .i64 qc, .int .i64 qd] 67)).cell? ⟨w1.heap.size, 1, none⟩ = some (.int .i64 A) := (World.cell?_of_block c2).trans c1
  clear c2
  have hl1 : (A : Int) ≤ (B : Int) := by omega
  have hl2 : (B : Int) ≤ (s.size : Int) := by omega
  go_wp2_with fail
  refine (HCl.out _).mono ?_
  rintro e w3 ⟨rfl, b3⟩
  go_wp2
  go_ret2
  exact ⟨rfl, b12.trans (b3.mono (by simp; omega))⟩
end Go.Proofs.YtbiodfeanngkdaaDoor
