/- The walk of surtitlelaw5.CodeNumbers. -/
import Derived.Test.YtaipdckakgohjaaGreatDoorGD
namespace Go.Proofs.YtaipdckakgohjaaGreatDoor
open Go.RowKit Go.Shelf
attribute [local go_sem] Oper.semAt_some

set_option maxRecDepth 100000 in
set_option maxHeartbeats 1000000 in
theorem numbers_walk (n d a b : Int) (dr : Bool) (s : ByteArray) (w : World)
    (HK : ∀ w0, Below w.heap.size w w0 → Calls Tryz.prog 6 #[] w0 fun e w' => e = .returned (.bool true) ∧ Below w0.heap.size w0 w')
    (H1 : ∀ w, Calls Tryz.prog 23 #[.agg #[.int .i64 n, .int .i64 d, .bool dr], .string s] w fun e w' => e = .returned (.tuple #[.int .i64 a, .int .i64 b]) ∧ Below w.heap.size w w')
    (H2 : ∀ w, Calls Tryz.prog 74 #[.agg #[.int .i64 n, .int .i64 d, .bool dr], .string s] w fun e w' => e = .returned (.tuple #[.int .i64 a, .int .i64 b]) ∧ Below w.heap.size w w') :
    Calls Tryz.prog 44 #[.agg #[.int .i64 n, .int .i64 d, .bool dr], .string s] w fun e w' => e = .returned (.bool true) ∧ Below w.heap.size w w' := by
  have HK := hideR HK
  have H1 := hideR H1
  have H2 := hideR H2
  go_enter Tryz.func44, Tryz.ntmps44
  go_wp2_with fail
  go_at_call 6
  refine (HK.out _ (bel1 w _)).mono ?_
  rintro e w1 ⟨rfl, b1⟩
  have A1 := ((RateAt.new w n d dr).keep b1)
  have B1 := bup (bel1 w _) b1
  clear b1
  obtain ⟨_, a0, a1, a2⟩ := id A1
  go_wp2_with fail
  go_at_call 23
  refine (H1.out _).mono ?_
  rintro e w2 ⟨rfl, b2⟩
  have A2 := (A1.keep b2)
  have B2 := bup B1 b2
  clear A1 B1 a0 a1 a2
  clear b2
  obtain ⟨_, a0, a1, a2⟩ := id A2
  go_wp2_with fail
  go_at_call 74
  refine (H2.out _).mono ?_
  rintro e w3 ⟨rfl, b3⟩
  have A3 := (A2.keep b3)
  have B3 := bup B2 b3
  clear A2 B2 a0 a1 a2
  clear b3
  obtain ⟨_, a0, a1, a2⟩ := id A3
  go_wp2_with fail
  go_ret
  exact ⟨by simp, B3⟩
theorem numbers_any (n d : Int) (dr : Bool) (hn : I64 n) (hd : I64 d) (s : ByteArray) (hs : s.size ≤ 9223372036854775807) (w : World) (hp : PowAt w) :
    Calls Tryz.prog 44 #[.agg #[.int .i64 n, .int .i64 d, .bool dr], .string s] w fun e w' => e = .returned (.bool true) ∧ Below w.heap.size w w' := by
  have HK := fun (w0 : World) (b0 : Below w.heap.size w w0) => known5_any w0 (hp.keep b0)
  have hl : s.data.toList.length ≤ 9223372036854775807 := by rw [← Lib.size_eq]; exact hs
  have H1 := cnum_any n d dr hn hd s.data.toList hl
  have H2 := rnum_any n d dr s.data.toList hl
  rw [bs_of] at H1 H2
  exact numbers_walk n d _ _ dr s w HK H1 H2
end Go.Proofs.YtaipdckakgohjaaGreatDoor
