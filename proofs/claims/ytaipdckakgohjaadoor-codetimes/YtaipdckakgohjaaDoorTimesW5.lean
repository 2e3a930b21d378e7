/- The walk of surtitlelaw5.CodeTimes. -/
import Derived.Test.YtaipdckakgohjaaDoorCRefH
namespace Go.Proofs.YtaipdckakgohjaaDoor
open Go.RowKit Go.Shelf
attribute [local go_sem] Oper.semAt_some

set_option maxRecDepth 100000 in
set_option maxHeartbeats 1000000 in
theorem times_walk (n d fr a b te le : Int) (dr : Bool) (s : ByteArray) (w : World)
    (HK : ∀ w0, Below w.heap.size w w0 → Calls Tryd.prog 15 #[] w0 fun e w' => e = .returned (.bool true) ∧ Below w0.heap.size w0 w')
    (H1 : ∀ w, Calls Tryd.prog 22 #[.agg #[.int .i64 n, .int .i64 d, .bool dr], .int .i64 fr] w fun e w' => e = .returned (.tuple #[.agg #[.int .i64 a, .int .i64 b], .int .i64 te]) ∧ Below w.heap.size w w')
    (H2 : ∀ w0, Below w.heap.size w w0 → Calls Tryd.prog 23 #[.agg #[.int .i64 n, .int .i64 d, .bool dr], .int .i64 fr] w0 fun e w' => e = .returned (.tuple #[.string s, .int .i64 le]) ∧ Below w0.heap.size w0 w')
    (H3 : ∀ w, Calls Tryd.prog 24 #[.agg #[.int .i64 n, .int .i64 d, .bool dr], .int .i64 fr] w fun e w' => e = .returned (.tuple #[.agg #[.int .i64 a, .int .i64 b], .int .i64 te]) ∧ Below w.heap.size w w')
    (H4 : ∀ w, Calls Tryd.prog 25 #[.agg #[.int .i64 n, .int .i64 d, .bool dr], .int .i64 fr] w fun e w' => e = .returned (.tuple #[.string s, .int .i64 le]) ∧ Below w.heap.size w w') :
    Calls Tryd.prog 5 #[.agg #[.int .i64 n, .int .i64 d, .bool dr], .int .i64 fr] w fun e w' => e = .returned (.bool true) ∧ Below w.heap.size w w' := by
  have HK := hideR HK
  have H1 := hideR H1
  have H2 := hideR H2
  have H3 := hideR H3
  have H4 := hideR H4
  go_enter Tryd.func5, Tryd.ntmps5
  go_wp2_with fail
  go_at_call 15
  refine (HK.out _ (bel1 w _)).mono ?_
  rintro e w1 ⟨rfl, b1⟩
  have A1 := ((RateAt.new w n d dr).keep b1)
  have B1 := bup (bel1 w _) b1
  clear b1
  obtain ⟨_, a0, a1, a2⟩ := id A1
  go_wp2_with fail
  go_at_call 22
  refine (H1.out _).mono ?_
  rintro e w2 ⟨rfl, b2⟩
  have A2 := (A1.keep b2).alloc (.cells #[.int .i64 a, .int .i64 b] 28)
  have B2 := bup (bup B1 b2) (bel1 w2 (.cells #[.int .i64 a, .int .i64 b] 28))
  clear A1 B1 a0 a1 a2
  clear b2
  have T2 := Two.new w2 (.int .i64 a) (.int .i64 b) 28
  obtain ⟨_, a0, a1, a2⟩ := id A2
  obtain ⟨_, t0, t1, t2, t3⟩ := id T2
  go_wp2_with fail
  go_at_call 23
  refine (H2.out _ B2).mono ?_
  rintro e w3 ⟨rfl, b3⟩
  have A3 := (A2.keep b3)
  have T3 := (T2.keep b3)
  have B3 := bup B2 b3
  clear A2 T2 B2 a0 a1 a2 t0 t1 t2 t3
  clear b3
  obtain ⟨_, a0, a1, a2⟩ := id A3
  obtain ⟨_, t0, t1, t2, t3⟩ := id T3
  go_wp2_with fail
  go_at_call 24
  refine (H3.out _).mono ?_
  rintro e w4 ⟨rfl, b4⟩
  have A4 := (A3.keep b4).alloc (.cells #[.int .i64 a, .int .i64 b] 28)
  have T4 := (T3.keep b4).alloc (.cells #[.int .i64 a, .int .i64 b] 28)
  have B4 := bup (bup B3 b4) (bel1 w4 (.cells #[.int .i64 a, .int .i64 b] 28))
  clear A3 T3 B3 a0 a1 a2 t0 t1 t2 t3
  clear b4
  have X4 := Two.new w4 (.int .i64 a) (.int .i64 b) 28
  obtain ⟨_, a0, a1, a2⟩ := id A4
  obtain ⟨_, t0, t1, t2, t3⟩ := id T4
  obtain ⟨_, x0, x1, x2, x3⟩ := id X4
  go_wp2_with fail
  go_at_call 25
  refine (H4.out _).mono ?_
  rintro e w5 ⟨rfl, b5⟩
  have A5 := (A4.keep b5)
  have T5 := (T4.keep b5)
  have X5 := (X4.keep b5)
  have B5 := bup B4 b5
  clear A4 T4 X4 B4 a0 a1 a2 t0 t1 t2 t3 x0 x1 x2 x3
  clear b5
  obtain ⟨_, a0, a1, a2⟩ := id A5
  obtain ⟨_, t0, t1, t2, t3⟩ := id T5
  obtain ⟨_, x0, x1, x2, x3⟩ := id X5
  go_wp2_with fail
  go_ret
  exact ⟨by simp, B5⟩
theorem times_any (n d : Int) (dr : Bool) (hn : I64 n) (hd : I64 d) (fr : Int) (hf : I64 fr) (w : World) (hp : PowAt w) :
    Calls Tryd.prog 5 #[.agg #[.int .i64 n, .int .i64 d, .bool dr], .int .i64 fr] w fun e w' => e = .returned (.bool true) ∧ Below w.heap.size w w' := by
  have HK := fun (w0 : World) (b0 : Below w.heap.size w w0) => known5_any w0 (hp.keep b0)
  have H1 := ctime_any n d dr hn hd fr hf
  have H3 := rtm_any n d dr fr
  by_cases h : checkI n d dr = 0
  · by_cases hb : 0 ≤ fr ∧ fr * d ≤ 360000 * n
    · exact times_walk n d fr _ _ _ _ dr _ w HK H1 (fun w0 b0 => label_ok n d dr hn hd fr hf h hb w0 (hp.keep b0)) H3 (rlabel_ok n d dr fr h hb)
    · exact times_walk n d fr _ _ _ _ dr _ w HK H1 (fun w0 _ => label_no n d dr hn hd fr hf h hb w0) H3 (rlabel_no n d dr fr h hb)
  · have e : timeF n d dr fr = bad 14 := by
      unfold timeF
      rw [if_neg h]
    have HT := H1
    rw [e] at HT
    have HC := rcheck_any n d dr
    rw [(check_two n d dr).resolve_left h] at HC
    exact times_walk n d fr _ _ _ _ dr _ w HK H1 (fun w0 _ => label_bad n d fr 0 0 14 dr rfl w0 HT) H3 (fun w => rlb_bad n d fr 14 dr rfl w HC)
end Go.Proofs.YtaipdckakgohjaaDoor
