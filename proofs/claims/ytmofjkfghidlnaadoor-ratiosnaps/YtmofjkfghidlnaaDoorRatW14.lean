/- Contracts of package ratio: Snap. -/
import Derived.Test.YtmofjkfghidlnaaDoorRatW13
import Derived.Test.YtmofjkfghidlnaaDoorRatW8
namespace Go.Proofs.YtmofjkfghidlnaaDoor
open Go.RowKit Go.Shelf
attribute [local go_sem] Oper.semAt_some

set_option maxRecDepth 100000 in
set_option maxHeartbeats 1000000 in
theorem snap_walk (an ad gn gd how z k e y : Int) (r : Rt × Int) (h0 : 0 < ad) (h1 : ad ≤ 2147483648) (hg0 : 0 < gn) (hg1 : gn ≤ 4611686018427387904) (hd0 : 0 < gd) (hd1 : gd ≤ 2147483648)
    (HA : ∀ w, Calls Tryd.prog 21 #[.agg #[.int .i64 an, .int .i64 ad]] w fun e w' => e = .returned (.bool true) ∧ Below w.heap.size w w')
    (HB : ∀ w, Calls Tryd.prog 21 #[.agg #[.int .i64 gn, .int .i64 gd]] w fun e w' => e = .returned (.bool true) ∧ Below w.heap.size w w')
    (HP : ∀ w, Calls Tryd.prog 67 #[.int .i64 an, .int .i64 gd] w fun e w' => e = .returned (wv z) ∧ Below w.heap.size w w')
    (HM : ∀ w, Calls Tryd.prog 75 #[wv z, .int .u64 gn, .int .u64 ad, .int .i64 how] w fun r w' => r = .returned (.tuple #[.int .i64 k, .int .i64 e]) ∧ Below w.heap.size w w')
    (hres : (¬ e = 0 ∧ r = (⟨0, 0⟩, e)) ∨ (e = 0 ∧ (∀ w, Calls Tryd.prog 67 #[.int .i64 k, .int .i64 gn] w fun e w' => e = .returned (wv y) ∧ Below w.heap.size w w') ∧
      ∀ w, Calls Tryd.prog 59 #[wv y, .int .u64 gd] w fun e w' => e = .returned (.tuple #[.agg #[.int .i64 r.1.N, .int .i64 r.1.D], .int .i64 r.2]) ∧ Below w.heap.size w w')) (w : World) :
    Calls Tryd.prog 43 #[.agg #[.int .i64 an, .int .i64 ad], .agg #[.int .i64 gn, .int .i64 gd], .int .i64 how] w fun e w' => e = .returned (.tuple #[.agg #[.int .i64 r.1.N, .int .i64 r.1.D], .int .i64 r.2]) ∧ Below w.heap.size w w' := by
  have HA := hideR HA
  have HB := hideR HB
  have HP := hideR HP
  have HM := hideR HM
  have W1 : Hid (IntKind.u64.wrap gn = gn) := by rw [Hid, IntKind.wrap_u64]; omega
  have W2 : Hid (IntKind.u64.wrap ad = ad) := by rw [Hid, IntKind.wrap_u64]; omega
  have W3 : Hid (IntKind.u64.wrap gd = gd) := by rw [Hid, IntKind.wrap_u64]; omega
  have q1 : ¬ gn ≤ 0 := by omega
  rcases hres with ⟨he, rfl⟩ | ⟨rfl, HQ, HL⟩
  · have he2 : (e != 0) = true := by simpa using he
    go_enter Tryd.func43, Tryd.ntmps43
    go_wp2_with fail
    go_at_call 21
    refine Calls.mono (HA.out _) ?_
    rintro e w1 ⟨rfl, b1⟩
    have S1 := (Three.new w an ad gn gd 0 0 26).keep b1
    have BB1 := bup (bel3 w _ _ _) b1
    clear b1
    obtain ⟨⟨_, a0, a1, _, _⟩, ⟨_, p0, p1, _, _⟩, ⟨_, c0, c1, f0, f1⟩⟩ := id S1
    go_wp2_with fail
    go_at_call 21
    refine Calls.mono (HB.out _) ?_
    rintro e V ⟨rfl, b2⟩
    have SV := S1.keep b2
    have BV := bup BB1 b2
    clear a0 a1 p0 p1 c0 c1 f0 f1 S1 BB1 b2
    obtain ⟨⟨zA, a0, a1, _, _⟩, ⟨zB, p0, p1, _, _⟩, ⟨zC, c0, c1, f0, f1⟩⟩ := id SV
    have SC : V.cell? ⟨w.heap.size, 0, none⟩ = some (.int .i64 an) ∧ V.cell? ⟨w.heap.size, 1, none⟩ = some (.int .i64 ad) ∧ V.cell? ⟨w.heap.size + 1, 0, none⟩ = some (.int .i64 gn) ∧ V.cell? ⟨w.heap.size + 1, 1, none⟩ = some (.int .i64 gd) := ⟨a0, a1, p0, p1⟩
    go_wp2_with fail
    go_region_held3 (fun w' => w'.cell? ⟨w.heap.size, 0, none⟩ = some (.int .i64 an) ∧ w'.cell? ⟨w.heap.size, 1, none⟩ = some (.int .i64 ad) ∧ w'.cell? ⟨w.heap.size + 1, 0, none⟩ = some (.int .i64 gn) ∧ w'.cell? ⟨w.heap.size + 1, 1, none⟩ = some (.int .i64 gd)) (first | assumption | go_keep) (first | (go_at_call 67; refine Calls.mono (HP.out _) ?_; rintro e w3 ⟨rfl, b3⟩; have B3 : Below V.heap.size V w3 := bup (Below.refl _ _).drew b3; have S3 := keep4 B3 zA zB SC) | (go_at_call 75; (try simp only [W1.out, W2.out]); refine Calls.mono (HM.out _) ?_; rintro e w4 ⟨rfl, b4⟩; have B4 : Below V.heap.size V w4 := bup B3 b4; have S4 := keep4 B4 zA zB SC; have T4 := SV.2.2.keep B4; obtain ⟨_, k0, k1, k2, k3⟩ := id T4; obtain ⟨i0, i1, i2, i3⟩ := id S4))
    all_goals (try go_wp2_with fail)
    all_goals exact bodyPost_ret (v := .tuple #[.agg #[.int .i64 0, .int .i64 0], .int .i64 e]) (by simp [results, Tryd.results43, go_sem, k0, k1]) rfl ⟨rfl, ((bup BV B4).setCell (by simp; omega) _).setCell (by simp; omega) _⟩
  · have HQ := hideR HQ
    have HL := hideR HL
    go_enter Tryd.func43, Tryd.ntmps43
    go_wp2_with fail
    go_at_call 21
    refine Calls.mono (HA.out _) ?_
    rintro e w1 ⟨rfl, b1⟩
    have S1 := (Three.new w an ad gn gd 0 0 26).keep b1
    have BB1 := bup (bel3 w _ _ _) b1
    clear b1
    obtain ⟨⟨_, a0, a1, _, _⟩, ⟨_, p0, p1, _, _⟩, ⟨_, c0, c1, f0, f1⟩⟩ := id S1
    go_wp2_with fail
    go_at_call 21
    refine Calls.mono (HB.out _) ?_
    rintro e V ⟨rfl, b2⟩
    have SV := S1.keep b2
    have BV := bup BB1 b2
    clear a0 a1 p0 p1 c0 c1 f0 f1 S1 BB1 b2
    obtain ⟨⟨zA, a0, a1, _, _⟩, ⟨zB, p0, p1, _, _⟩, ⟨zC, c0, c1, f0, f1⟩⟩ := id SV
    have SC : V.cell? ⟨w.heap.size, 0, none⟩ = some (.int .i64 an) ∧ V.cell? ⟨w.heap.size, 1, none⟩ = some (.int .i64 ad) ∧ V.cell? ⟨w.heap.size + 1, 0, none⟩ = some (.int .i64 gn) ∧ V.cell? ⟨w.heap.size + 1, 1, none⟩ = some (.int .i64 gd) := ⟨a0, a1, p0, p1⟩
    go_wp2_with fail
    go_region_held3 (fun w' => w'.cell? ⟨w.heap.size, 0, none⟩ = some (.int .i64 an) ∧ w'.cell? ⟨w.heap.size, 1, none⟩ = some (.int .i64 ad) ∧ w'.cell? ⟨w.heap.size + 1, 0, none⟩ = some (.int .i64 gn) ∧ w'.cell? ⟨w.heap.size + 1, 1, none⟩ = some (.int .i64 gd)) (first | assumption | go_keep) (first | (go_at_call 67; refine Calls.mono (HP.out _) ?_; rintro e w3 ⟨rfl, b3⟩; have B3 : Below V.heap.size V w3 := bup (Below.refl _ _).drew b3; have S3 := keep4 B3 zA zB SC) | (go_at_call 75; (try simp only [W1.out, W2.out]); refine Calls.mono (HM.out _) ?_; rintro e w4 ⟨rfl, b4⟩; have B4 : Below V.heap.size V w4 := bup B3 b4; have S4 := keep4 B4 zA zB SC; have T4 := SV.2.2.keep B4; obtain ⟨_, k0, k1, k2, k3⟩ := id T4; obtain ⟨i0, i1, i2, i3⟩ := id S4))
    all_goals (try go_wp2_with fail)
    all_goals (
      have zA4 : w.heap.size < w4.heap.size := Nat.lt_of_lt_of_le zA B4.size
      have zB4 : w.heap.size + 1 < w4.heap.size := Nat.lt_of_lt_of_le zB B4.size
      clear HP HM HA HB B3 SV SC
      go_region_held3 (fun w' => w'.cell? ⟨w.heap.size, 0, none⟩ = some (.int .i64 an) ∧ w'.cell? ⟨w.heap.size, 1, none⟩ = some (.int .i64 ad) ∧ w'.cell? ⟨w.heap.size + 1, 0, none⟩ = some (.int .i64 gn) ∧ w'.cell? ⟨w.heap.size + 1, 1, none⟩ = some (.int .i64 gd)) (first | assumption | exact keep4s (by assumption) | go_keep) (first | (go_at_call 67; refine Calls.mono (HQ.out _) ?_; rintro e w5 ⟨rfl, b5⟩; have B5 : Below w4.heap.size w4 w5 := bup (Below.refl _ _).drew b5; have S5 := keep4 B5 zA4 zB4 S4) | (go_at_call 59; (try simp only [W3.out]); refine Calls.mono (HL.out _) ?_; rintro e w6 ⟨rfl, b6⟩; have B6 : Below w4.heap.size w4 w6 := bup B5 b6; have S6 := keep4 B6 zA4 zB4 S4; obtain ⟨_, j0, j1, j2, j3⟩ := T4.keep B6))
      all_goals (try go_wp2_with fail)
      all_goals exact bodyPost_ret (v := .tuple #[.agg #[.int .i64 r.1.N, .int .i64 r.1.D], .int .i64 r.2]) (by simp [results, Tryd.results43, go_sem, j0, j1]) rfl ⟨rfl, ((bup (bup BV B4) B6).setCell (by simp; omega) _).setCell (by simp; omega) _⟩)
end Go.Proofs.YtmofjkfghidlnaaDoor
