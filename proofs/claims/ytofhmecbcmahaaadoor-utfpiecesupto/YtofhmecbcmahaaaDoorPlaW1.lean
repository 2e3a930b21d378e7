/- The walk of UtfPlaces: any place, in any units, is told as the document tells it. -/
import Derived.Test.YtofhmecbcmahaaaDoorHead
import Derived.Test.YtofhmecbcmahaaaDoorRPla
namespace Go.Proofs.YtofhmecbcmahaaaDoor
open Go.RowKit

set_option maxHeartbeats 400000 in
theorem place_no (s : ByteArray) (loc u v : Int) (h : ¬ ((u = 1 ∨ u = 2 ∨ u = 3) ∧ (v = 1 ∨ v = 2 ∨ v = 3))) (w : World) :
    Calls Tryd.prog 26 #[.string s, .int .i64 loc, .int .i64 u, .int .i64 v] w fun e w' => e = .returned (.tuple #[.int .i64 0, .int .i64 5]) ∧ Below w.heap.size w w' := by
  by_cases hu : u = 1 ∨ u = 2 ∨ u = 3
  · have hv : ¬ (v = 1 ∨ v = 2 ∨ v = 3) := fun e => h ⟨hu, e⟩
    go_enter Tryd.func26, Tryd.ntmps26
    go_wp2_with fail
    refine (isUnit_yes u _ hu).mono ?_
    rintro e w' ⟨rfl, rfl⟩
    go_wp2_with fail
    refine (isUnit_no v _ hv).mono ?_
    rintro e w' ⟨rfl, rfl⟩
    go_wp2
    go_ret2
    exact ⟨rfl, Below.refl _ _⟩
  · go_enter Tryd.func26, Tryd.ntmps26
    go_wp2_with fail
    refine (isUnit_no u _ hu).mono ?_
    rintro e w' ⟨rfl, rfl⟩
    go_wp2
    go_ret2
    exact ⟨rfl, Below.refl _ _⟩
set_option maxHeartbeats 400000 in
theorem rplace_no (s : ByteArray) (loc u v : Int) (h : ¬ ((u = 1 ∨ u = 2 ∨ u = 3) ∧ (v = 1 ∨ v = 2 ∨ v = 3))) (w : World) :
    Calls Tryd.prog 27 #[.string s, .int .i64 loc, .int .i64 u, .int .i64 v] w fun e w' => e = .returned (.tuple #[.int .i64 0, .int .i64 5]) ∧ Below w.heap.size w w' := by
  by_cases hu : u = 1 ∨ u = 2 ∨ u = 3
  · have hv : ¬ (v = 1 ∨ v = 2 ∨ v = 3) := fun e => h ⟨hu, e⟩
    go_enter Tryd.func27, Tryd.ntmps27
    go_wp2_with fail
    refine (runit_yes u _ hu).mono ?_
    rintro e w' ⟨rfl, rfl⟩
    go_wp2_with fail
    refine (runit_no v _ hv).mono ?_
    rintro e w' ⟨rfl, rfl⟩
    go_wp2
    go_ret2
    exact ⟨rfl, Below.refl _ _⟩
  · go_enter Tryd.func27, Tryd.ntmps27
    go_wp2_with fail
    refine (runit_no u _ hu).mono ?_
    rintro e w' ⟨rfl, rfl⟩
    go_wp2
    go_ret2
    exact ⟨rfl, Below.refl _ _⟩

theorem findS_err (s : ByteArray) (u loc : Int) : (findS s u loc).2 = 0 ∨ (findS s u loc).2 = 1 ∨ (findS s u loc).2 = 21 := by
  unfold findS
  split
  · exact .inr (.inl rfl)
  · rcases findL_errs u loc (spotsL s) with h | ⟨h, _⟩ | ⟨h, _⟩
    · exact .inl h
    · exact .inr (.inr (by rw [h]))
    · exact .inr (.inl (by rw [h]))

/-- Both told the same pair: the statement's answer. -/
theorem places_of (s : ByteArray) (loc u v : Int) (n e : Int) (he : e = 0 ∨ e = 1 ∨ e = 5 ∨ e = 21) (w : World) (hw : 2 ≤ w.heap.size) (hT : Lib.Utf8Tabs 0 1 w)
    (HP : Hid (∀ W, Calls Tryd.prog 26 #[.string s, .int .i64 loc, .int .i64 u, .int .i64 v] W fun r w' => r = .returned (.tuple #[.int .i64 n, .int .i64 e]) ∧ Below W.heap.size W w'))
    (HR : Hid (∀ W, Calls Tryd.prog 27 #[.string s, .int .i64 loc, .int .i64 u, .int .i64 v] W fun r w' => r = .returned (.tuple #[.int .i64 n, .int .i64 e]) ∧ Below W.heap.size W w')) :
    Calls Tryd.prog 4 #[.string s, .int .i64 loc, .int .i64 u, .int .i64 v] w fun e w' => e = .returned (.bool true) ∧ Below w.heap.size w w' := by
  rcases he with rfl | rfl | rfl | rfl
  all_goals
    go_enter Tryd.func4, Tryd.ntmps4
    go_wp2_with fail
    refine (HP.out _).mono ?_
    rintro r w1 ⟨rfl, b1⟩
    go_wp2_with fail
    refine (HR.out _).mono ?_
    rintro r w2 ⟨rfl, b2⟩
    have s1 := b1.size
    have s2 := b2.size
    have b12 := b1.trans (b2.mono s1)
    go_wp2_with fail
    refine (head_any _ (by omega) (tabs_below hw hT b12)).mono ?_
    rintro r w3 ⟨rfl, b3⟩
    go_wp2
    go_ret
    exact ⟨rfl, b12.trans (b3.mono (by omega))⟩

theorem lawPlaces1_any (s : ByteArray) (hs : s.size ≤ 1048576) (loc : Int) (_ : -9223372036854775808 ≤ loc) (_ : loc ≤ 9223372036854775807) (u : Int) (_ : -9223372036854775808 ≤ u) (_ : u ≤ 9223372036854775807) (v : Int) (_ : -9223372036854775808 ≤ v) (_ : v ≤ 9223372036854775807) (w : World) (hw : 2 ≤ w.heap.size) (hT : Lib.Utf8Tabs 0 1 w) :
    Calls Tryd.prog 4 #[.string s, .int .i64 loc, .int .i64 u, .int .i64 v] w fun e w' => e = .returned (.bool true) ∧ Below w.heap.size w w' := by
  by_cases h : (u = 1 ∨ u = 2 ∨ u = 3) ∧ (v = 1 ∨ v = 2 ∨ v = 3)
  · refine places_of s loc u v _ _ ?_ w hw hT (fun W => place_any s (by omega) loc u v h.1 h.2 W) (fun W => rplace_any s hs loc u v h.1 h.2 W)
    rcases findS_err s u loc with e | e | e <;> rw [e] <;> simp
  · exact places_of s loc u v 0 5 (by simp) w hw hT (fun W => place_no s loc u v h W) (fun W => rplace_no s loc u v h W)
end Go.Proofs.YtofhmecbcmahaaaDoor
