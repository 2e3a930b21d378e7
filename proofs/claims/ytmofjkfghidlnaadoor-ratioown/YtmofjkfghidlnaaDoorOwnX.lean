/- The walk of surtitlelaw3.RatioOwn over no row; over any row. -/
import Derived.Test.YtmofjkfghidlnaaDoorOwnW
import Derived.BigQuiet
namespace Go.Proofs.YtmofjkfghidlnaaDoor
open Go.RowKit Go.Shelf
attribute [local go_sem] Oper.semAt_some
set_option maxRecDepth 100000 in
set_option maxHeartbeats 4000000 in
theorem own_nil (w : World) (sn sd se xn xd yn yd : Int) (xo yo : Bool)
    (H1 : ∀ (g : Nat) (w0 : World), RowAt [] ⟨g, 0, none⟩ w0 → Calls Tryd.prog 34 #[.slice (some ⟨g, 0, none⟩) 0 3] w0 fun e w' => e = .returned (.tuple #[.agg #[.int .i64 sn, .int .i64 sd], .int .i64 se]) ∧ Below w0.heap.size w0 w')
    (H2 : ∀ (g : Nat) (w0 : World), RowAt [] ⟨g, 0, none⟩ w0 → Calls Tryd.prog 36 #[.slice (some ⟨g, 0, none⟩) 0 3] w0 fun e w' => e = .returned (.tuple #[.agg #[.int .i64 xn, .int .i64 xd], .bool xo]) ∧ Below w0.heap.size w0 w')
    (H3 : ∀ (g : Nat) (w0 : World), RowAt [] ⟨g, 0, none⟩ w0 → Calls Tryd.prog 38 #[.slice (some ⟨g, 0, none⟩) 0 3] w0 fun e w' => e = .returned (.tuple #[.agg #[.int .i64 yn, .int .i64 yd], .bool yo]) ∧ Below w0.heap.size w0 w') :
    Calls Tryd.prog 16 #[.slice none 0 0] w fun e w' => e = .returned (.bool true) ∧ Below w.heap.size w w' := by
  have hmx : maxLen ≤ 9223372036854775807 := by decide
  have hm3 : 3003 ≤ maxLen := by decide
  have HK := hideR known_any
  have H1 := hideR H1
  have H2 := hideR H2
  have H3 := hideR H3
  obtain ⟨i0, hi, hz0, hz1, hz2⟩ := info_parts infoRt
  go_enter Tryd.func16, Tryd.ntmps16
  go_wp2_with fail
  go_at_call 17
  refine Calls.mono (HK.out _) ?_
  rintro e w1 ⟨rfl, b1⟩
  have z1 := b1.size
  go_wp2_with (first | (at_make; refine wpList_make_own _ rfl _ _ 39 rfl w.heap.size 26 i0 (.agg #[.int .i64 0, .int .i64 0]) 2 Tryd.underlying39 hi hz0 hz1 .i64 .i64 _ 3 rfl rfl (by simp) (by rw [hz2]; omega) (by omega) (by omega) ?_; intro w2 own2 gr2; have B2 := Below.grown b1 gr2 (by omega) (fun k hk => by cases hk)))
  obtain ⟨C0, O3, F3⟩ := own_start (l := []) own2
  have B3 := B2
  clear own2 gr2 B2 b1
  go_loopw [5] (fun i wr => ∃ (k : Nat) (C : Nat → Value), i = .int .i64 k ∧ k ≤ 3 ∧ Own wr w1.heap.size 6 C ∧ Fill [] C k ∧ Below w.heap.size w wr) (fun i _ => 3 - (intOf i).toNat)
  case atStart => exact ⟨0, C0, rfl, by omega, O3, F3, B3⟩
  case round =>
    clear O3 F3 B3
    obtain ⟨k, C, rfl, hk, hO, hF, hB⟩ := hrel
    by_cases hk2 : k < 3
    · obtain ⟨c0, f0⟩ := hO.2 (k * 2) (by omega)
      obtain ⟨c1, f1⟩ := hO.2 (k * 2 + 1) (by omega)
      have O4 := (hO.put (j := k * 2) (v := .int .i64 (-77)) (by omega)).put (j := k * 2 + 1) (v := .int .i64 (-77)) (by omega)
      have B4 := (hB.setCell (p := ⟨w1.heap.size, k * 2, none⟩) (by simp; omega) (.int .i64 (-77))).setCell (p := ⟨w1.heap.size, k * 2 + 1, none⟩) (by simp; omega) (.int .i64 (-77))
      go_wp2_with fail
      refine ⟨⟨k + 1, _, by go_num, by omega, O4, hF.step (Nat.zero_le _), B4⟩, ?_⟩
      simp [intOf]
      omega
    · obtain rfl : k = 3 := by omega
      go_wp2_with fail
      go_at_call 34
      refine Calls.mono (H1.out _ _ (own_row (l := []) hO hF)) ?_
      rintro e w5 ⟨rfl, b5⟩
      have O5 := hO.keep b5
      have B5 := bup hB b5
      clear hO hB b5
      go_wp2_with fail
      go_at_call 36
      refine Calls.mono (H2.out _ _ (own_row (l := []) O5 hF)) ?_
      rintro e w6 ⟨rfl, b6⟩
      have O6 := O5.keep b6
      have B6 := bup B5 b6
      clear O5 B5 b6
      go_wp2_with fail
      go_at_call 38
      refine Calls.mono (H3.out _ _ (own_row (l := []) O6 hF)) ?_
      rintro e w7 ⟨rfl, b7⟩
      have O7 := O6.keep b7
      have B7 := bup B6 b7
      clear O6 B6 b7
      go_wp2_with fail
      go_loopw [6] (fun i wr => ∃ k : Nat, i = .int .i64 k ∧ k ≤ 3 ∧ Own wr w1.heap.size 6 C ∧ Below w.heap.size w wr) (fun i _ => 3 - (intOf i).toNat)
      case atStart => exact ⟨0, rfl, Nat.zero_le _, O7, B7⟩
      case round =>
        clear O7 B7 hk hk2
        obtain ⟨k, rfl, hk, hO, hB⟩ := hrel
        by_cases hk2 : k < 3
        · obtain ⟨c0, f0⟩ := hO.2 (k * 2) (by omega)
          obtain ⟨c1, f1⟩ := hO.2 (k * 2 + 1) (by omega)
          rw [hF.2 k (Nat.zero_le _) (by omega)] at c1
          have t1 : ¬ (k : Int) < 0 := by omega
          have t2 : (k : Int) < 3 := by omega
          have t3 : decide ((k : Int) < 0) = false := decide_eq_false t1
          have t4 : decide (0 ≤ (k : Int)) = true := decide_eq_true (by omega)
          have t5 : 0 ≤ (k : Int) := by omega
          go_wp2_with fail
          go_quiet (fail)
          go_wp2_with fail
          refine ⟨⟨k + 1, by go_num, by omega, hO, by first | exact hB | exact hB.drew | exact below_drewN hB _⟩, ?_⟩
          simp [intOf]
          omega
        · go_wp2_with fail
          go_ret
          exact ⟨rfl, hB⟩
theorem own_any (l : List Rt) (hl : ∀ p ∈ l, RtIn p) (o : Option Addr) (cap : Nat) (hc : l.length ≤ cap ∧ cap ≤ maxLen) (w : World) (hO : (∀ (k : Nat) (p : Rt), l[k]? = some p → ∃ a, o = some a ∧ RowAt l a w) ∧ (o = none → cap = 0)) :
    Calls Tryd.prog 16 #[.slice o l.length cap] w fun e w' => e = .returned (.bool true) ∧ Below w.heap.size w w' := by
  have hm3 : 3003 ≤ maxLen := by decide
  cases o with
  | none =>
    obtain rfl := hO.2 rfl
    have hl0 : l = [] := List.eq_nil_of_length_eq_zero (by omega)
    subst hl0
    exact own_nil w 0 1 0 0 0 0 0 false false (fun g w0 _ => sum_nil _ 3 w0) (fun g w0 _ => least_wrap w0 _ 0 0 false (fun w1 _ => outer_nil _ 3 (-1) w1)) (fun g w0 _ => most_wrap w0 _ 0 0 false (fun w1 _ => outer_nil _ 3 1 w1))
  | some a =>
    have hR : ∀ V : World, Below w.heap.size w V → Cells l a V := fun V b i p hp => by
      obtain ⟨a', e, h⟩ := hO.1 i p hp
      cases e
      exact (h.keep b).2 i p hp
    cases l with
    | nil =>
      exact own_walk [] a cap hc w hR 0 1 0 0 0 0 0 false false (fun _ g w0 _ => sum_nil _ 3 w0) (fun _ g w0 _ => least_wrap w0 _ 0 0 false (fun w1 _ => outer_nil _ 3 (-1) w1)) (fun _ g w0 _ => most_wrap w0 _ 0 0 false (fun w1 _ => outer_nil _ 3 1 w1))
    | cons b t =>
      exact own_walk (b :: t) a cap hc w hR _ _ _ _ _ _ _ true true (fun h g w0 h0 => sum_any (b :: t) hl ⟨g, 0, none⟩ ((b :: t).length + 3) ⟨by omega, by omega⟩ w0 h0)
        (fun h g w0 h0 => least_wrap w0 _ _ _ true (fun w1 h1 => outer_any b t hl (-1) ⟨g, 0, none⟩ ((b :: t).length + 3) ⟨by omega, by omega⟩ w1 (h0.keep h1)))
        (fun h g w0 h0 => most_wrap w0 _ _ _ true (fun w1 h1 => outer_any b t hl 1 ⟨g, 0, none⟩ ((b :: t).length + 3) ⟨by omega, by omega⟩ w1 (h0.keep h1)))
end Go.Proofs.YtmofjkfghidlnaaDoor
