/- The contract of the document's own Cut (surtitleref1) by signs, from one to another. -/
import Derived.Test.YtijgpdccemfhgaaGreatDoorRPla
namespace Go.Proofs.YtijgpdccemfhgaaGreatDoor
open Go.RowKit

set_option maxHeartbeats 400000 in
theorem rcountR (s : ByteArray) (hs : s.size ≤ 1048576) (w : World) :
    Calls Tryz.prog 19 #[.string s] w fun e w' => e = .returned (.int .i64 (signs s).length) ∧ Below w.heap.size w w' := by
  go_enter Tryz.func19, Tryz.ntmps19
  go_wp2_with fail
  refine (rsigns_any s hs _).mono ?_
  rintro e w1 ⟨lv, rfl, hown, hB1⟩
  obtain ⟨oa, cap, rfl, hcell⟩ := rows_at hown
  clear hcell hown
  go_wp2
  go_ret
  exact ⟨rfl, hB1⟩
set_option maxRecDepth 100000 in
set_option maxHeartbeats 400000 in
theorem rallR (s : ByteArray) (hs : s.size ≤ 1048576) (w : World) :
    Calls Tryz.prog 61 #[.string s, .int .i64 2] w fun e w' => e = .returned (.int .i64 (signs s).length) ∧ Below w.heap.size w w' := by
  go_enter Tryz.func61, Tryz.ntmps61
  go_wp2_with fail
  refine (rcountR s hs _).mono ?_
  rintro e w1 ⟨rfl, b1⟩
  go_wp2
  go_ret
  exact ⟨rfl, b1⟩
theorem find_spot (s : ByteArray) (k : Nat) (hk : k ≤ (signs s).length) : findS s 2 (k : Int) = (spotAt s k, 0) := by
  unfold findS
  rw [if_neg (by omega)]
  have h := findL_mem 2 (spots_rise s) (spotAt_mem s k)
  have hc : (spotAt s k).get 2 = (k : Int) := spotAt_c s k hk
  rw [hc] at h
  exact h
set_option maxRecDepth 100000 in
set_option maxHeartbeats 1000000 in
theorem rcutR (s : ByteArray) (hs : s.size ≤ 1048576) (fr tt A B : Nat) (h1 : fr ≤ tt) (h2 : tt ≤ (signs s).length) (hA : (spotAt s fr).b = A) (hB : (spotAt s tt).b = B) (hAB : A ≤ B) (hBs : B ≤ s.size) (w : World) :
    Calls Tryz.prog 47 #[.string s, .int .i64 2, .int .i64 fr, .int .i64 tt] w fun e w' => e = .returned (.tuple #[.string (s.extract A B), .int .i64 0]) ∧ Below w.heap.size w w' := by
  have HA := hideO (fun W => rallR s hs W)
  have HP := hideO (fun W => rplace_any s hs fr 2 1 (.inr (.inl rfl)) (.inl rfl) W)
  have HQ := hideO (fun W => rplace_any s hs tt 2 1 (.inr (.inl rfl)) (.inl rfl) W)
  rw [find_spot s fr (by omega), show ((spotAt s fr, (0 : Int)).1).get 1 = (spotAt s fr).b from rfl, hA] at HP
  rw [find_spot s tt h2, show ((spotAt s tt, (0 : Int)).1).get 1 = (spotAt s tt).b from rfl, hB] at HQ
  have g1 : (fr : Int) ≤ ((signs s).length : Int) := by omega
  have g2 : (tt : Int) ≤ ((signs s).length : Int) := by omega
  have g3 : (fr : Int) ≤ (tt : Int) := by omega
  generalize (signs s).length = n at *
  clear hA hB
  go_enter Tryz.func47, Tryz.ntmps47
  go_wp2_with fail
  refine (runit_yes 2 _ (.inr (.inl rfl))).mono ?_
  rintro e w' ⟨rfl, rfl⟩
  go_wp2_with fail
  refine (HA.out _).mono ?_
  rintro e w1 ⟨rfl, b1⟩
  have s1 := b1.size
  go_wp2_with fail
  refine (HP.out _).mono ?_
  rintro e w2 ⟨rfl, b2⟩
  have s2 := b2.size
  go_wp2_with fail
  refine (HQ.out _).mono ?_
  rintro e w3 ⟨rfl, b3⟩
  go_wp2
  go_ret2
  exact ⟨rfl, (b1.trans (b2.mono s1)).trans (b3.mono (by omega))⟩
end Go.Proofs.YtijgpdccemfhgaaGreatDoor
