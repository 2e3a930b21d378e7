/- Contracts of utf.Cut and of the document's own Cut (surtitleref1): the part from one place to another, by any unit. -/
import Derived.Test.YtofhmecbcmahaaaDoorPlaW1
import Derived.Test.YtofhmecbcmahaaaDoorRCnt
import Derived.Test.YtofhmecbcmahaaaDoorCloneW
namespace Go.Proofs.YtofhmecbcmahaaaDoor
open Go.RowKit

/-- What a cut tells: the part, or an error. -/
def cutF (s : ByteArray) (u fr to : Int) : ByteArray × Int :=
  if (findS s u fr).2 = 1 ∨ (findS s u to).2 = 1 ∨ to < fr then (ByteArray.empty, 1)
  else if (findS s u fr).2 ≠ 0 ∨ (findS s u to).2 ≠ 0 then (ByteArray.empty, 21)
  else (s.extract (findS s u fr).1.b.toNat (findS s u to).1.b.toNat, 0)
theorem findS_ok {s : ByteArray} {u loc : Int} (h : (findS s u loc).2 = 0) : (findS s u loc).1 ∈ spotsL s ∧ (findS s u loc).1.get u = loc := by
  unfold findS at h ⊢
  split at h
  · simp at h
  · rename_i hn
    rw [if_neg hn]
    exact findL_ok u loc h
theorem spot_b {s : ByteArray} {q : Spot} (h : q ∈ spotsL s) : 0 ≤ q.b ∧ q.b ≤ s.size := by
  have h1 := first_least s 1 h
  have h2 := last_most s 1 h
  rw [show q.get 1 = q.b from rfl] at h1 h2
  rw [show (lastS s).get 1 = (lastS s).b from rfl, lastS_b] at h2
  exact ⟨h1, h2⟩
theorem spot_le {s : ByteArray} {p q : Spot} (hp : p ∈ spotsL s) (hq : q ∈ spotsL s) (u v : Int) (h : p.get u ≤ q.get u) : p.get v ≤ q.get v := by
  by_cases c : q.get v < p.get v
  · have := rise_of_get (spots_rise s) hq hp v u c
    omega
  · omega
theorem findS_arg (s : ByteArray) (u loc : Int) : (findS s u loc).2 = 1 ↔ loc < 0 ∨ (lastS s).get u < loc := by
  unfold findS
  by_cases hn : loc < 0
  · rw [if_pos hn]; simp [hn]
  · rw [if_neg hn]
    have hl : lastS s ∈ spotsL s := by rw [lastS_eq]; exact spotAt_mem s _
    rcases findL_errs u loc (spotsL s) with h | ⟨h, q, hq, hlt⟩ | ⟨h, hall⟩
    · have := findL_ok u loc h
      have := last_most s u this.1
      constructor
      · intro e; omega
      · intro e; omega
    · have := last_most s u hq
      rw [h]
      simp
      omega
    · have := hall _ hl
      rw [h]
      simp
      omega

set_option maxRecDepth 100000 in
set_option maxHeartbeats 400000 in
theorem cut_no (s : ByteArray) (u fr to : Int) (h : ¬ (u = 1 ∨ u = 2 ∨ u = 3)) (w : World) :
    Calls Tryd.prog 28 #[.string s, .int .i64 u, .int .i64 fr, .int .i64 to] w fun e w' => e = .returned (.tuple #[.string ByteArray.empty, .int .i64 5]) ∧ Below w.heap.size w w' := by
  go_enter Tryd.func28, Tryd.ntmps28
  go_wp2_with fail
  refine (isUnit_no u _ h).mono ?_
  rintro e w' ⟨rfl, rfl⟩
  go_wp2
  go_ret2
  exact ⟨rfl, Below.refl _ _⟩

set_option maxRecDepth 100000 in
set_option maxHeartbeats 1000000 in
theorem cut_bad (s : ByteArray) (hs : s.size ≤ 140737488355328) (u fr to : Int) (hu : u = 1 ∨ u = 2 ∨ u = 3) (p q : Spot) (e f r : Int) (hp : findS s u fr = (p, e)) (hq : findS s u to = (q, f))
    (h : (r = 1 ∧ (e = 1 ∨ (e = 0 ∧ f = 1) ∨ (e = 21 ∧ f = 1) ∨ (e = 0 ∧ f = 0 ∧ to < fr) ∨ (e = 0 ∧ f = 21 ∧ to < fr) ∨ (e = 21 ∧ f = 0 ∧ to < fr) ∨ (e = 21 ∧ f = 21 ∧ to < fr))) ∨ (r = 21 ∧ ¬ to < fr ∧ ((e = 21 ∧ f = 0) ∨ (e = 21 ∧ f = 21) ∨ (e = 0 ∧ f = 21)))) (w : World) :
    Calls Tryd.prog 28 #[.string s, .int .i64 u, .int .i64 fr, .int .i64 to] w fun e w' => e = .returned (.tuple #[.string ByteArray.empty, .int .i64 r]) ∧ Below w.heap.size w w' := by
  have HP := hideO (fun W => find_any s hs u fr hu W)
  have HQ := hideO (fun W => find_any s hs u to hu W)
  rw [hp] at HP
  rw [hq] at HQ
  clear hp hq
  simp only [Spot.val] at HP HQ
  rcases h with ⟨rfl, h⟩ | ⟨rfl, hto, h⟩
  · rcases h with rfl | ⟨rfl, rfl⟩ | ⟨rfl, rfl⟩ | ⟨rfl, rfl, hto⟩ | ⟨rfl, rfl, hto⟩ | ⟨rfl, rfl, hto⟩ | ⟨rfl, rfl, hto⟩
    all_goals
      go_enter Tryd.func28, Tryd.ntmps28
      go_wp2_with fail
      refine (isUnit_yes u _ hu).mono ?_
      rintro e w' ⟨rfl, rfl⟩
      go_wp2_with fail
      refine (HP.out _).mono ?_
      rintro e w1 ⟨rfl, b1⟩
      have s1 := b1.size
      go_wp2_with fail
      refine (HQ.out _).mono ?_
      rintro e w2 ⟨rfl, b2⟩
      go_wp2
      go_ret2
      refine ⟨rfl, ?_⟩
      first
        | exact ((b1.alloc s1 _).trans (b2.mono (by simp; omega))).alloc (by have := b2.size; simp at this; omega) _
        | exact ((b1.trans (b2.mono s1)).alloc (by have := b2.size; omega) _)
        | exact ((b1.trans (b2.mono s1)).alloc (by have := b2.size; omega) _).alloc (by have := b2.size; simp; omega) _
  · rcases h with ⟨rfl, rfl⟩ | ⟨rfl, rfl⟩ | ⟨rfl, rfl⟩
    all_goals
      go_enter Tryd.func28, Tryd.ntmps28
      go_wp2_with fail
      refine (isUnit_yes u _ hu).mono ?_
      rintro e w' ⟨rfl, rfl⟩
      go_wp2_with fail
      refine (HP.out _).mono ?_
      rintro e w1 ⟨rfl, b1⟩
      have s1 := b1.size
      go_wp2_with fail
      refine (HQ.out _).mono ?_
      rintro e w2 ⟨rfl, b2⟩
      go_wp2
      go_ret2
      refine ⟨rfl, ?_⟩
      first
        | exact ((b1.alloc s1 _).trans (b2.mono (by simp; omega))).alloc (by have := b2.size; simp at this; omega) _
        | exact ((b1.trans (b2.mono s1)).alloc (by have := b2.size; omega) _)
        | exact ((b1.trans (b2.mono s1)).alloc (by have := b2.size; omega) _).alloc (by have := b2.size; simp; omega) _

set_option maxRecDepth 100000 in
set_option maxHeartbeats 1000000 in
theorem cut_ok (s : ByteArray) (hs : s.size ≤ 140737488355328) (u fr to : Int) (hu : u = 1 ∨ u = 2 ∨ u = 3) (pb pc pd qb qc qd : Int) (A B : Nat) (hp : findS s u fr = (⟨pb, pc, pd⟩, 0)) (hq : findS s u to = (⟨qb, qc, qd⟩, 0)) (hA : pb = A) (hB : qb = B) (hAB : A ≤ B) (hBs : B ≤ s.size)
    (hto : ¬ to < fr) (w : World) :
    Calls Tryd.prog 28 #[.string s, .int .i64 u, .int .i64 fr, .int .i64 to] w fun e w' => e = .returned (.tuple #[.string (s.extract A B), .int .i64 0]) ∧ Below w.heap.size w w' := by
  subst hA hB
  have HP := hideO (fun W => find_any s hs u fr hu W)
  have HQ := hideO (fun W => find_any s hs u to hu W)
  rw [hp] at HP
  rw [hq] at HQ
  clear hp hq
  simp only [Spot.val] at HP HQ
  have hsz : (s.extract A B).size ≤ 140737488355328 := by rw [ByteArray.size_extract]; omega
  have HCl := hideO (fun W => clone_any (s.extract A B) W hsz)
  clear hsz
  go_enter Tryd.func28, Tryd.ntmps28
  go_wp2_with fail
  refine (isUnit_yes u _ hu).mono ?_
  rintro e w' ⟨rfl, rfl⟩
  go_wp2_with fail
  refine (HP.out _).mono ?_
  rintro e w1 ⟨rfl, b1⟩
  have s1 := b1.size
  go_wp2_with fail
  refine (HQ.out _).mono ?_
  rintro e w2 ⟨rfl, b2⟩
  have s2 := b2.size
  rw [World.size_alloc] at s2
  have c1 : w2.cell? ⟨w1.heap.size, 1, none⟩ = some (.int .i64 A) := (b2.cell (p := ⟨w1.heap.size, 1, none⟩) (by simp)).trans (by simp)
  have b12 := ((b1.alloc s1 (.cells #[.int .i64 0, .int .i64 A, .int .i64 pc, .int .i64 pd] 83)).trans (b2.mono (by simp; omega))).alloc (by omega) (.cells #[.int .i64 0, .int .i64 B, .int .i64 qc, .int .i64 qd] 83)
  have c2 := (Below.heap_alloc w2 (.cells #[.int .i64 0, .int .i64 B, .int .i64 qc, .int .i64 qd] 83) w1.heap.size (by omega))
  have c3 : (w2.alloc (.cells #[.int .i64 0, .int .i64 B, .int .i64 qc, .int .i64 qd] 83)).cell? ⟨w1.heap.size, 1, none⟩ = some (.int .i64 A) := (World.cell?_of_block c2).trans c1
  clear c2
  have hl1 : (A : Int) ≤ (B : Int) := by omega
  have hl2 : (B : Int) ≤ (s.size : Int) := by omega
  go_wp2_with fail
  refine (HCl.out _).mono ?_
  rintro e w3 ⟨rfl, b3⟩
  go_wp2
  go_ret2
  exact ⟨rfl, b12.trans (b3.mono (by simp; omega))⟩

theorem cut_any (s : ByteArray) (hs : s.size ≤ 140737488355328) (u fr to : Int) (hu : u = 1 ∨ u = 2 ∨ u = 3) (w : World) :
    Calls Tryd.prog 28 #[.string s, .int .i64 u, .int .i64 fr, .int .i64 to] w fun e w' => e = .returned (.tuple #[.string (cutF s u fr to).1, .int .i64 (cutF s u fr to).2]) ∧ Below w.heap.size w w' := by
  have h1 := findS_err s u fr
  have h2 := findS_err s u to
  unfold cutF
  by_cases c1 : (findS s u fr).2 = 1 ∨ (findS s u to).2 = 1 ∨ to < fr
  · rw [if_pos c1]
    exact cut_bad s hs u fr to hu (findS s u fr).1 (findS s u to).1 (findS s u fr).2 (findS s u to).2 1 rfl rfl (.inl ⟨rfl, by omega⟩) w
  · rw [if_neg c1]
    by_cases c2 : (findS s u fr).2 ≠ 0 ∨ (findS s u to).2 ≠ 0
    · rw [if_pos c2]
      exact cut_bad s hs u fr to hu (findS s u fr).1 (findS s u to).1 (findS s u fr).2 (findS s u to).2 21 rfl rfl (.inr ⟨rfl, by omega, by omega⟩) w
    · rw [if_neg c2]
      have e1 : (findS s u fr).2 = 0 := by omega
      have e2 : (findS s u to).2 = 0 := by omega
      obtain ⟨m1, g1⟩ := findS_ok e1
      obtain ⟨m2, g2⟩ := findS_ok e2
      have k1 := spot_b m1
      have k2 := spot_b m2
      have k3 := spot_le m1 m2 u 1 (by omega)
      rw [show ∀ q : Spot, q.get 1 = q.b from fun _ => rfl, show ∀ q : Spot, q.get 1 = q.b from fun _ => rfl] at k3
      exact cut_ok s hs u fr to hu (findS s u fr).1.b (findS s u fr).1.c (findS s u fr).1.d (findS s u to).1.b (findS s u to).1.c (findS s u to).1.d (findS s u fr).1.b.toNat (findS s u to).1.b.toNat (Prod.ext rfl e1) (Prod.ext rfl e2) (by omega) (by omega) (by omega) (by omega) (by omega) w

set_option maxRecDepth 100000 in
set_option maxHeartbeats 400000 in
theorem rall_any (s : ByteArray) (hs : s.size ≤ 1048576) (u : Int) (hu : u = 1 ∨ u = 2 ∨ u = 3) (w : World) :
    Calls Tryd.prog 61 #[.string s, .int .i64 u] w fun e w' => e = .returned (.int .i64 ((lastS s).get u)) ∧ Below w.heap.size w w' := by
  rcases hu with rfl | rfl | rfl
  · rw [show (lastS s).get 1 = (lastS s).b from rfl, lastS_b]
    go_enter Tryd.func61, Tryd.ntmps61
    go_wp2
    go_ret
    exact ⟨rfl, Below.refl _ _⟩
  · rw [show (lastS s).get 2 = (lastS s).c from rfl, lastS_c]
    go_enter Tryd.func61, Tryd.ntmps61
    go_wp2_with fail
    refine (rcount_any s hs _).mono ?_
    rintro e w1 ⟨rfl, b1⟩
    go_wp2
    go_ret
    exact ⟨rfl, b1⟩
  · rw [show (lastS s).get 3 = (lastS s).d from rfl, lastS_d]
    go_enter Tryd.func61, Tryd.ntmps61
    go_wp2_with fail
    refine (rpairs_any s hs _).mono ?_
    rintro e w1 ⟨rfl, b1⟩
    go_wp2
    go_ret
    exact ⟨rfl, b1⟩

set_option maxRecDepth 100000 in
set_option maxHeartbeats 400000 in
theorem rcut_no (s : ByteArray) (u fr to : Int) (h : ¬ (u = 1 ∨ u = 2 ∨ u = 3)) (w : World) :
    Calls Tryd.prog 29 #[.string s, .int .i64 u, .int .i64 fr, .int .i64 to] w fun e w' => e = .returned (.tuple #[.string ByteArray.empty, .int .i64 5]) ∧ Below w.heap.size w w' := by
  go_enter Tryd.func29, Tryd.ntmps29
  go_wp2_with fail
  refine (runit_no u _ h).mono ?_
  rintro e w' ⟨rfl, rfl⟩
  go_wp2
  go_ret2
  exact ⟨rfl, Below.refl _ _⟩

set_option maxRecDepth 100000 in
set_option maxHeartbeats 1000000 in
theorem rcut_arg (s : ByteArray) (hs : s.size ≤ 1048576) (u fr to : Int) (hu : u = 1 ∨ u = 2 ∨ u = 3) (h : fr < 0 ∨ (lastS s).get u < fr ∨ to < 0 ∨ (lastS s).get u < to ∨ to < fr) (w : World) :
    Calls Tryd.prog 29 #[.string s, .int .i64 u, .int .i64 fr, .int .i64 to] w fun e w' => e = .returned (.tuple #[.string ByteArray.empty, .int .i64 1]) ∧ Below w.heap.size w w' := by
  have HA := hideO (fun W => rall_any s hs u hu W)
  generalize (lastS s).get u = n at *
  rcases (show fr < 0 ∨ (0 ≤ fr ∧ n < fr) ∨ (0 ≤ fr ∧ fr ≤ n ∧ to < 0) ∨ (0 ≤ fr ∧ fr ≤ n ∧ 0 ≤ to ∧ n < to) ∨ (0 ≤ fr ∧ fr ≤ n ∧ 0 ≤ to ∧ to ≤ n ∧ to < fr) by omega) with h0 | ⟨h1, h2⟩ | ⟨h1, h2, h3⟩ | ⟨h1, h2, h3, h4⟩ | ⟨h1, h2, h3, h4, h5⟩
  all_goals
    clear h
    go_enter Tryd.func29, Tryd.ntmps29
    go_wp2_with fail
    refine (runit_yes u _ hu).mono ?_
    rintro e w' ⟨rfl, rfl⟩
    go_wp2_with fail
    refine (HA.out _).mono ?_
    rintro e w1 ⟨rfl, b1⟩
    go_wp2
    go_ret2
    exact ⟨rfl, b1⟩

set_option maxRecDepth 100000 in
set_option maxHeartbeats 1000000 in
theorem rcut_in (s : ByteArray) (hs : s.size ≤ 1048576) (u fr to n a b e f : Int) (hu : u = 1 ∨ u = 2 ∨ u = 3) (hn : (lastS s).get u = n) (h1 : 0 ≤ fr) (h2 : fr ≤ n) (h3 : 0 ≤ to) (h4 : to ≤ n) (h5 : fr ≤ to)
    (ha : (findS s u fr).1.get 1 = a) (he : (findS s u fr).2 = e) (hb : (findS s u to).1.get 1 = b) (hf : (findS s u to).2 = f) (h : e = 21 ∨ (e = 0 ∧ f = 21)) (w : World) :
    Calls Tryd.prog 29 #[.string s, .int .i64 u, .int .i64 fr, .int .i64 to] w fun e w' => e = .returned (.tuple #[.string ByteArray.empty, .int .i64 21]) ∧ Below w.heap.size w w' := by
  have HA := hideO (fun W => rall_any s hs u hu W)
  have HP := hideO (fun W => rplace_any s hs fr u 1 hu (.inl rfl) W)
  have HQ := hideO (fun W => rplace_any s hs to u 1 hu (.inl rfl) W)
  rw [ha, he] at HP
  rw [hb, hf] at HQ
  rw [hn] at HA
  clear ha he hb hf hn
  rcases h with rfl | ⟨rfl, rfl⟩
  · go_enter Tryd.func29, Tryd.ntmps29
    go_wp2_with fail
    refine (runit_yes u _ hu).mono ?_
    rintro e w' ⟨rfl, rfl⟩
    go_wp2_with fail
    refine (HA.out _).mono ?_
    rintro e w1 ⟨rfl, b1⟩
    have s1 := b1.size
    go_wp2_with fail
    refine (HP.out _).mono ?_
    rintro e w2 ⟨rfl, b2⟩
    go_wp2
    go_ret2
    exact ⟨rfl, b1.trans (b2.mono s1)⟩
  · go_enter Tryd.func29, Tryd.ntmps29
    go_wp2_with fail
    refine (runit_yes u _ hu).mono ?_
    rintro e w' ⟨rfl, rfl⟩
    go_wp2_with fail
    refine (HA.out _).mono ?_
    rintro e w1 ⟨rfl, b1⟩
    have s1 := b1.size
    go_wp2_with fail
    refine (HP.out _).mono ?_
    rintro e w2 ⟨rfl, b2⟩
    have s2 := b2.size
    go_wp2_with fail
    refine (HQ.out _).mono ?_
    rintro e w3 ⟨rfl, b3⟩
    go_wp2
    go_ret2
    exact ⟨rfl, (b1.trans (b2.mono s1)).trans (b3.mono (by omega))⟩

set_option maxRecDepth 100000 in
set_option maxHeartbeats 1000000 in
theorem rcut_ok (s : ByteArray) (hs : s.size ≤ 1048576) (u fr to n : Int) (A B : Nat) (hu : u = 1 ∨ u = 2 ∨ u = 3) (hn : (lastS s).get u = n) (h1 : 0 ≤ fr) (h2 : fr ≤ n) (h3 : 0 ≤ to) (h4 : to ≤ n) (h5 : fr ≤ to)
    (ha : (findS s u fr).1.get 1 = A) (he : (findS s u fr).2 = 0) (hb : (findS s u to).1.get 1 = B) (hf : (findS s u to).2 = 0) (hAB : A ≤ B) (hBs : B ≤ s.size) (w : World) :
    Calls Tryd.prog 29 #[.string s, .int .i64 u, .int .i64 fr, .int .i64 to] w fun e w' => e = .returned (.tuple #[.string (s.extract A B), .int .i64 0]) ∧ Below w.heap.size w w' := by
  have HA := hideO (fun W => rall_any s hs u hu W)
  have HP := hideO (fun W => rplace_any s hs fr u 1 hu (.inl rfl) W)
  have HQ := hideO (fun W => rplace_any s hs to u 1 hu (.inl rfl) W)
  rw [ha, he] at HP
  rw [hb, hf] at HQ
  rw [hn] at HA
  clear ha he hb hf hn
  go_enter Tryd.func29, Tryd.ntmps29
  go_wp2_with fail
  refine (runit_yes u _ hu).mono ?_
  rintro e w' ⟨rfl, rfl⟩
  go_wp2_with fail
  refine (HA.out _).mono ?_
  rintro e w1 ⟨rfl, b1⟩
  have s1 := b1.size
  go_wp2_with fail
  refine (HP.out _).mono ?_
  rintro e w2 ⟨rfl, b2⟩
  have s2 := b2.size
  go_wp2_with fail
  refine (HQ.out _).mono ?_
  rintro e w3 ⟨rfl, b3⟩
  go_wp2
  go_ret2
  exact ⟨rfl, (b1.trans (b2.mono s1)).trans (b3.mono (by omega))⟩

theorem rcut_any (s : ByteArray) (hs : s.size ≤ 1048576) (u fr to : Int) (hu : u = 1 ∨ u = 2 ∨ u = 3) (w : World) :
    Calls Tryd.prog 29 #[.string s, .int .i64 u, .int .i64 fr, .int .i64 to] w fun e w' => e = .returned (.tuple #[.string (cutF s u fr to).1, .int .i64 (cutF s u fr to).2]) ∧ Below w.heap.size w w' := by
  have h1 := findS_err s u fr
  have h2 := findS_err s u to
  have g1 := findS_arg s u fr
  have g2 := findS_arg s u to
  unfold cutF
  by_cases c1 : (findS s u fr).2 = 1 ∨ (findS s u to).2 = 1 ∨ to < fr
  · rw [if_pos c1]
    exact rcut_arg s hs u fr to hu (by omega) w
  · rw [if_neg c1]
    have n1 : ¬ (fr < 0 ∨ (lastS s).get u < fr) := fun e => c1 (.inl (g1.2 e))
    have n2 : ¬ (to < 0 ∨ (lastS s).get u < to) := fun e => c1 (.inr (.inl (g2.2 e)))
    by_cases c2 : (findS s u fr).2 ≠ 0 ∨ (findS s u to).2 ≠ 0
    · rw [if_pos c2]
      exact rcut_in s hs u fr to ((lastS s).get u) ((findS s u fr).1.get 1) ((findS s u to).1.get 1) (findS s u fr).2 (findS s u to).2 hu rfl (by omega) (by omega) (by omega) (by omega) (by omega) rfl rfl rfl rfl (by omega) w
    · rw [if_neg c2]
      have e1 : (findS s u fr).2 = 0 := by omega
      have e2 : (findS s u to).2 = 0 := by omega
      obtain ⟨m1, g1⟩ := findS_ok e1
      obtain ⟨m2, g2⟩ := findS_ok e2
      have k1 := spot_b m1
      have k2 := spot_b m2
      have k3 := spot_le m1 m2 u 1 (by omega)
      have q1 : (findS s u fr).1.get 1 = (findS s u fr).1.b := rfl
      have q2 : (findS s u to).1.get 1 = (findS s u to).1.b := rfl
      exact rcut_ok s hs u fr to ((lastS s).get u) (findS s u fr).1.b.toNat (findS s u to).1.b.toNat hu rfl (by omega) (by omega) (by omega) (by omega) (by omega) (by omega) e1 (by omega) e2 (by omega) (by omega) w

theorem cutF_err (s : ByteArray) (u fr to : Int) : (cutF s u fr to).2 = 0 ∨ (cutF s u fr to).2 = 1 ∨ (cutF s u fr to).2 = 5 ∨ (cutF s u fr to).2 = 21 := by
  unfold cutF
  split
  · simp
  · split <;> simp

/-- Both told the same: the statement's answer. -/
theorem cuts_of (s : ByteArray) (u fr to : Int) (p : ByteArray) (e : Int) (he : e = 0 ∨ e = 1 ∨ e = 5 ∨ e = 21) (w : World) (hw : 2 ≤ w.heap.size) (hT : Lib.Utf8Tabs 0 1 w)
    (HP : Hid (∀ W, Calls Tryd.prog 28 #[.string s, .int .i64 u, .int .i64 fr, .int .i64 to] W fun r w' => r = .returned (.tuple #[.string p, .int .i64 e]) ∧ Below W.heap.size W w'))
    (HR : Hid (∀ W, Calls Tryd.prog 29 #[.string s, .int .i64 u, .int .i64 fr, .int .i64 to] W fun r w' => r = .returned (.tuple #[.string p, .int .i64 e]) ∧ Below W.heap.size W w')) :
    Calls Tryd.prog 5 #[.string s, .int .i64 u, .int .i64 fr, .int .i64 to] w fun e w' => e = .returned (.bool true) ∧ Below w.heap.size w w' := by
  rcases he with rfl | rfl | rfl | rfl
  all_goals
    go_enter Tryd.func5, Tryd.ntmps5
    go_wp2_with fail
    refine (HP.out _).mono ?_
    rintro r w1 ⟨rfl, b1⟩
    go_wp2_with fail
    refine (HR.out _).mono ?_
    rintro r w2 ⟨rfl, b2⟩
    have s1 := b1.size
    have s2 := b2.size
    have b12 := b1.trans (b2.mono s1)
    go_wp2_with fail
    refine (head_any _ (by omega) (tabs_below hw hT b12)).mono ?_
    rintro r w3 ⟨rfl, b3⟩
    go_wp2
    go_ret
    exact ⟨rfl, b12.trans (b3.mono (by omega))⟩

theorem lawCuts1_any (s : ByteArray) (hs : s.size ≤ 1048576) (u : Int) (_ : -9223372036854775808 ≤ u) (_ : u ≤ 9223372036854775807) (fr : Int) (_ : -9223372036854775808 ≤ fr) (_ : fr ≤ 9223372036854775807) (to : Int) (_ : -9223372036854775808 ≤ to) (_ : to ≤ 9223372036854775807) (w : World) (hw : 2 ≤ w.heap.size) (hT : Lib.Utf8Tabs 0 1 w) :
    Calls Tryd.prog 5 #[.string s, .int .i64 u, .int .i64 fr, .int .i64 to] w fun e w' => e = .returned (.bool true) ∧ Below w.heap.size w w' := by
  by_cases h : u = 1 ∨ u = 2 ∨ u = 3
  · exact cuts_of s u fr to _ _ (cutF_err s u fr to) w hw hT (fun W => cut_any s (by omega) u fr to h W) (fun W => rcut_any s hs u fr to h W)
  · exact cuts_of s u fr to ByteArray.empty 5 (by simp) w hw hT (fun W => cut_no s u fr to h W) (fun W => rcut_no s u fr to h W)
end Go.Proofs.YtofhmecbcmahaaaDoor
