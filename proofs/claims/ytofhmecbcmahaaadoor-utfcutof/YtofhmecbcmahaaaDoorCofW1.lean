/- The walk of UtfCutOf: a cut of a cut is a cut; the parts do not melt, and are the text. -/
import Derived.Test.YtofhmecbcmahaaaDoorCofM
import Derived.Test.YtofhmecbcmahaaaDoorSizW1
namespace Go.Proofs.YtofhmecbcmahaaaDoor
open Go.RowKit

set_option maxRecDepth 100000 in
set_option maxHeartbeats 4000000 in
theorem cutof_walk (s : ByteArray) (hs : s.size ≤ 140737488355328) (z a b c d : Int) (y U n A B C D f : Int) (bb dd : Int) (p q F R : ByteArray) (e : Int) (hy : z % 3 = y) (hU : 1 + y = U) (hu : U = 1 ∨ U = 2 ∨ U = 3)
    (hn : (lastS s).get U = n) (hn0 : 0 ≤ n) (hn1 : n ≤ 562949953421312) (hA : a % (n + 1) = A) (hA0 : 0 ≤ A) (hAn : A ≤ n) (hbb : b % (n - A + 1) = bb) (hbb0 : 0 ≤ bb) (hB : A + bb = B) (hBn : B ≤ n)
    (HC : Hid (∀ W, Calls Tryd.prog 28 #[.string s, .int .i64 U, .int .i64 A, .int .i64 B] W fun r w' => r = .returned (.tuple #[.string p, .int .i64 e]) ∧ Below W.heap.size W w'))
    (hcase : (e = 21 ∧ p = ByteArray.empty ∧ U ≠ 2) ∨ (e = 0 ∧ (f = 0 ∨ f = 21) ∧ c % (B - A + 1) = C ∧ 0 ≤ C ∧ C ≤ B - A ∧ d % (B - A - C + 1) = dd ∧ 0 ≤ dd ∧ C + dd = D ∧ D ≤ B - A ∧
      Hid (∀ W, Calls Tryd.prog 28 #[.string p, .int .i64 U, .int .i64 C, .int .i64 D] W fun r w' => r = .returned (.tuple #[.string q, .int .i64 f]) ∧ Below W.heap.size W w') ∧
      Hid (∀ W, Calls Tryd.prog 28 #[.string s, .int .i64 U, .int .i64 (A + C), .int .i64 (A + D)] W fun r w' => r = .returned (.tuple #[.string q, .int .i64 f]) ∧ Below W.heap.size W w') ∧
      Hid (∀ W, Calls Tryd.prog 49 #[.string p, .int .i64 U] W fun r w' => r = .returned (.int .i64 (B - A)) ∧ Below W.heap.size W w') ∧
      Hid (∀ W, Calls Tryd.prog 28 #[.string s, .int .i64 U, .int .i64 0, .int .i64 A] W fun r w' => r = .returned (.tuple #[.string F, .int .i64 0]) ∧ Below W.heap.size W w') ∧
      Hid (∀ W, Calls Tryd.prog 28 #[.string s, .int .i64 U, .int .i64 B, .int .i64 n] W fun r w' => r = .returned (.tuple #[.string R, .int .i64 0]) ∧ Below W.heap.size W w') ∧
      F.size + p.size + R.size ≤ 140737488355328 ∧ ((F ++ p ++ R).toList == s.toList) = true ∧
      Hid (∀ W, 2 ≤ W.heap.size → Lib.Utf8Tabs 0 1 W → Calls Tryd.prog 40 #[.string F, .string (p ++ R)] W fun r w' => r = .returned (.bool false) ∧ Below W.heap.size W w') ∧
      Hid (∀ W, 2 ≤ W.heap.size → Lib.Utf8Tabs 0 1 W → Calls Tryd.prog 40 #[.string (F ++ p), .string R] W fun r w' => r = .returned (.bool false) ∧ Below W.heap.size W w')))
    (w : World) (hw : 2 ≤ w.heap.size) (hT : Lib.Utf8Tabs 0 1 w) :
    Calls Tryd.prog 12 #[.string s, .int .i64 z, .int .i64 a, .int .i64 b, .int .i64 c, .int .i64 d] w fun r w' => r = .returned (.bool true) ∧ Below w.heap.size w w' := by
  have HS1 := hideO (fun W => size1_any s hs U hu W)
  rw [hn] at HS1
  have HW1 := hideO (fun W => within1_any z 3 (by omega) W)
  have HW2 := hideO (fun W => within1_any a (n + 1) (by omega) W)
  have HW3 := hideO (fun W => within1_any b (n - A + 1) (by omega) W)
  rw [hy] at HW1
  rw [hA] at HW2
  rw [hbb] at HW3
  clear hn hA hbb hy
  rcases hcase with ⟨rfl, rfl, hU2⟩ | ⟨rfl, hf, hC, hC0, hC1, hdd, hdd0, hD, hD1, H1, H2, H3, H4, H5, hsz, teq, H6, H7⟩
  · have hne : (U != 2) = true := by rw [bne_iff_ne]; exact hU2
    go_enter Tryd.func12, Tryd.ntmps12
    go_wp2_with fail
    refine (HW1.out _).mono ?_
    rintro r w' ⟨rfl, rfl⟩
    go_wp2_with fail
    refine (HS1.out _).mono ?_
    rintro r w1 ⟨rfl, b1⟩
    have s1 := b1.size
    go_wp2_with fail
    refine (HW2.out _).mono ?_
    rintro r w1' ⟨rfl, rfl⟩
    go_wp2_with fail
    refine (HW3.out _).mono ?_
    rintro r w1' ⟨rfl, rfl⟩
    go_wp2_with fail
    refine (HC.out _).mono ?_
    rintro r w2 ⟨rfl, b2⟩
    have s2 := b2.size
    have b12 := b1.trans (b2.mono s1)
    go_wp2_with fail
    refine (head_any _ (by omega) (tabs_below hw hT b12)).mono ?_
    rintro r x9 ⟨rfl, d9⟩
    go_wp2
    go_ret
    exact ⟨rfl, b12.trans (d9.mono (by omega))⟩
  · have HW4 := hideO (fun W => within1_any c (B - A + 1) (by omega) W)
    have HW5 := hideO (fun W => within1_any d (B - A - C + 1) (by omega) W)
    rw [hC] at HW4
    rw [hdd] at HW5
    have t1 : ¬ 9223372036854775807 < F.size + p.size := by omega
    have t2 : ¬ 9223372036854775807 < (F ++ p).size + R.size := by rw [ByteArray.size_append]; omega
    have t3 : ¬ 9223372036854775807 < p.size + R.size := by omega
    clear hC hdd
    rcases hf with rfl | rfl
    all_goals
      go_enter Tryd.func12, Tryd.ntmps12
      go_wp2_with fail
      refine (HW1.out _).mono ?_
      rintro r w' ⟨rfl, rfl⟩
      go_wp2_with fail
      refine (HS1.out _).mono ?_
      rintro r w1 ⟨rfl, b1⟩
      have s1 := b1.size
      go_wp2_with fail
      refine (HW2.out _).mono ?_
      rintro r w1' ⟨rfl, rfl⟩
      go_wp2_with fail
      refine (HW3.out _).mono ?_
      rintro r w1' ⟨rfl, rfl⟩
      go_wp2_with fail
      refine (HC.out _).mono ?_
      rintro r w2 ⟨rfl, b2⟩
      have s2 := b2.size
      have b12 := b1.trans (b2.mono s1)
      go_wp2_with fail
      refine (HW4.out _).mono ?_
      rintro r w2' ⟨rfl, rfl⟩
      go_wp2_with fail
      refine (HW5.out _).mono ?_
      rintro r w2' ⟨rfl, rfl⟩
      go_wp2_with fail
      refine (H1.out _).mono ?_
      rintro r w3 ⟨rfl, b3⟩
      have s3 := b3.size
      have b13 := b12.trans (b3.mono (by omega))
      go_wp2_with fail
      refine (H2.out _).mono ?_
      rintro r w4 ⟨rfl, b4⟩
      have s4 := b4.size
      have b14 := b13.trans (b4.mono (by omega))
      go_wp2_with fail
      refine (H3.out _).mono ?_
      rintro r w5 ⟨rfl, b5⟩
      have s5 := b5.size
      have b15 := b14.trans (b5.mono (by omega))
      go_wp2_with fail
      refine (H4.out _).mono ?_
      rintro r w6 ⟨rfl, b6⟩
      have s6 := b6.size
      have b16 := b15.trans (b6.mono (by omega))
      go_wp2_with fail
      refine (H5.out _).mono ?_
      rintro r w7 ⟨rfl, b7⟩
      have s7 := b7.size
      have b17 := b16.trans (b7.mono (by omega))
      go_wp2_with fail
      refine (H6.out _ (by omega) (tabs_below hw hT b17)).mono ?_
      rintro r w8 ⟨rfl, b8⟩
      have s8 := b8.size
      have b18 := b17.trans (b8.mono (by omega))
      go_wp2_with fail
      refine (H7.out _ (by omega) (tabs_below hw hT b18)).mono ?_
      rintro r w9 ⟨rfl, b9⟩
      have s9 := b9.size
      have b19 := b18.trans (b9.mono (by omega))
      go_wp2_with fail
      refine (head_any _ (by omega) (tabs_below hw hT b19)).mono ?_
      rintro r x9 ⟨rfl, d9⟩
      go_wp2
      go_ret
      exact ⟨rfl, b19.trans (d9.mono (by omega))⟩

theorem lawCutOf1_any (s : ByteArray) (hs : s.size ≤ 140737488355328) (z : Int) (_ : -9223372036854775808 ≤ z) (_ : z ≤ 9223372036854775807) (a : Int) (_ : -9223372036854775808 ≤ a) (_ : a ≤ 9223372036854775807) (b : Int) (_ : -9223372036854775808 ≤ b) (_ : b ≤ 9223372036854775807) (c : Int) (_ : -9223372036854775808 ≤ c) (_ : c ≤ 9223372036854775807) (d : Int) (_ : -9223372036854775808 ≤ d) (_ : d ≤ 9223372036854775807) (w : World) (hw : 2 ≤ w.heap.size) (hT : Lib.Utf8Tabs 0 1 w) :
    Calls Tryd.prog 12 #[.string s, .int .i64 z, .int .i64 a, .int .i64 b, .int .i64 c, .int .i64 d] w fun r w' => r = .returned (.bool true) ∧ Below w.heap.size w w' := by
  obtain ⟨U, hU⟩ : ∃ U, 1 + z % 3 = U := ⟨_, rfl⟩
  have hu : U = 1 ∨ U = 2 ∨ U = 3 := by omega
  have bU := spotAt_bd s (signs s).length U
  rw [← lastS_eq] at bU
  obtain ⟨n, hn⟩ : ∃ n, (lastS s).get U = n := ⟨_, rfl⟩
  rw [hn] at bU
  obtain ⟨A, hA⟩ : ∃ A, a % (n + 1) = A := ⟨_, rfl⟩
  have hA0 : 0 ≤ A := by rw [← hA]; exact Int.emod_nonneg _ (by omega)
  have hAn : A ≤ n := by have := Int.emod_lt_of_pos a (show 0 < n + 1 by omega); omega
  obtain ⟨bb, hbb⟩ : ∃ x, b % (n - A + 1) = x := ⟨_, rfl⟩
  have hbb0 : 0 ≤ bb := by rw [← hbb]; exact Int.emod_nonneg _ (by omega)
  have hbb1 : bb ≤ n - A := by have := Int.emod_lt_of_pos b (show 0 < n - A + 1 by omega); omega
  have CT : ∀ (t : ByteArray), t.size ≤ 140737488355328 → ∀ x y W, Calls Tryd.prog 28 #[.string t, .int .i64 U, .int .i64 x, .int .i64 y] W fun r w' => r = .returned (.tuple #[.string (cutF t U x y).1, .int .i64 (cutF t U x y).2]) ∧ Below W.heap.size W w' := fun t ht x y W => cut_any t ht U x y hu W
  rcases cut_range (s := s) (u := U) (a := A) (b := A + bb) hu hA0 (by omega) (by omega) with ⟨e, hU2⟩ | ⟨P, Q, i, j, p, q, hp, hP, hQ, e⟩
  · refine cutof_walk s hs z a b c d _ U n A (A + bb) 0 0 0 bb 0 ByteArray.empty ByteArray.empty ByteArray.empty ByteArray.empty 21 rfl hU hu hn bU.1 (by omega) hA hA0 hAn hbb hbb0 rfl (by omega) (fun W => ?_) (.inl ⟨rfl, rfl, hU2⟩) w hw hT
    have := CT s hs A (A + bb) W
    rwa [e] at this
  · obtain ⟨p1, p2, p3, p4⟩ := hp.part
    have hsp : (s.extract p q).size ≤ 140737488355328 := by rw [ByteArray.size_extract]; omega
    obtain ⟨C, hC⟩ : ∃ C, c % (A + bb - A + 1) = C := ⟨_, rfl⟩
    have hC0 : 0 ≤ C := by rw [← hC]; exact Int.emod_nonneg _ (by omega)
    have hC1 : C ≤ A + bb - A := by have := Int.emod_lt_of_pos c (show 0 < A + bb - A + 1 by omega); omega
    obtain ⟨dd, hdd⟩ : ∃ x, d % (A + bb - A - C + 1) = x := ⟨_, rfl⟩
    have hdd0 : 0 ≤ dd := by rw [← hdd]; exact Int.emod_nonneg _ (by omega)
    have hdd1 : dd ≤ A + bb - A - C := by have := Int.emod_lt_of_pos d (show 0 < A + bb - A - C + 1 by omega); omega
    have hcut := hp.cut hu C (C + dd) hC0 (by omega) (by omega)
    rw [hP] at hcut
    obtain ⟨f1, f2⟩ := hp.front hu
    rw [hP] at f1
    rw [hQ, hn] at f2
    have hPm : P ∈ spotsL s := by rw [hp.hi]; exact spotAt_mem s i
    have hQm : Q ∈ spotsL s := by rw [hp.hj]; exact spotAt_mem s j
    have m1 := seam_no hPm p hp.hA
    have m2 := seam_no hQm q hp.hB
    have x1 : s.extract 0 p ++ s.extract p q = s.extract 0 q := ext_two s p q p1 p2
    have x2 : s.extract p q ++ s.extract q s.size = s.extract p s.size := ext_rest s p q p1 p2
    have x3 : s.extract 0 q ++ s.extract q s.size = s := by rw [ext_two s q s.size p2 (Nat.le_refl _), ext_all]
    have ML : ∀ X Y : ByteArray, X.size ≤ 140737488355328 → Y.size ≤ 140737488355328 → meltsB X Y = false → ∀ W, 2 ≤ W.heap.size → Lib.Utf8Tabs 0 1 W → Calls Tryd.prog 40 #[.string X, .string Y] W fun r w' => r = .returned (.bool false) ∧ Below W.heap.size W w' := fun X Y h1 h2 h3 W h4 h5 => by
      have := melts_any X Y W h1 h2 h4 h5
      rwa [h3] at this
    refine cutof_walk s hs z a b c d _ U n A (A + bb) C (C + dd) (cutF (s.extract p q) U C (C + dd)).2 bb dd (s.extract p q) (cutF (s.extract p q) U C (C + dd)).1 (s.extract 0 p) (s.extract q s.size) 0 rfl hU hu hn bU.1 (by omega) hA hA0 hAn hbb hbb0 rfl (by omega) (fun W => ?_) (.inr ⟨rfl, ?_, hC, hC0, hC1, hdd, hdd0, rfl, by omega, CT _ hsp _ _, fun W => ?_, fun W => ?_, fun W => ?_, fun W => ?_, ?_, ?_, ?_, ?_⟩) w hw hT
    · have := CT s hs A (A + bb) W
      rwa [e] at this
    · rcases cutF_err (s.extract p q) U C (C + dd) with h | h | h | h
      · exact .inl h
      · exfalso
        rcases cut_range (s := s.extract p q) (u := U) (a := C) (b := C + dd) hu hC0 (by omega) (by rw [hp.last U, hP, hQ]; omega) with ⟨e2, _⟩ | ⟨_, _, _, _, _, _, _, _, _, e2⟩
        · rw [e2] at h; simp at h
        · rw [e2] at h; simp at h
      · exfalso
        rcases cut_range (s := s.extract p q) (u := U) (a := C) (b := C + dd) hu hC0 (by omega) (by rw [hp.last U, hP, hQ]; omega) with ⟨e2, _⟩ | ⟨_, _, _, _, _, _, _, _, _, e2⟩
        · rw [e2] at h; simp at h
        · rw [e2] at h; simp at h
      · exact .inr h
    · have := CT s hs (A + C) (A + (C + dd)) W
      rwa [← hcut] at this
    · have := size1_any (s.extract p q) hsp U hu W
      rwa [hp.last U, hP, hQ] at this
    · have := CT s hs 0 A W
      rwa [f1] at this
    · have := CT s hs (A + bb) n W
      rwa [f2] at this
    · rw [ByteArray.size_extract, ByteArray.size_extract, ByteArray.size_extract]
      omega
    · rw [x1, x3]
      exact beq_self_eq_true _
    · refine ML _ _ (by rw [ByteArray.size_extract]; omega) (by rw [x2, ByteArray.size_extract]; omega) (by rw [x2]; exact m1)
    · refine ML _ _ (by rw [x1, ByteArray.size_extract]; omega) (by rw [ByteArray.size_extract]; omega) (by rw [x1]; exact m2)
end Go.Proofs.YtofhmecbcmahaaaDoor
