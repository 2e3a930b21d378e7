/- Several texts, one behind the other. -/
import Derived.Laws.StructEq
import Derived.Deep.QuietTactic
import Derived.Deep.RegionHeld3
import Derived.Test.YthhhglfcacoejaaGreatDoorGC
import Derived.Test.YthhhglfcacoejaaGreatDoorGD
import Derived.Test.YthhhglfcacoejaaGreatDoorGE
import Derived.Test.YthhhglfcacoejaaGreatDoorGS
import Derived.Test.YthhhglfcacoejaaGreatDoorGT
/- The reference's Wants, lacks (chapter 11). -/
namespace Go.Proofs.YthhhglfcacoejaaGreatDoor
open Go.RowKit Go.Shelf

theorem rwants_any (s : ByteArray) (D : List Sp) (o : Option Addr) (cap : Nat) (S L G : Rt) (hs : s.size ≤ 140737488355328) (hS : RtIn S) (hL : RtIn L) (hG : RtIn G) (hk : chkT s D = 0) (hr : (rightB S && decide (0 < S.N) && decide (timeA L = 0) && decide (timeA G = 0)) = true) (w : World) (hR : SpO w o D) :
    Calls Tryz.prog 23 #[.agg #[.string s, .slice o D.length cap], .agg #[.int .i64 S.N, .int .i64 S.D, .int .i64 L.N, .int .i64 L.D, .int .i64 G.N, .int .i64 G.D]] w fun e w' => e = .returned (.tuple #[.agg #[.int .i64 (wantA (readN (signs s)) S L).1.N, .int .i64 (wantA (readN (signs s)) S L).1.D], .int .i64 (wantA (readN (signs s)) S L).2]) ∧ Below w.heap.size w w' := by
  have hle := signs_leL s
  have hrl := readN_le (signs s)
  have hnin : RtIn ⟨(readN (signs s) : Nat), 1⟩ := ⟨⟨by show (-9223372036854775808 : Int) ≤ (readN (signs s) : Int); omega, by show (readN (signs s) : Int) ≤ 9223372036854775807; omega⟩, ⟨by simp, by simp⟩⟩
  obtain ⟨r0, r1, r2, p0, p1, p2, hp, h1, h2⟩ := wants_same (readN (signs s)) (by omega) S L G (chkT s D) _ rfl _ rfl
  have hw := rwants11_walk s (.slice o D.length cap) S.N S.D L.N L.D G.N G.D (chkT s D) _ (readN (signs s)) _ _ _ _ _ (by omega) w (fun W' b' => rcheck_any s D o cap W' (hR.keep b'))
    (fun W' => rright11_walk S.N S.D L.N L.D G.N G.D (rightB S) (timeA L) (timeA G) W' (rright_r S hS) (rtime_any L hL) (rtime_any G hG))
    (fun W' b' => rcount11_any s hs _ W') (rdiv_any ⟨(readN (signs s) : Nat), 1⟩ S hnin hS) (rcmp_any _ ⟨360000, 1⟩ (divA_inL _ _) ⟨⟨by simp, by simp⟩, ⟨by simp, by simp⟩⟩) (rcmp_any _ L (divA_inL _ _) hL) r0 r1 r2 h2
  have e : r0 = (wantA (readN (signs s)) S L).1.N ∧ r1 = (wantA (readN (signs s)) S L).1.D ∧ r2 = (wantA (readN (signs s)) S L).2 := by
    rcases h1 with h | h | h
    · exact absurd hk h.1
    · rw [hr] at h
      cases h.2.1
    · obtain ⟨_, _, rfl, rfl, rfl⟩ := h
      unfold wantA
      rcases hp with ⟨g1, g2, g3, g4⟩ | ⟨g1, g2, g3, g4⟩
      · rw [if_neg g1]
        exact ⟨g2, g3, g4⟩
      · rw [if_pos g1]
        exact ⟨g2, g3, g4⟩
  rw [e.1, e.2.1, e.2.2] at hw
  exact hw

set_option maxRecDepth 100000 in
set_option maxHeartbeats 1000000 in
theorem rlacks_walk (x : Cu) (p0 p1 q0 q1 q2 cc d0 d1 d2 r0 r1 r2 : Int) (fb : Bool) (w : World)
    (hr1 : ¬ q2 = 0 → r0 = 0 ∧ r1 = 0 ∧ fb = false ∧ r2 = 12) (hr2 : q2 = 0 → 0 ≤ cc → r0 = 0 ∧ r1 = 0 ∧ fb = false ∧ r2 = 0) (hr3 : q2 = 0 → ¬ 0 ≤ cc → ¬ d2 = 0 → r0 = 0 ∧ r1 = 0 ∧ fb = false ∧ r2 = 12) (hr4 : q2 = 0 → ¬ 0 ≤ cc → d2 = 0 → r0 = d0 ∧ r1 = d1 ∧ fb = true ∧ r2 = 0)
    (H2 : ∀ W, Calls Tryz.prog 45 #[.agg #[.int .i64 x.c, .int .i64 x.d], .agg #[.int .i64 x.a, .int .i64 x.b]] W fun e w' => e = .returned (.tuple #[.agg #[.int .i64 q0, .int .i64 q1], .int .i64 q2]) ∧ Below W.heap.size W w')
    (H3 : ∀ W, Calls Tryz.prog 44 #[.agg #[.int .i64 q0, .int .i64 q1], .agg #[.int .i64 p0, .int .i64 p1]] W fun e w' => e = .returned (.int .i64 cc) ∧ Below W.heap.size W w')
    (H4 : ∀ W, Calls Tryz.prog 45 #[.agg #[.int .i64 p0, .int .i64 p1], .agg #[.int .i64 q0, .int .i64 q1]] W fun e w' => e = .returned (.tuple #[.agg #[.int .i64 d0, .int .i64 d1], .int .i64 d2]) ∧ Below W.heap.size W w') :
    Calls Tryz.prog 24 #[.agg x.cells, .agg #[.int .i64 p0, .int .i64 p1]] w fun e w' => e = .returned (.tuple #[.agg #[.int .i64 r0, .int .i64 r1], .bool fb, .int .i64 r2]) ∧ Below w.heap.size w w' := by
  have HQ1 := hideC hr1
  have HQ2 := hideC hr2
  have HQ3 := hideC hr3
  have HQ4 := hideC hr4
  replace H2 := hideC H2
  replace H3 := hideC H3
  replace H4 := hideC H4
  clear hr1 hr2 hr3 hr4
  unfold Cu.cells
  go_enter Tryz.func24, Tryz.ntmps24
  go_wp2_with fail
  obtain ⟨V, hV⟩ : ∃ V, ((w.alloc (.cells #[.int .i64 x.a, .int .i64 x.b, .int .i64 x.c, .int .i64 x.d, .int .i64 x.la, .int .i64 x.sd, .string x.nm, .string x.s, .slice x.o x.n x.k] 59)).alloc (.cells #[.int .i64 p0, .int .i64 p1] 26)).alloc (.cells #[.int .i64 0, .int .i64 0] 26) = V := ⟨_, rfl⟩
  have HV : Hid (Below w.heap.size w V ∧ CueC V w.heap.size x.a x.b x.c x.d x.la x.sd x.nm x.s (.slice x.o x.n x.k) ∧ Two V (w.heap.size + 1) (.int .i64 p0) (.int .i64 p1) ∧ Two V (w.heap.size + 1 + 1) (.int .i64 0) (.int .i64 0)) := hideC (by
    rw [← hV]
    refine ⟨bup (bup (bel1 _ _) (bel1 _ _)) (bel1 _ _), ?_, ?_, ?_⟩
    · exact (Below.heap_alloc _ _ _ (by rw [World.size_alloc, World.size_alloc]; omega)).trans ((Below.heap_alloc _ _ _ (by rw [World.size_alloc]; omega)).trans (World.alloc_heap_new w _))
    · have h := Two.new (w.alloc (.cells #[.int .i64 x.a, .int .i64 x.b, .int .i64 x.c, .int .i64 x.d, .int .i64 x.la, .int .i64 x.sd, .string x.nm, .string x.s, .slice x.o x.n x.k] 59)) (.int .i64 p0) (.int .i64 p1) 26
      rw [World.size_alloc] at h
      exact h.alloc _
    · have h := Two.new ((w.alloc (.cells #[.int .i64 x.a, .int .i64 x.b, .int .i64 x.c, .int .i64 x.d, .int .i64 x.la, .int .i64 x.sd, .string x.nm, .string x.s, .slice x.o x.n x.k] 59)).alloc (.cells #[.int .i64 p0, .int .i64 p1] 26)) (.int .i64 0) (.int .i64 0) 26
      rw [World.size_alloc, World.size_alloc] at h
      exact h)
  rw [hV]
  clear hV
  have ⟨⟨c0, c1, c2, c3⟩, _⟩ := HV.out.2.1.cells
  refine (H2.out V).mono ?_
  rintro e w2 ⟨rfl, b2⟩
  have HC : Hid (Below w.heap.size w w2 ∧ Two w2 (w.heap.size + 1 + 1) (.int .i64 0) (.int .i64 0) ∧ Two w2 (w.heap.size + 1) (.int .i64 p0) (.int .i64 p1)) := hideC ⟨bup HV.out.1 b2, HV.out.2.2.2.keep b2, HV.out.2.2.1.keep b2⟩
  clear b2 c0 c1 c2 c3
  go_upto_region 2 with fail
  obtain ⟨W2, hW2⟩ : ∃ W2, w2.alloc (.cells #[.int .i64 q0, .int .i64 q1] 26) = W2 := ⟨_, rfl⟩
  have HD : Hid (Below w.heap.size w W2 ∧ Two W2 (w.heap.size + 1 + 1) (.int .i64 0) (.int .i64 0) ∧ Two W2 (w.heap.size + 1) (.int .i64 p0) (.int .i64 p1) ∧ Two W2 w2.heap.size (.int .i64 q0) (.int .i64 q1)) := hideC (by
    rw [← hW2]
    exact ⟨bup HC.out.1 (bel1 _ _), HC.out.2.1.keep (bel1 _ _), HC.out.2.2.keep (bel1 _ _), Two.new _ _ _ _⟩)
  rw [hW2]
  clear hW2
  generalize w2.heap.size = B2 at *
  by_cases hq : q2 = 0
  · subst hq
    obtain ⟨_, k0, k1, _, _⟩ := HD.out.2.2.1
    obtain ⟨_, l0, l1, _, _⟩ := HD.out.2.2.2
    go_wp2_with fail
    refine (H3.out W2).mono ?_
    rintro e w3 ⟨rfl, b3⟩
    have HE : Hid (Below w.heap.size w w3 ∧ Two w3 (w.heap.size + 1 + 1) (.int .i64 0) (.int .i64 0) ∧ Two w3 (w.heap.size + 1) (.int .i64 p0) (.int .i64 p1) ∧ Two w3 B2 (.int .i64 q0) (.int .i64 q1)) := hideC ⟨bup HD.out.1 b3, HD.out.2.1.keep b3, HD.out.2.2.1.keep b3, HD.out.2.2.2.keep b3⟩
    clear b3 k0 k1 l0 l1
    by_cases hc : 0 ≤ cc
    · obtain ⟨rfl, rfl, rfl, rfl⟩ := HQ2.out (by first | trivial | rfl) hc
      obtain ⟨_, z0, z1, f0, f1⟩ := HE.out.2.1
      go_wp2_with fail
      refine bodyPost_ret (v := .tuple #[.agg #[.int .i64 0, .int .i64 0], .bool false, .int .i64 0]) (by simp [results, Tryz.results24, go_sem, z0, z1]) rfl ⟨rfl, ?_⟩
      exact (HE.out.1.setCell (by simp; omega) _).setCell (by simp; omega) _
    · obtain ⟨_, k0, k1, _, _⟩ := HE.out.2.2.1
      obtain ⟨_, l0, l1, _, _⟩ := HE.out.2.2.2
      go_wp2_with fail
      refine (H4.out w3).mono ?_
      rintro e w4 ⟨rfl, b4⟩
      have HF : Hid (Below w.heap.size w w4 ∧ Two w4 (w.heap.size + 1 + 1) (.int .i64 0) (.int .i64 0)) := hideC ⟨bup HE.out.1 b4, HE.out.2.1.keep b4⟩
      clear b4 k0 k1 l0 l1
      go_upto_region 7 with fail
      obtain ⟨W4, hW4⟩ : ∃ W4, w4.alloc (.cells #[.int .i64 d0, .int .i64 d1] 26) = W4 := ⟨_, rfl⟩
      have HG : Hid (Below w.heap.size w W4 ∧ Two W4 (w.heap.size + 1 + 1) (.int .i64 0) (.int .i64 0) ∧ Two W4 w4.heap.size (.int .i64 d0) (.int .i64 d1)) := hideC (by
        rw [← hW4]
        exact ⟨bup HF.out.1 (bel1 _ _), HF.out.2.keep (bel1 _ _), Two.new _ _ _ _⟩)
      rw [hW4]
      clear hW4
      generalize w4.heap.size = B4 at *
      obtain ⟨_, z0, z1, f0, f1⟩ := HG.out.2.1
      by_cases hd : d2 = 0
      · subst hd
        obtain ⟨_, m0, m1, _, _⟩ := HG.out.2.2
        obtain ⟨rfl, rfl, rfl, rfl⟩ := HQ4.out (by first | trivial | rfl) (by omega) (by first | trivial | rfl)
        go_wp2_with fail
        refine bodyPost_ret (v := .tuple #[.agg #[.int .i64 r0, .int .i64 r1], .bool true, .int .i64 0]) (by simp [results, Tryz.results24, go_sem, z0, z1]) rfl ⟨rfl, ?_⟩
        exact (HG.out.1.setCell (by simp; omega) _).setCell (by simp; omega) _
      · obtain ⟨rfl, rfl, rfl, rfl⟩ := HQ3.out (by first | trivial | rfl) (by omega) hd
        go_wp2_with fail
        refine bodyPost_ret (v := .tuple #[.agg #[.int .i64 0, .int .i64 0], .bool false, .int .i64 12]) (by simp [results, Tryz.results24, go_sem, z0, z1]) rfl ⟨rfl, ?_⟩
        exact (HG.out.1.setCell (by simp; omega) _).setCell (by simp; omega) _
  · obtain ⟨rfl, rfl, rfl, rfl⟩ := HQ1.out hq
    obtain ⟨_, z0, z1, f0, f1⟩ := HD.out.2.1
    go_wp2_with fail
    refine bodyPost_ret (v := .tuple #[.agg #[.int .i64 0, .int .i64 0], .bool false, .int .i64 12]) (by simp [results, Tryz.results24, go_sem, z0, z1]) rfl ⟨rfl, ?_⟩
    exact (HD.out.1.setCell (by simp; omega) _).setCell (by simp; omega) _
end Go.Proofs.YthhhglfcacoejaaGreatDoor

/- The reference's Look at every document and all rules (chapter 11). -/
namespace Go.Proofs.YthhhglfcacoejaaGreatDoor
open Go.RowKit Go.Shelf

theorem subA_err (a b : Rt) : (subA a b).2 = 0 ∨ (subA a b).2 = 12 := by
  unfold subA bad
  split
  · unfold low
    split
    · exact .inl rfl
    · exact .inr rfl
  · exact .inr rfl
/-- What the reference's lacks tells of a cue, what it wants given. -/
theorem rlacks_any (x : Cu) (S L : Rt) (hs : x.s.size ≤ 140737488355328) (h1 : RtIn ⟨x.a, x.b⟩) (h2 : RtIn ⟨x.c, x.d⟩) (hL : RtIn L) (hSr : rightB S = true) (hS0 : 0 < S.N) (hLt : timeA L = 0) (ht : timeA ⟨x.a, x.b⟩ = 0 ∧ timeA ⟨x.c, x.d⟩ = 0) (hw : (wantA (readN (signs x.s)) S L).2 = 0) :
    ∃ (r0 r1 : Int) (fb : Bool), (∀ W, Calls Tryz.prog 24 #[.agg x.cells, .agg #[.int .i64 (wantA (readN (signs x.s)) S L).1.N, .int .i64 (wantA (readN (signs x.s)) S L).1.D]] W fun e w' => e = .returned (.tuple #[.agg #[.int .i64 r0, .int .i64 r1], .bool fb, .int .i64 (lackA S L x).2]) ∧ Below W.heap.size W w') ∧
      ((lackA S L x).2 = 0 → (fb = decide (0 < (lackA S L x).1.N))) ∧ (fb = true → r0 = (lackA S L x).1.N ∧ r1 = (lackA S L x).1.D) := by
  have hle := signs_leL x.s
  have hrl := readN_le (signs x.s)
  have hok := fun h => lack_ok (S := S) (L := L) (x := x) (by omega) hSr hS0 hLt ht h
  have eL : lackA S L x = if ¬ (subA ⟨x.c, x.d⟩ ⟨x.a, x.b⟩).2 = 0 then (⟨0, 0⟩, (subA ⟨x.c, x.d⟩ ⟨x.a, x.b⟩).2) else if 0 ≤ cmpI (subA ⟨x.c, x.d⟩ ⟨x.a, x.b⟩).1 (wantA (readN (signs x.s)) S L).1 then (⟨0, 1⟩, 0) else subA (wantA (readN (signs x.s)) S L).1 (subA ⟨x.c, x.d⟩ ⟨x.a, x.b⟩).1 := by
    unfold lackA
    rw [if_neg (fun h => h hw)]
  have e12 := subA_err ⟨x.c, x.d⟩ ⟨x.a, x.b⟩
  have f12 := subA_err (wantA (readN (signs x.s)) S L).1 (subA ⟨x.c, x.d⟩ ⟨x.a, x.b⟩).1
  have W2 := rsub_any ⟨x.c, x.d⟩ ⟨x.a, x.b⟩ h2 h1
  have W3 := rcmp_any _ _ (subA_inL ⟨x.c, x.d⟩ ⟨x.a, x.b⟩) (wantA_in (n := readN (signs x.s)) (S := S) hL)
  have W4 := rsub_any _ _ (wantA_in (n := readN (signs x.s)) (S := S) hL) (subA_inL ⟨x.c, x.d⟩ ⟨x.a, x.b⟩)
  by_cases g2 : (subA ⟨x.c, x.d⟩ ⟨x.a, x.b⟩).2 = 0
  · rw [if_neg (fun h => h g2)] at eL
    by_cases g3 : 0 ≤ cmpI (subA ⟨x.c, x.d⟩ ⟨x.a, x.b⟩).1 (wantA (readN (signs x.s)) S L).1
    · rw [if_pos g3] at eL
      rw [eL]
      exact ⟨0, 0, false, fun W => rlacks_walk x _ _ _ _ _ _ _ _ _ 0 0 0 false W (fun h => absurd g2 h) (fun _ _ => ⟨rfl, rfl, rfl, rfl⟩) (fun _ h => absurd g3 h) (fun _ h => absurd g3 h) W2 W3 W4, fun _ => by simp, fun h => by cases h⟩
    · rw [if_neg g3] at eL
      by_cases g4 : (subA (wantA (readN (signs x.s)) S L).1 (subA ⟨x.c, x.d⟩ ⟨x.a, x.b⟩).1).2 = 0
      · have h0 : (lackA S L x).2 = 0 := by rw [eL]; exact g4
        obtain ⟨_, br, b3⟩ := hok h0
        have hpos : 0 < (lackA S L x).1.N := by
          rcases b3 with ⟨b4, b5⟩ | ⟨b4, b5⟩
          · exfalso
            have wr := (want_ok (n := readN (signs x.s)) (S := S) (L := L) (by omega) hSr hS0 hLt hw).1
            have r1 := time_rightM ht.1
            have r2 := time_rightM ht.2
            rw [subA_right r2 r1] at g2 g3
            obtain ⟨qr, qv⟩ := low_ok_right _ g2
            rw [← qv] at b4
            have h5 := (cmp_le wr qr).2 b4
            rw [cmp_turn] at h5
            omega
          · refine (pos_iffM br).2 ?_
            rw [b5]
            grind
        rw [eL] at hpos ⊢
        rw [g4]
        exact ⟨_, _, true, fun W => rlacks_walk x _ _ _ _ _ _ _ _ _ _ _ 0 true W (fun h => absurd g2 h) (fun _ h => absurd h g3) (fun _ _ h => absurd g4 h) (fun _ _ _ => ⟨rfl, rfl, rfl, rfl⟩) W2 W3 W4, fun _ => by simp [hpos], fun _ => ⟨rfl, rfl⟩⟩
      · rw [eL]
        have e5 : (subA (wantA (readN (signs x.s)) S L).1 (subA ⟨x.c, x.d⟩ ⟨x.a, x.b⟩).1).2 = 12 := by omega
        rw [e5]
        exact ⟨0, 0, false, fun W => rlacks_walk x _ _ _ _ _ _ _ _ _ 0 0 12 false W (fun h => absurd g2 h) (fun _ h => absurd h g3) (fun _ _ _ => ⟨rfl, rfl, rfl, rfl⟩) (fun _ _ h => absurd h g4) W2 W3 W4, fun h => by omega, fun h => by cases h⟩
  · rw [if_pos g2] at eL
    rw [eL]
    have e5 : (subA ⟨x.c, x.d⟩ ⟨x.a, x.b⟩).2 = 12 := by omega
    simp only [e5]
    exact ⟨0, 0, false, fun W => rlacks_walk x _ _ _ _ _ _ _ _ _ 0 0 12 false W (fun _ => ⟨rfl, rfl, rfl, rfl⟩) (fun h => absurd h g2) (fun h => absurd h g2) (fun h => absurd h g2) W2 W3 W4, fun h => by omega, fun h => by cases h⟩
end Go.Proofs.YthhhglfcacoejaaGreatDoor

/- The reference's Look at every document and all rules (chapter 11): its walk. -/
namespace Go.Proofs.YthhhglfcacoejaaGreatDoor
open Go.RowKit Go.Shelf

theorem infoRFast : (Tryz.prog.info? 76).map (fun i => (i.zero, i.size, i.bytes)) = some (some (.agg #[.int .i64 0, .int .i64 0, .int .i64 0]), 3, 24) := by kernel_rfl
theorem chkF_tmL {sp : Cu → List Sp} {x : Cu} (h : chkF sp x = 0) : timeA ⟨x.a, x.b⟩ = 0 ∧ timeA ⟨x.c, x.d⟩ = 0 := by
  unfold chkF chkC at h
  by_cases h1 : timeA ⟨x.a, x.b⟩ = 0
  · rw [if_pos h1] at h
    refine ⟨h1, ?_⟩
    by_cases h2 : timeA ⟨x.c, x.d⟩ = 0
    · exact h2
    · rw [if_pos h2] at h
      exact absurd h h2
  · rw [if_neg h1] at h
    rw [if_pos h1] at h
    exact absurd h h1
theorem chkF_text {sp : Cu → List Sp} {x : Cu} (h : chkF sp x = 0) : chkT x.s (sp x) = 0 := by
  unfold chkF chkC at h
  repeat' split at h
  all_goals first | omega | assumption
theorem badC_noneL (f : Cu → Int) : ∀ (L : List Cu) (i : Nat), badC f i L = none → ∀ x ∈ L, f x = 0
  | [], _, _, x, hx => by simp at hx
  | y :: L, i, h, x, hx => by
    unfold badC at h
    split at h
    · rename_i h0
      rcases List.mem_cons.1 hx with rfl | hx
      · exact h0
      · exact badC_noneL f L (i + 1) h x hx
    · cases h
theorem lookAll {sp : Cu → List Sp} {Q : List Cu} (h : docC (chkF sp) Q = none) : ∀ x ∈ Q, chkF sp x = 0 := by
  unfold docC at h
  split at h
  · cases h
  · split at h
    · cases h
    · rename_i h2
      exact badC_noneL _ Q 0 h2
theorem badC_neL (f : Cu → Int) : ∀ (L : List Cu) (i : Nat) (p : Nat × Int), badC f i L = some p → ¬ p.2 = 0
  | [], _, _, h => by cases h
  | x :: L, i, p, h => by
    unfold badC at h
    split at h
    · exact badC_neL f L (i + 1) p h
    · cases h
      assumption
theorem disC_neL : ∀ (L : List Cu) (i : Nat) (p : Nat × Int), disC i L = some p → ¬ p.2 = 0
  | [], _, _, h => by cases h
  | [_], _, _, h => by cases h
  | x :: y :: L, i, p, h => by
    unfold disC at h
    split at h
    · cases h
      simp
    · exact disC_neL (y :: L) (i + 1) p h
theorem docC_ne {f : Cu → Int} {Q : List Cu} {i : Nat} {k : Int} (h : docC f Q = some (i, k)) : ¬ k = 0 := by
  unfold docC at h
  split at h
  · cases h
    omega
  · split at h
    · rename_i h3
      cases h
      exact badC_neL f Q 0 _ h3
    · exact disC_neL Q 0 _ h
/-- What lies in memory while the reference looks: the document, the rules, the place of the error. -/
def RlS (w : World) (oa : Option Addr) (N cap : Nat) (s0 s1 l0 l1 g0 g1 : Int) (W : World) : Prop := Below w.heap.size w W ∧ w.heap.size + 1 + 1 < W.heap.size ∧ W.cell? ⟨w.heap.size, 0, none⟩ = some (.slice oa N cap) ∧ SixC W (w.heap.size + 1) 44 s0 s1 l0 l1 g0 g1 ∧ Two W (w.heap.size + 1 + 1) (.int .i64 0) (.int .i64 0)
theorem RlS.keep {w W V : World} {oa : Option Addr} {N cap : Nat} {s0 s1 l0 l1 g0 g1 : Int} (h : RlS w oa N cap s0 s1 l0 l1 g0 g1 W) (b : Below W.heap.size W V) : RlS w oa N cap s0 s1 l0 l1 g0 g1 V :=
  ⟨bup h.1 b, Nat.lt_of_lt_of_le h.2.1 b.size, (b.cell (p := ⟨w.heap.size, 0, none⟩) (by show w.heap.size < _; have := h.2.1; omega)).trans h.2.2.1, h.2.2.2.1.keep b, h.2.2.2.2.keep b⟩
/-- What the reference's Look tells. -/
def LrV (w w' : World) (r : Option (Nat × Int)) (M : List (Nat × Rt)) (v : Value) : Prop := (r = none → w'.ownsRow w.heap.size 76 3 v M.length (flatF M)) ∧ (¬ r = none → v = .slice none 0 0)

set_option maxRecDepth 100000 in
set_option maxHeartbeats 4000000 in
theorem rlook11_any (sp : Cu → List Sp) (S L G : Rt) (Q : List Cu) (oa : Option Addr) (cap : Nat) (hc : Q.length ≤ cap ∧ cap ≤ maxLen) (hn : Q.length ≤ 1000000) (hS : RtIn S) (hL : RtIn L) (hG : RtIn G) (w : World) (hR : CuO w oa Q) (hP : ∀ x ∈ Q, CuP w sp x) :
    Calls Tryz.prog 9 #[.agg #[.slice oa Q.length cap], .agg #[.int .i64 S.N, .int .i64 S.D, .int .i64 L.N, .int .i64 L.D, .int .i64 G.N, .int .i64 G.D]] w fun e w' => ∃ v, e = .returned (.tuple #[v, .agg #[.int .i64 (docP (lookR sp S L G Q)).1, .int .i64 (docP (lookR sp S L G Q)).2]]) ∧ LrV w w' (lookR sp S L G Q) (fastG S L 0 Q) v ∧ Below w.heap.size w w' := by
  obtain ⟨i0, hi, hz0, hz1, hz2⟩ := info_partsE infoRFast
  have HD := hideC (fun (W : World) (b : Below w.heap.size w W) => rcheckdoc_any sp Q oa cap hc W (hR.keep b) (fun x hx => (hP x hx).keep b))
  have HK := hideC (fun (W : World) => rright11_walk S.N S.D L.N L.D G.N G.D (rightB S) (timeA L) (timeA G) W (rright_r S hS) (rtime_any L hL) (rtime_any G hG))
  have HW := hideC (fun (hr : (rightB S && decide (0 < S.N) && decide (timeA L = 0) && decide (timeA G = 0)) = true) (x : Cu) (hx : x ∈ Q) (hk : chkF sp x = 0) (W : World) (b : Below w.heap.size w W) => (show Calls Tryz.prog 23 #[.agg #[.string x.s, .slice x.o x.n x.k], .agg #[.int .i64 S.N, .int .i64 S.D, .int .i64 L.N, .int .i64 L.D, .int .i64 G.N, .int .i64 G.D]] W fun e w' => e = .returned (.tuple #[.agg #[.int .i64 (wantA (readN (signs x.s)) S L).1.N, .int .i64 (wantA (readN (signs x.s)) S L).1.D], .int .i64 (wantA (readN (signs x.s)) S L).2]) ∧ Below W.heap.size W w' by
    obtain ⟨p1, p2, p3, p4, p5, p6, p7⟩ := hP x hx
    have h := rwants_any x.s (sp x) x.o x.k S L G p3 hS hL hG (chkF_text hk) hr W (p7.keep b)
    rw [p4] at h
    exact h))
  have HQ := hideC (fun (hr : (rightB S && decide (0 < S.N) && decide (timeA L = 0) && decide (timeA G = 0)) = true) (x : Cu) (hx : x ∈ Q) (hk : chkF sp x = 0) (hw : (wantA (readN (signs x.s)) S L).2 = 0) => (show ∃ (r0 r1 : Int) (fb : Bool), (∀ W, Calls Tryz.prog 24 #[.agg x.cells, .agg #[.int .i64 (wantA (readN (signs x.s)) S L).1.N, .int .i64 (wantA (readN (signs x.s)) S L).1.D]] W fun e w' => e = .returned (.tuple #[.agg #[.int .i64 r0, .int .i64 r1], .bool fb, .int .i64 (lackA S L x).2]) ∧ Below W.heap.size W w') ∧ ((lackA S L x).2 = 0 → (fb = decide (0 < (lackA S L x).1.N))) ∧ (fb = true → r0 = (lackA S L x).1.N ∧ r1 = (lackA S L x).1.D) by
    obtain ⟨p1, p2, p3, p4, p5, p6, p7⟩ := hP x hx
    simp only [Bool.and_eq_true, decide_eq_true_eq] at hr
    exact rlacks_any x S L p3 p1 p2 hL hr.1.1.1 hr.1.1.2 hr.1.2 (chkF_tmL hk) hw))
  have HWn : Hid (∀ x : Cu, ¬ (wantA (readN (signs x.s)) S L).2 = 0 → (lackA S L x).2 = (wantA (readN (signs x.s)) S L).2) := hideC (fun x h => by unfold lackA; rw [if_pos h])
  have HM : Hid (∀ (j : Nat) (x : Cu), Q[j]? = some x → fastG S L 0 (Q.take (j + 1)) = fastG S L 0 (Q.take j) ++ if 0 < (lackA S L x).1.N then [(j, (lackA S L x).1)] else []) := hideC (fun j x h => fastG_take h)
  have HLn : Hid (∀ j, (fastG S L 0 (Q.take j)).length ≤ 1000000) := hideC (fun j => by
    have h1 := fastG_len S L (Q.take j) 0
    have h3 : (Q.take j).length ≤ Q.length := by rw [List.length_take]; omega
    omega)
  have hall := @lookAll sp Q
  rw [lookR_of]
  unfold chkR
  obtain ⟨N, hN⟩ : ∃ N, Q.length = N := ⟨_, rfl⟩
  have HN := hideC hN
  have HR := hideC hR
  rw [hN] at HD hn hc ⊢
  have hcm : cap ≤ 9223372036854775807 := hc.2
  generalize hf : lackA S L = f at *
  generalize hwf : (fun x : Cu => wantA (readN (signs x.s)) S L) = wf at *
  have hwx : ∀ x : Cu, wantA (readN (signs x.s)) S L = wf x := fun x => by rw [← hwf]
  simp only [hwx] at HW HQ HWn
  clear hwx hwf
  generalize hrb : (rightB S && decide (0 < S.N) && decide (timeA L = 0) && decide (timeA G = 0)) = rb at *
  obtain ⟨R, hRR⟩ : ∃ R, docC (chkF sp) Q = R := ⟨_, rfl⟩
  rw [hRR] at HD hall
  rw [hRR]
  have hk0 : Hid (∀ i k, R = some (i, k) → ¬ k = 0) := hideC (fun i k e => docC_ne (hRR.trans e))
  clear hN hS hL hG hR hP hrb hRR
  generalize S.N = s0 at *
  generalize S.D = s1 at *
  generalize L.N = l0 at *
  generalize L.D = l1 at *
  generalize G.N = g0 at *
  generalize G.D = g1 at *
  obtain ⟨V, hV⟩ : ∃ V, ((w.alloc (.cells #[.slice oa N cap] 24)).alloc (.cells #[.int .i64 s0, .int .i64 s1, .int .i64 l0, .int .i64 l1, .int .i64 g0, .int .i64 g1] 44)).alloc (.cells #[.int .i64 0, .int .i64 0] 41) = V := ⟨_, rfl⟩
  have HV : Hid (RlS w oa N cap s0 s1 l0 l1 g0 g1 V) := hideC (by
    rw [← hV]
    have h0 := World.alloc_heap_new w (.cells #[.slice oa N cap] 24)
    have h1 := World.alloc_heap_new (w.alloc (.cells #[.slice oa N cap] 24)) (.cells #[.int .i64 s0, .int .i64 s1, .int .i64 l0, .int .i64 l1, .int .i64 g0, .int .i64 g1] 44)
    rw [World.size_alloc] at h1
    have h2 := Two.new ((w.alloc (.cells #[.slice oa N cap] 24)).alloc (.cells #[.int .i64 s0, .int .i64 s1, .int .i64 l0, .int .i64 l1, .int .i64 g0, .int .i64 g1] 44)) (.int .i64 0) (.int .i64 0) 41
    rw [World.size_alloc, World.size_alloc] at h2
    refine ⟨bup (bup (bel1 _ _) (bel1 _ _)) (bel1 _ _), by rw [World.size_alloc, World.size_alloc, World.size_alloc]; omega, ?_, ?_, h2⟩
    · rw [World.cell?, (Below.heap_alloc _ _ _ (by rw [World.size_alloc, World.size_alloc]; omega)).trans ((Below.heap_alloc _ _ _ (by rw [World.size_alloc]; omega)).trans h0)]
      rfl
    · exact (Below.heap_alloc _ _ _ (by rw [World.size_alloc, World.size_alloc]; omega)).trans h1)
  have HVV := hideC hV
  clear hV
  cases R with
  | some p =>
    obtain ⟨i, k⟩ := p
    have hk := hk0.out i k rfl
    have hdp : docP (some (i, k)) = ((i : Int), k) := rfl
    simp only
    rw [hdp]
    rw [hdp] at HD
    go_enter Tryz.func9, Tryz.ntmps9
    go_wp2_with fail
    rw [HVV.out]
    clear HVV
    refine (HD.out V HV.out.1).mono ?_
    rintro e w1 ⟨rfl, b1⟩
    have H1 := hideC (HV.out.keep b1)
    have hzw1 := b1.size
    clear b1 HD HV
    go_upto_region 3 with fail
    obtain ⟨W, hW⟩ : ∃ W, w1.alloc (.cells #[.int .i64 (i : Int), .int .i64 k] 41) = W := ⟨_, rfl⟩
    have H2 : Hid (RlS w oa N cap s0 s1 l0 l1 g0 g1 W ∧ Two W w1.heap.size (.int .i64 (i : Int)) (.int .i64 k)) := hideC (by
      rw [← hW]
      exact ⟨H1.out.keep (bel1 _ _), Two.new _ _ _ _⟩)
    rw [hW]
    clear hW
    obtain ⟨_, e0, e1, _, _⟩ := H2.out.2
    obtain ⟨_, z0, z1, f0, f1⟩ := H2.out.1.2.2.2.2
    go_big_region
    go_wp2_with fail
    refine bodyPost_ret (v := .tuple #[.slice none 0 0, .agg #[.int .i64 (i : Int), .int .i64 k]]) (by simp [results, Tryz.results9, go_sem, z0, z1]) rfl ?_
    exact ⟨_, rfl, ⟨fun h => (nomatch h), fun _ => rfl⟩, ((H2.out.1.1.setCell (by simp; omega) _).setCell (by simp; omega) _).drew⟩
  | none =>
    have hdp : docP none = (0, 0) := rfl
    rw [hdp] at HD
    have hall2 := hideC (hall rfl)
    clear hall hk0
    cases rb with
    | false =>
      have hdq : docP (some (0, 1)) = (0, 1) := rfl
      simp only [Bool.false_eq_true, if_false]
      rw [hdq]
      go_enter Tryz.func9, Tryz.ntmps9
      go_wp2_with fail
      rw [HVV.out]
      clear HVV
      refine (HD.out V HV.out.1).mono ?_
      rintro e w1 ⟨rfl, b1⟩
      have H1 := hideC (HV.out.keep b1)
      have hzw1 := b1.size
      clear b1 HD HV
      go_upto_region 4 with fail
      obtain ⟨W, hW⟩ : ∃ W, w1.alloc (.cells #[.int .i64 0, .int .i64 0] 41) = W := ⟨_, rfl⟩
      have H2 : Hid (RlS w oa N cap s0 s1 l0 l1 g0 g1 W) := hideC (by rw [← hW]; exact H1.out.keep (bel1 _ _))
      rw [hW]
      clear hW
      have ⟨c0, c1, c2, c3, c4, c5⟩ := H2.out.2.2.2.1.cells
      go_wp2_with fail
      refine (HK.out _).mono ?_
      rintro e w2 ⟨rfl, b2⟩
      have H3 := hideC (H2.out.keep b2)
      clear b2 c0 c1 c2 c3 c4 c5
      obtain ⟨_, z0, z1, f0, f1⟩ := H3.out.2.2.2.2
      go_wp2_with fail
      refine bodyPost_ret (v := .tuple #[.slice none 0 0, .agg #[.int .i64 0, .int .i64 1]]) (by simp [results, Tryz.results9, go_sem, z0, z1]) rfl ?_
      exact ⟨_, rfl, ⟨fun h => (nomatch h), fun _ => rfl⟩, (H3.out.1.setCell (by simp; omega) _).setCell (by simp; omega) _⟩
    | true =>
      simp only [if_true]
      obtain ⟨R2, hR2⟩ : ∃ R2, badC (fun x => (f x).2) 0 Q = R2 := ⟨_, rfl⟩
      rw [hR2]
      have HR2 := hideC hR2
      clear hR2
      go_enter Tryz.func9, Tryz.ntmps9
      go_wp2_with fail
      rw [HVV.out]
      clear HVV
      refine (HD.out V HV.out.1).mono ?_
      rintro e w1 ⟨rfl, b1⟩
      have H1 := hideC (HV.out.keep b1)
      have hzw1 := b1.size
      clear b1 HD HV
      go_upto_region 4 with fail
      obtain ⟨W, hW⟩ : ∃ W, w1.alloc (.cells #[.int .i64 0, .int .i64 0] 41) = W := ⟨_, rfl⟩
      have H2 : Hid (RlS w oa N cap s0 s1 l0 l1 g0 g1 W) := hideC (by rw [← hW]; exact H1.out.keep (bel1 _ _))
      rw [hW]
      clear hW
      have ⟨c0, c1, c2, c3, c4, c5⟩ := H2.out.2.2.2.1.cells
      go_wp2_with fail
      refine (HK.out _).mono ?_
      rintro e w2 ⟨rfl, b2⟩
      have H3 := hideC (H2.out.keep b2)
      clear b2 c0 c1 c2 c3 c4 c5
      go_wp2_with fail
      go_loopw [7, 8] (fun lv iv wq => ∃ j : Nat, iv = .int .i64 (j : Nat) ∧ j ≤ N ∧ wq.ownsRow w2.heap.size 76 3 lv (fastG S L 0 (Q.take j)).length (flatF (fastG S L 0 (Q.take j))) ∧ R2 = badC (fun x => (f x).2) j (Q.drop j) ∧ Below w2.heap.size w2 wq) (fun _ iv _ => N - (intOf iv).toNat)
      case atStart => exact ⟨0, rfl, Nat.zero_le _, World.ownsRow_nil _ _ _ _, HR2.out.symm, Below.refl _ _⟩
      case round =>
        obtain ⟨j, rfl, hj, hown, hbad, hb⟩ := hrel
        obtain ⟨wq, rfl⟩ : ∃ wq, wq = wr := ⟨_, rfl⟩
        have H4 := hideC (H3.out.keep hb)
        have cD := H4.out.2.2.1
        by_cases hlt : j < N
        · obtain ⟨x, hx⟩ : ∃ x, Q[j]? = some x := ⟨_, List.getElem?_eq_getElem (by rw [HN.out]; exact hlt)⟩
          have hxm := List.mem_of_getElem? hx
          obtain ⟨a, rfl, hab, ⟨c0, c1, c2, c3⟩, ⟨c4, c5⟩, ⟨c6, c7, c8⟩⟩ := HR.out.keep H4.out.1 j x hx
          have ⟨r0c, r1c, r2c, r3c, r4c, r5c⟩ := H4.out.2.2.2.1.cells
          have d2 : (j : Int) < (N : Int) := by omega
          have wi : IntKind.i64.wrap ((j : Int) + 1) = ((j + 1 : Nat) : Int) := by rw [show ((j + 1 : Nat) : Int) = (j : Int) + 1 by omega]; exact IntWalk.i64_in _ ⟨by omega, by omega⟩
          have HWx := hideC (HW.out (by first | trivial | rfl) x hxm (hall2.out x hxm))
          have HQx := hideC (HQ.out (by first | trivial | rfl) x hxm (hall2.out x hxm))
          have HWnx := hideC (HWn.out x)
          have hm := HM.out j x hx
          have hln := HLn.out j
          rw [badC_drop _ Q j x hx] at hbad
          generalize (wf x).1.N = p0 at *
          generalize (wf x).1.D = p1 at *
          generalize (wf x).2 = p2 at *
          generalize (f x).2 = e2 at *
          generalize (f x).1 = fr at *
          obtain ⟨M, hM⟩ : ∃ M, fastG S L 0 (Q.take j) = M := ⟨_, rfl⟩
          rw [hM] at hown hm hln
          have HA := hideC (And.intro hm (And.intro hown (And.intro hb hbad)))
          clear hx hxm hm hown hb hbad hM
          go_upto_region 11 with fail
          obtain ⟨V2, hV2⟩ : ∃ V2, wq.alloc (.cells #[.int .i64 x.a, .int .i64 x.b, .int .i64 x.c, .int .i64 x.d, .int .i64 x.la, .int .i64 x.sd, .string x.nm, .string x.s, .slice x.o x.n x.k] 59) = V2 := ⟨_, rfl⟩
          have HV2 : Hid (Below wq.heap.size wq V2 ∧ CueC V2 wq.heap.size x.a x.b x.c x.d x.la x.sd x.nm x.s (.slice x.o x.n x.k)) := hideC (by rw [← hV2]; exact ⟨bel1 _ _, World.alloc_heap_new wq _⟩)
          rw [hV2]
          clear hV2 c0 c1 c2 c3 c4 c5 c6 c7 c8 r0c r1c r2c r3c r4c r5c cD
          have ⟨_, _, ⟨_, c7, c8⟩⟩ := HV2.out.2.cells
          have ⟨r0c, r1c, r2c, r3c, r4c, r5c⟩ := (H4.out.2.2.2.1.keep HV2.out.1).cells
          go_wp2_with fail
          clear c7 c8 r0c r1c r2c r3c r4c r5c
          refine (HWx.out V2 (bup H4.out.1 HV2.out.1)).mono ?_
          rintro e w3 ⟨rfl, b3⟩
          have H5 : Hid (Below wq.heap.size wq w3 ∧ CueC w3 wq.heap.size x.a x.b x.c x.d x.la x.sd x.nm x.s (.slice x.o x.n x.k)) := hideC ⟨bup HV2.out.1 b3, HV2.out.2.keep b3⟩
          clear b3 HV2
          go_upto_region 12 with fail
          obtain ⟨W3, hW3⟩ : ∃ W3, w3.alloc (.cells #[.int .i64 p0, .int .i64 p1] 26) = W3 := ⟨_, rfl⟩
          have H6 : Hid (Below wq.heap.size wq W3 ∧ CueC W3 wq.heap.size x.a x.b x.c x.d x.la x.sd x.nm x.s (.slice x.o x.n x.k) ∧ Two W3 w3.heap.size (.int .i64 p0) (.int .i64 p1)) := hideC (by rw [← hW3]; exact ⟨bup H5.out.1 (bel1 _ _), H5.out.2.keep (bel1 _ _), Two.new _ _ _ _⟩)
          rw [hW3]
          clear hW3 H5
          by_cases hp : p2 = 0
          · obtain ⟨r0, r1, fb, HL0, hfb, hfr⟩ := HQx.out hp
            have HLx := hideC HL0
            have HFB := hideC (And.intro hfb hfr)
            clear HL0 hfb hfr
            unfold Cu.cells at HLx
            obtain ⟨⟨c0, c1, c2, c3⟩, ⟨c4, c5⟩, ⟨c6, c7, c8⟩⟩ := H6.out.2.1.cells
            obtain ⟨_, k0, k1, _, _⟩ := H6.out.2.2
            go_wp2_with fail
            refine (HLx.out W3).mono ?_
            rintro e w4 ⟨rfl, b4⟩
            have H7 := hideC (bup H6.out.1 b4)
            clear b4 c0 c1 c2 c3 c4 c5 c6 c7 c8 k0 k1
            go_upto_region 15 with fail
            obtain ⟨W4, hW4⟩ : ∃ W4, w4.alloc (.cells #[.int .i64 r0, .int .i64 r1] 26) = W4 := ⟨_, rfl⟩
            have H8 : Hid (Below wq.heap.size wq W4 ∧ Two W4 w4.heap.size (.int .i64 r0) (.int .i64 r1)) := hideC (by rw [← hW4]; exact ⟨bup H7.out (bel1 _ _), Two.new _ _ _ _⟩)
            rw [hW4]
            clear hW4 H7
            by_cases he : e2 = 0
            · have hbad2 : R2 = badC (fun x => (f x).2) (j + 1) (Q.drop (j + 1)) := by have h := HA.out.2.2.2; rw [if_pos he] at h; exact h
              have HBd := hideC hbad2
              have hfbd := HFB.out.1 he
              clear hbad2
              by_cases hpos : 0 < fr.N
              · obtain rfl : fb = true := by rw [hfbd]; exact decide_eq_true hpos
                obtain ⟨rfl, rfl⟩ := HFB.out.2 rfl
                obtain ⟨_, k0, k1, _, _⟩ := H8.out.2
                have hownW := own_butE (HA.out.2.1) (But.grown (M := fun _ => False) H8.out.1) (fun _ _ h => h)
                have hz9 := HA.out.2.2.1.size
                have hz8 := H8.out.1.size
                clear hfbd
                go_wp2_with (at_builtin; refine wpList_append_lies _ rfl _ _ 39 rfl w2.heap.size 76 i0 _ 3 24 Tryz.underlying39 hi hz0 hz1 hz2 rfl (by decide) _ M.length (flatF M) rfl (hownW.alloc _) ⟨W4.heap.size, 0, none⟩ 1 1 [.int .i64 (j : Int), .int .i64 fr.N, .int .i64 fr.D] rfl rfl (World.news_of_block (cs := #[.int .i64 (j : Int), .int .i64 fr.N, .int .i64 fr.D]) (t := 76) (fr := (0, 0)) (World.alloc_heap_new W4 _)) (by simp [Value.oneCell']) (by omega) (by unfold maxLen; omega) (by omega) (by simp; omega) (W4.heap.size + 1) (by simp) ?_; intro gg cap2 w6 hown6 hgrow6 hat6 hlt6)
                go_roundw
                case rel =>
                  refine ⟨j + 1, by first | rfl | simp, by omega, ?_, HBd.out, ?_⟩
                  · rw [HA.out.1, if_pos hpos, List.length_append, flatF_app]
                    exact hown6
                  · exact Below.grown ((HA.out.2.2.1.trans (H8.out.1.mono hz9)).alloc (by omega) _) hgrow6 (by rw [World.size_alloc]; omega) (fun k hk => (hownW.lt k hk).1)
                case measure => simp [intOf]; omega
              · obtain rfl : fb = false := by rw [hfbd]; exact decide_eq_false hpos
                clear hfbd
                have hz9 := HA.out.2.2.1.size
                go_wp2_with fail
                go_roundw
                case rel =>
                  refine ⟨j + 1, by first | rfl | simp, by omega, ?_, HBd.out, HA.out.2.2.1.trans (H8.out.1.mono hz9)⟩
                  rw [HA.out.1, if_neg hpos, List.append_nil]
                  exact own_butE (HA.out.2.1) (But.grown (M := fun _ => False) H8.out.1) (fun _ _ h => h)
                case measure => simp [intOf]; omega
            · have hR9 : R2 = some (j, e2) := by have h := HA.out.2.2.2; rw [if_neg he] at h; exact h
              have HR9 := hideC hR9
              have H9 := hideC (H4.out.keep H8.out.1)
              clear hR9
              obtain ⟨_, z0, z1, f0, f1⟩ := H9.out.2.2.2.2
              go_wp2_with fail
              refine bodyPost_ret (v := .tuple #[.slice none 0 0, .agg #[.int .i64 (j : Int), .int .i64 e2]]) (by simp [results, Tryz.results9, go_sem, z0, z1]) rfl ?_
              obtain rfl := HR9.out
              exact ⟨_, rfl, ⟨fun h => (nomatch h), fun _ => rfl⟩, (H9.out.1.setCell (by simp; omega) _).setCell (by simp; omega) _⟩
          · have he2 : e2 = p2 := HWnx.out hp
            have hR9 : R2 = some (j, p2) := by have h := HA.out.2.2.2; rw [he2, if_neg hp] at h; exact h
            have HR9 := hideC hR9
            have H9 := hideC (H4.out.keep H6.out.1)
            clear hR9 he2
            obtain ⟨_, z0, z1, f0, f1⟩ := H9.out.2.2.2.2
            go_wp2_with fail
            refine bodyPost_ret (v := .tuple #[.slice none 0 0, .agg #[.int .i64 (j : Int), .int .i64 p2]]) (by simp [results, Tryz.results9, go_sem, z0, z1]) rfl ?_
            obtain rfl := HR9.out
            exact ⟨_, rfl, ⟨fun h => (nomatch h), fun _ => rfl⟩, (H9.out.1.setCell (by simp; omega) _).setCell (by simp; omega) _⟩
        · obtain rfl : j = N := by omega
          have d2 : ¬ (j : Int) < (j : Int) := by omega
          have hk : Q.take j = Q := List.take_of_length_le (by rw [HN.out]; exact Nat.le_refl _)
          have hk2 : Q.drop j = [] := List.drop_eq_nil_of_le (by rw [HN.out]; exact Nat.le_refl _)
          rw [hk] at hown
          rw [hk2] at hbad
          have hR9 : R2 = none := hbad
          obtain ⟨ov, cv, rfl, _, _⟩ := fao_own hown rfl
          obtain ⟨nM, hnM⟩ : ∃ nM, (fastG S L 0 Q).length = nM := ⟨_, rfl⟩
          rw [hnM] at hown
          rw [hnM]
          have HA := hideC (And.intro hown (And.intro hR9 (And.intro H3.out.1.size hnM)))
          clear hk hk2 hown hbad hb hR9 hnM
          obtain ⟨_, z0, z1, f0, f1⟩ := H4.out.2.2.2.2
          go_wp2_with fail
          refine bodyPost_ret (v := .tuple #[.slice ov nM cv, .agg #[.int .i64 0, .int .i64 0]]) (by simp [results, Tryz.results9, go_sem, z0, z1]) rfl ?_
          obtain rfl := HA.out.2.1
          refine ⟨_, rfl, ⟨fun _ => ?_, fun h => absurd rfl h⟩, (H4.out.1.setCell (by simp; omega) _).setCell (by simp; omega) _⟩
          rw [HA.out.2.2.2]
          have hrm := H3.out.2.1
          have h9 := own_butE HA.out.1 (((But.refl (fun k => k = w.heap.size + 1 + 1) wq).setCell (p := ⟨w.heap.size + 1 + 1, 0, none⟩) rfl (.int .i64 0)).setCell (p := ⟨w.heap.size + 1 + 1, 1, none⟩) rfl (.int .i64 0)) (fun k hk e => by have := (HA.out.1.lt k hk).1; omega)
          refine ⟨h9.1, h9.2.imp id ?_⟩
          rintro ⟨g, cap3, cur, q1, q2, q3⟩
          exact ⟨g, cap3, cur, q1, Nat.le_trans HA.out.2.2.1 q2, q3⟩
end Go.Proofs.YthhhglfcacoejaaGreatDoor

/- law9's SameText, SameCue, Identical: a document and its twin are the same. -/
namespace Go.Proofs.YthhhglfcacoejaaGreatDoor
open Go.RowKit Go.Shelf
attribute [local go_sem] Oper.semAt_some

theorem sp_underI : Tryz.prog.underlying 138 = some (.struct (Tryz.prog.fieldsOf 138)) := by kernel_rfl
theorem sp_heldI : Tryz.prog.stoodInHeld 138 = false := by kernel_rfl
theorem sp_guardI : Tryz.prog.eqGuardType Tryz.prog.depth 138 = false := by kernel_rfl
theorem sp_fieldsI : (Tryz.prog.fieldsOf 138).toList.map (fun f => (f.name, f.type, f.offset)) = [("From", 3, 0), ("To", 3, 1), ("Kind", 3, 2), ("Value", 3, 3)] := by kernel_rfl
set_option maxRecDepth 100000 in
theorem sp_sameI (a b c d : Int) (w : World) : (Op.equalIn 10000 138 (.agg #[.int .i64 a, .int .i64 b, .int .i64 c, .int .i64 d]) (.agg #[.int .i64 a, .int .i64 b, .int .i64 c, .int .i64 d])).run Tryz.prog w = .ok true w := by
  rw [run_equalIn_agg _ _ _ _ _ sp_underI sp_heldI]
  have hf := sp_fieldsI
  match h : (Tryz.prog.fieldsOf 138).toList, hf with
  | [f0, f1, f2, f3], hf =>
    clear h
    simp only [List.map_cons, List.map_nil, List.cons.injEq, Prod.mk.injEq, and_true] at hf
    obtain ⟨⟨n0, t0, o0⟩, ⟨n1, t1, o1⟩, ⟨n2, t2, o2⟩, ⟨n3, t3, o3⟩⟩ := hf
    have u3 : Tryz.prog.underlying 3 = some (.int .i64) := Tryz.underlying3
    simp [Op.eqFields, n0, n1, n2, n3, t0, t1, t2, t3, o0, o1, o2, o3, go_sem, u3]
  | [], hf => simp at hf
  | [_], hf => simp at hf
  | [_, _], hf => simp at hf
  | [_, _, _], hf => simp at hf
  | _ :: _ :: _ :: _ :: _ :: _, hf => simp at hf
theorem sp_neqI (a b c d : Int) (w : World) : (binOp .neq 138 (.agg #[.int .i64 a, .int .i64 b, .int .i64 c, .int .i64 d]) (.agg #[.int .i64 a, .int .i64 b, .int .i64 c, .int .i64 d])).run Tryz.prog w = .ok (.bool false) w := by
  rw [run_neq_struct, sp_sameI]; rfl
theorem sp_eqlI (a b c d : Int) (w : World) : (binOp .eql 138 (.agg #[.int .i64 a, .int .i64 b, .int .i64 c, .int .i64 d]) (.agg #[.int .i64 a, .int .i64 b, .int .i64 c, .int .i64 d])).run Tryz.prog w = .ok (.bool true) w := by
  rw [run_eql_struct, sp_sameI]; rfl
theorem rt_guardI : Tryz.prog.eqGuardType Tryz.prog.depth 26 = false := by kernel_rfl
theorem rt_underI : Tryz.prog.underlying 26 = some (.struct (Tryz.prog.fieldsOf 26)) := by kernel_rfl
theorem rt_heldI : Tryz.prog.stoodInHeld 26 = false := by kernel_rfl
theorem rt_fieldsI : (Tryz.prog.fieldsOf 26).toList.map (fun f => (f.name, f.type, f.offset)) = [("N", 2, 0), ("D", 2, 1)] := by kernel_rfl
set_option maxRecDepth 100000 in
theorem rt_sameI (a b : Int) (w : World) : (Op.equalIn 10000 26 (.agg #[.int .i64 a, .int .i64 b]) (.agg #[.int .i64 a, .int .i64 b])).run Tryz.prog w = .ok true w := by
  rw [run_equalIn_agg _ _ _ _ _ rt_underI rt_heldI]
  have hf := rt_fieldsI
  match h : (Tryz.prog.fieldsOf 26).toList, hf with
  | [f0, f1], hf =>
    clear h
    simp only [List.map_cons, List.map_nil, List.cons.injEq, Prod.mk.injEq, and_true] at hf
    obtain ⟨⟨n0, t0, o0⟩, ⟨n1, t1, o1⟩⟩ := hf
    have u3 : Tryz.prog.underlying 2 = some (.int .i64) := Tryz.underlying2
    simp [Op.eqFields, n0, n1, t0, t1, o0, o1, go_sem, u3]
  | [], hf => simp at hf
  | [_], hf => simp at hf
  | _ :: _ :: _ :: _, hf => simp at hf
theorem rt_eqlI (a b : Int) (w : World) : (binOp .eql 26 (.agg #[.int .i64 a, .int .i64 b]) (.agg #[.int .i64 a, .int .i64 b])).run Tryz.prog w = .ok (.bool true) w := by
  rw [run_eql_struct, rt_sameI]; rfl

theorem rt_neqI (a b : Int) (w : World) : (binOp .neq 26 (.agg #[.int .i64 a, .int .i64 b]) (.agg #[.int .i64 a, .int .i64 b])).run Tryz.prog w = .ok (.bool false) w := by
  rw [run_neq_struct, rt_sameI]; rfl

set_option maxRecDepth 100000 in
set_option maxHeartbeats 2000000 in
theorem sametext9 (s : ByteArray) (D : List Sp) (o1 o2 : Option Addr) (c1 c2 : Nat) (hl : D.length ≤ 4398046510976) (w : World) (hR1 : SpO w o1 D) (hR2 : SpO w o2 D) :
    Calls Tryz.prog 52 #[.agg #[.string s, .slice o1 D.length c1], .agg #[.string s, .slice o2 D.length c2]] w fun e w' => e = .returned (.bool true) ∧ Below w.heap.size w w' := by
  obtain ⟨N, hN⟩ : ∃ N, D.length = N := ⟨_, rfl⟩
  have HN := hideC (And.intro hN (And.intro hR1 hR2))
  rw [hN] at hl ⊢
  clear hN hR1 hR2
  have hgd := sp_guardI
  have hne := sp_neqI
  go_enter Tryz.func52, Tryz.ntmps52
  go_wp2_with fail
  obtain ⟨V, hV⟩ : ∃ V, (w.alloc (.cells #[.string s, .slice o1 N c1] 52)).alloc (.cells #[.string s, .slice o2 N c2] 52) = V := ⟨_, rfl⟩
  have HV : Hid (Below w.heap.size w V ∧ V.cell? ⟨w.heap.size, 1, none⟩ = some (.slice o1 N c1) ∧ V.cell? ⟨w.heap.size + 1, 1, none⟩ = some (.slice o2 N c2) ∧ w.heap.size + 1 < V.heap.size) := hideC (by
    rw [← hV]
    refine ⟨((Below.refl _ w).alloc (Nat.le_refl _) _).alloc (by simp) _, ?_, ?_, by simp⟩
    · rw [World.cell?, (Below.heap_alloc _ _ _ (by simp)).trans (World.alloc_heap_new w _)]
      rfl
    · have h := World.alloc_heap_new (w.alloc (.cells #[.string s, .slice o1 N c1] 52)) (.cells #[.string s, .slice o2 N c2] 52)
      rw [World.size_alloc] at h
      rw [World.cell?, h]
      rfl)
  rw [hV]
  clear hV
  go_loopw [5] (fun iv wq => ∃ i : Nat, iv = .int .i64 (i : Nat) ∧ i ≤ N ∧ Below V.heap.size V wq) (fun iv _ => N - (intOf iv).toNat)
  case atStart => exact ⟨0, rfl, Nat.zero_le _, Below.refl _ _⟩
  case round =>
    obtain ⟨i, rfl, hiN, hb⟩ := hrel
    obtain ⟨wq, rfl⟩ : ∃ wq, wq = wr := ⟨_, rfl⟩
    have t1 : wq.cell? ⟨w.heap.size, 1, none⟩ = some (.slice o1 N c1) := (hb.cell (p := ⟨w.heap.size, 1, none⟩) (by show w.heap.size < _; have := HV.out.2.2.2; omega)).trans HV.out.2.1
    have t2 : wq.cell? ⟨w.heap.size + 1, 1, none⟩ = some (.slice o2 N c2) := (hb.cell (p := ⟨w.heap.size + 1, 1, none⟩) HV.out.2.2.2).trans HV.out.2.2.1
    have bw := bup HV.out.1 hb
    by_cases hlt : i < N
    · obtain ⟨x, hx⟩ : ∃ x, D[i]? = some x := ⟨_, List.getElem?_eq_getElem (by rw [HN.out.1]; exact hlt)⟩
      obtain ⟨a, rfl, _, k0, k1, k2, k3⟩ := HN.out.2.1.keep bw i x hx
      obtain ⟨b, rfl, _, e0, e1, e2, e3⟩ := HN.out.2.2.keep bw i x hx
      have d1 : (i : Int) < (N : Int) := by omega
      have wi : IntKind.i64.wrap ((i : Int) + 1) = ((i + 1 : Nat) : Int) := by rw [show ((i + 1 : Nat) : Int) = (i : Int) + 1 by omega]; exact IntWalk.i64_in _ ⟨by omega, by omega⟩
      have HB := hideC hb
      clear hb hx bw
      go_wp2_with fail
      go_quiet (fail)
      go_wp2_with fail
      go_roundw
      case rel => exact ⟨i + 1, by first | rfl | simp, by omega, below_dnF HB.out nq⟩
      case measure => simp [intOf]; omega
    · have d1 : ¬ (i : Int) < (N : Int) := by omega
      have HB := hideC bw
      clear hb bw
      go_wp2_with fail
      go_ret
      exact ⟨rfl, HB.out⟩

set_option maxRecDepth 100000 in
set_option maxHeartbeats 2000000 in
theorem samecue9 (x y : Cu) (D : List Sp) (he : (x.a = y.a ∧ x.b = y.b ∧ x.c = y.c ∧ x.d = y.d) ∧ (x.la = y.la ∧ x.sd = y.sd) ∧ x.nm = y.nm ∧ x.s = y.s ∧ x.n = y.n) (hl : D.length = x.n ∧ D.length ≤ 4398046510976) (w : World) (hR1 : SpO w x.o D) (hR2 : SpO w y.o D) :
    Calls Tryz.prog 27 #[.agg x.cells, .agg y.cells] w fun e w' => e = .returned (.bool true) ∧ Below w.heap.size w w' := by
  have HT := hideC (fun (W : World) (b : Below w.heap.size w W) => sametext9 x.s D x.o y.o x.k y.k hl.2 W (hR1.keep b) (hR2.keep b))
  rw [hl.1] at HT
  clear hl hR1 hR2
  obtain ⟨a, b, c, d, la, sd, nm, s, o, n, k⟩ := x
  obtain ⟨a', b', c', d', la', sd', nm', s', o', n', k'⟩ := y
  simp only at he HT
  obtain ⟨⟨rfl, rfl, rfl, rfl⟩, ⟨rfl, rfl⟩, rfl, rfl, rfl⟩ := he
  unfold Cu.cells
  simp only
  have hgd := rt_guardI
  have hne := rt_eqlI
  go_enter Tryz.func27, Tryz.ntmps27
  go_wp2_with (first | rw [hne])
  refine (HT.out _ (((Below.refl _ w).alloc (Nat.le_refl _) _).alloc (by simp) _)).mono ?_
  rintro e w1 ⟨rfl, b1⟩
  go_wp2_with fail
  go_ret
  exact ⟨by first | rfl | simp, bup (((Below.refl _ w).alloc (Nat.le_refl _) _).alloc (by simp) _) b1⟩

set_option maxRecDepth 100000 in
set_option maxHeartbeats 2000000 in
theorem identical9 (L M : List Cu) (o1 o2 : Option Addr) (c1 c2 : Nat) (hlen : L.length = M.length) (hl : L.length ≤ 1000000) (w : World) (hR1 : CuO w o1 M) (hR2 : CuO w o2 L)
    (hE : ∀ (i : Nat) (x y : Cu), L[i]? = some x → M[i]? = some y → ((y.a = x.a ∧ y.b = x.b ∧ y.c = x.c ∧ y.d = x.d) ∧ (y.la = x.la ∧ y.sd = x.sd) ∧ y.nm = x.nm ∧ y.s = x.s ∧ y.n = x.n) ∧ ∃ D : List Sp, (D.length = y.n ∧ D.length ≤ 4398046510976) ∧ SpO w y.o D ∧ SpO w x.o D) :
    Calls Tryz.prog 13 #[.agg #[.slice o1 M.length c1], .agg #[.slice o2 L.length c2]] w fun e w' => e = .returned (.bool true) ∧ Below w.heap.size w w' := by
  obtain ⟨N, hN⟩ : ∃ N, L.length = N := ⟨_, rfl⟩
  rw [← hlen]
  have HN := hideC (And.intro hN (And.intro (hlen.symm.trans hN) (And.intro hR1 (And.intro hR2 hE))))
  rw [hN] at hl ⊢
  clear hN hR1 hR2 hE hlen
  go_enter Tryz.func13, Tryz.ntmps13
  go_wp2_with fail
  obtain ⟨V, hV⟩ : ∃ V, (w.alloc (.cells #[.slice o1 N c1] 24)).alloc (.cells #[.slice o2 N c2] 24) = V := ⟨_, rfl⟩
  have HV : Hid (Below w.heap.size w V ∧ V.cell? ⟨w.heap.size, 0, none⟩ = some (.slice o1 N c1) ∧ V.cell? ⟨w.heap.size + 1, 0, none⟩ = some (.slice o2 N c2) ∧ w.heap.size + 1 < V.heap.size) := hideC (by
    rw [← hV]
    refine ⟨((Below.refl _ w).alloc (Nat.le_refl _) _).alloc (by simp) _, ?_, ?_, by simp⟩
    · rw [World.cell?, (Below.heap_alloc _ _ _ (by simp)).trans (World.alloc_heap_new w _)]
      rfl
    · have h := World.alloc_heap_new (w.alloc (.cells #[.slice o1 N c1] 24)) (.cells #[.slice o2 N c2] 24)
      rw [World.size_alloc] at h
      rw [World.cell?, h]
      rfl)
  rw [hV]
  clear hV
  go_loopw [5] (fun iv wq => ∃ i : Nat, iv = .int .i64 (i : Nat) ∧ i ≤ N ∧ Below V.heap.size V wq) (fun iv _ => N - (intOf iv).toNat)
  case atStart => exact ⟨0, rfl, Nat.zero_le _, Below.refl _ _⟩
  case round =>
    obtain ⟨i, rfl, hiN, hb⟩ := hrel
    obtain ⟨wq, rfl⟩ : ∃ wq, wq = wr := ⟨_, rfl⟩
    have t1 : wq.cell? ⟨w.heap.size, 0, none⟩ = some (.slice o1 N c1) := (hb.cell (p := ⟨w.heap.size, 0, none⟩) (by show w.heap.size < _; have := HV.out.2.2.2; omega)).trans HV.out.2.1
    have t2 : wq.cell? ⟨w.heap.size + 1, 0, none⟩ = some (.slice o2 N c2) := (hb.cell (p := ⟨w.heap.size + 1, 0, none⟩) HV.out.2.2.2).trans HV.out.2.2.1
    have bw := bup HV.out.1 hb
    by_cases hlt : i < N
    · obtain ⟨x, hx⟩ : ∃ x, L[i]? = some x := ⟨_, List.getElem?_eq_getElem (by rw [HN.out.1]; exact hlt)⟩
      obtain ⟨y, hy⟩ : ∃ y, M[i]? = some y := ⟨_, List.getElem?_eq_getElem (by rw [HN.out.2.1]; exact hlt)⟩
      obtain ⟨hee, D, hD, hD1, hD2⟩ := HN.out.2.2.2.2 i x y hx hy
      obtain ⟨a, rfl, hab, ⟨k0, k1, k2, k3⟩, ⟨k4, k5⟩, ⟨k6, k7, k8⟩⟩ := HN.out.2.2.1.keep bw i y hy
      obtain ⟨b, rfl, hbb, ⟨e0, e1, e2, e3⟩, ⟨e4, e5⟩, ⟨e6, e7, e8⟩⟩ := HN.out.2.2.2.1.keep bw i x hx
      have d1 : (i : Int) < (N : Int) := by omega
      have wi : IntKind.i64.wrap ((i : Int) + 1) = ((i + 1 : Nat) : Int) := by rw [show ((i + 1 : Nat) : Int) = (i : Int) + 1 by omega]; exact IntWalk.i64_in _ ⟨by omega, by omega⟩
      have HC := hideC (fun (W : World) (bb : Below wq.heap.size wq W) => samecue9 y x D hee hD W (hD1.keep (bup bw bb)) (hD2.keep (bup bw bb)))
      unfold Cu.cells at HC
      have hz1 : w.heap.size < wq.heap.size ∧ w.heap.size + 1 < wq.heap.size := ⟨by have := HV.out.2.2.2; have := hb.size; omega, by have := HV.out.2.2.2; have := hb.size; omega⟩
      have hz2 : (a.add (i * 9)).block < wq.heap.size ∧ (b.add (i * 9)).block < wq.heap.size := ⟨by rw [addrK_block]; exact hab, by rw [addrK_block]; exact hbb⟩
      have HB := hideC (And.intro hb (And.intro hz1 hz2))
      have G1 : ∀ q : GrownQ wq, q.V.cell? ⟨w.heap.size, 0, none⟩ = some (.slice (some a) N c1) := fun q => (q.h.cell (p := ⟨w.heap.size, 0, none⟩) hz1.1).trans t1
      have G2 : ∀ q : GrownQ wq, q.V.cell? ⟨w.heap.size + 1, 0, none⟩ = some (.slice (some b) N c2) := fun q => (q.h.cell (p := ⟨w.heap.size + 1, 0, none⟩) hz1.2).trans t2
      have A0 : ∀ q : GrownQ wq, q.V.cell? (a.add (i * 9)) = some (.int .i64 y.a) := fun q => (q.h.cell hz2.1).trans k0
      have A1 : ∀ q : GrownQ wq, q.V.cell? ⟨(a.add (i * 9)).block, (a.add (i * 9)).off + 1, none⟩ = some (.int .i64 y.b) := fun q => (q.h.cell (p := ⟨(a.add (i * 9)).block, _, none⟩) hz2.1).trans k1
      have A2 : ∀ q : GrownQ wq, q.V.cell? ⟨(a.add (i * 9)).block, (a.add (i * 9)).off + 2, none⟩ = some (.int .i64 y.c) := fun q => (q.h.cell (p := ⟨(a.add (i * 9)).block, _, none⟩) hz2.1).trans k2
      have A3 : ∀ q : GrownQ wq, q.V.cell? ⟨(a.add (i * 9)).block, (a.add (i * 9)).off + 3, none⟩ = some (.int .i64 y.d) := fun q => (q.h.cell (p := ⟨(a.add (i * 9)).block, _, none⟩) hz2.1).trans k3
      have A4 : ∀ q : GrownQ wq, q.V.cell? ⟨(a.add (i * 9)).block, (a.add (i * 9)).off + 4, none⟩ = some (.int .i64 y.la) := fun q => (q.h.cell (p := ⟨(a.add (i * 9)).block, _, none⟩) hz2.1).trans k4
      have A5 : ∀ q : GrownQ wq, q.V.cell? ⟨(a.add (i * 9)).block, (a.add (i * 9)).off + 5, none⟩ = some (.int .i64 y.sd) := fun q => (q.h.cell (p := ⟨(a.add (i * 9)).block, _, none⟩) hz2.1).trans k5
      have A6 : ∀ q : GrownQ wq, q.V.cell? ⟨(a.add (i * 9)).block, (a.add (i * 9)).off + 6, none⟩ = some (.string y.nm) := fun q => (q.h.cell (p := ⟨(a.add (i * 9)).block, _, none⟩) hz2.1).trans k6
      have A7 : ∀ q : GrownQ wq, q.V.cell? ⟨(a.add (i * 9)).block, (a.add (i * 9)).off + 7, none⟩ = some (.string y.s) := fun q => (q.h.cell (p := ⟨(a.add (i * 9)).block, _, none⟩) hz2.1).trans k7
      have A8 : ∀ q : GrownQ wq, q.V.cell? ⟨(a.add (i * 9)).block, (a.add (i * 9)).off + 8, none⟩ = some (.slice y.o y.n y.k) := fun q => (q.h.cell (p := ⟨(a.add (i * 9)).block, _, none⟩) hz2.1).trans k8
      have B0 : ∀ q : GrownQ wq, q.V.cell? (b.add (i * 9)) = some (.int .i64 x.a) := fun q => (q.h.cell hz2.2).trans e0
      have B1 : ∀ q : GrownQ wq, q.V.cell? ⟨(b.add (i * 9)).block, (b.add (i * 9)).off + 1, none⟩ = some (.int .i64 x.b) := fun q => (q.h.cell (p := ⟨(b.add (i * 9)).block, _, none⟩) hz2.2).trans e1
      have B2 : ∀ q : GrownQ wq, q.V.cell? ⟨(b.add (i * 9)).block, (b.add (i * 9)).off + 2, none⟩ = some (.int .i64 x.c) := fun q => (q.h.cell (p := ⟨(b.add (i * 9)).block, _, none⟩) hz2.2).trans e2
      have B3 : ∀ q : GrownQ wq, q.V.cell? ⟨(b.add (i * 9)).block, (b.add (i * 9)).off + 3, none⟩ = some (.int .i64 x.d) := fun q => (q.h.cell (p := ⟨(b.add (i * 9)).block, _, none⟩) hz2.2).trans e3
      have B4 : ∀ q : GrownQ wq, q.V.cell? ⟨(b.add (i * 9)).block, (b.add (i * 9)).off + 4, none⟩ = some (.int .i64 x.la) := fun q => (q.h.cell (p := ⟨(b.add (i * 9)).block, _, none⟩) hz2.2).trans e4
      have B5 : ∀ q : GrownQ wq, q.V.cell? ⟨(b.add (i * 9)).block, (b.add (i * 9)).off + 5, none⟩ = some (.int .i64 x.sd) := fun q => (q.h.cell (p := ⟨(b.add (i * 9)).block, _, none⟩) hz2.2).trans e5
      have B6 : ∀ q : GrownQ wq, q.V.cell? ⟨(b.add (i * 9)).block, (b.add (i * 9)).off + 6, none⟩ = some (.string x.nm) := fun q => (q.h.cell (p := ⟨(b.add (i * 9)).block, _, none⟩) hz2.2).trans e6
      have B7 : ∀ q : GrownQ wq, q.V.cell? ⟨(b.add (i * 9)).block, (b.add (i * 9)).off + 7, none⟩ = some (.string x.s) := fun q => (q.h.cell (p := ⟨(b.add (i * 9)).block, _, none⟩) hz2.2).trans e7
      have B8 : ∀ q : GrownQ wq, q.V.cell? ⟨(b.add (i * 9)).block, (b.add (i * 9)).off + 8, none⟩ = some (.slice x.o x.n x.k) := fun q => (q.h.cell (p := ⟨(b.add (i * 9)).block, _, none⟩) hz2.2).trans e8
      clear k0 k1 k2 k3 k4 k5 k6 k7 k8 e0 e1 e2 e3 e4 e5 e6 e7 e8 hee hD hD1 hD2 hx hy hb bw hab hbb
      go_upto_region 6 with fail
      refine region_grown wq wq (by kernel_rfl) (by kernel_rfl) (Below.refl _ _) ?_
      repeat (go_big_quiet_step (first
        | (go_at_call 27; rename_i q; (with_reducible refine (HC.out _ q.h).mono ?_); rintro e V1 ⟨rfl, h1⟩; exact ⟨rfl, ⟨V1, q.h.trans (h1.mono q.h.size)⟩, rfl⟩)))
      refine wpQuiet_nil ?_
      rintro W9 ⟨⟨V9, hb9⟩, hv9⟩
      have hv9 : W9 = V9 := hv9
      subst hv9
      have HB9 := hideC (bup HB.out.1 hb9)
      clear hv9 hb9 G1 G2 A0 A1 A2 A3 A4 A5 A6 A7 A8 B0 B1 B2 B3 B4 B5 B6 B7 B8
      go_wp2_with fail
      go_roundw
      case rel => exact ⟨i + 1, by first | rfl | simp, by omega, HB9.out⟩
      case measure => simp [intOf]; omega
    · have d1 : ¬ (i : Int) < (N : Int) := by omega
      have HB := hideC bw
      clear hb bw
      go_wp2_with fail
      go_ret
      exact ⟨rfl, HB.out⟩
end Go.Proofs.YthhhglfcacoejaaGreatDoor

/- law11's wrongly: an error that CheckDoc told, held against what the reference's CheckDoc told. -/
namespace Go.Proofs.YthhhglfcacoejaaGreatDoor
open Go.RowKit Go.Shelf

set_option maxRecDepth 100000 in
set_option maxHeartbeats 400000 in
theorem wrongly11_none (w : World) : Calls Tryz.prog 11 #[.nilIface, .agg #[.int .i64 0, .int .i64 0]] w fun e w' => e = .returned (.bool true) ∧ Below w.heap.size w w' := by
  go_enter Tryz.func11, Tryz.ntmps11
  go_wp2
  go_ret
  exact ⟨rfl, bel1 _ _⟩

set_option maxRecDepth 100000 in
set_option maxHeartbeats 2000000 in
theorem wrongly11_some (g : Nat) (i k : Int) (w : World) (hk : ¬ k = 0) (hg : w.heap[g]? = some (.cells #[.int .i64 i, .int .i64 k] 81))
    (hG : w.cell? ⟨0, 0, none⟩ = some (rty 34)) :
    Calls Tryz.prog 11 #[.iface 77 (.pointer (some ⟨g, 0, none⟩)), .agg #[.int .i64 i, .int .i64 k]] w fun e w' => e = .returned (.bool true) ∧ Below w.heap.size w w' := by
  have hgl : g < w.heap.size := (Array.getElem?_eq_some_iff.1 hg).1
  have hgG : 0 < w.heap.size := by
    rcases Nat.lt_or_ge 0 w.heap.size with h | h
    · exact h
    · simp [World.cell?, Array.getElem?_eq_none h] at hG
  go_enter Tryz.func11, Tryz.ntmps11
  go_wp2_with fail
  obtain ⟨V, hV⟩ : ∃ V, ((w.alloc (.cells #[.int .i64 i, .int .i64 k] 41)).alloc (.cells #[.pointer none] 77)) = V := ⟨_, rfl⟩
  have HV : Hid (Below w.heap.size w V ∧ V.heap.size = w.heap.size + 1 + 1 ∧ V.heap[w.heap.size]? = some (.cells #[.int .i64 i, .int .i64 k] 41) ∧ V.cell? ⟨w.heap.size + 1, 0, none⟩ = some (.pointer none) ∧ V.frozen? ⟨w.heap.size + 1, 0, none⟩ = false) := hideC (by
    rw [← hV]
    refine ⟨((Below.refl _ w).alloc (Nat.le_refl _) _).alloc (by simp) _, by rw [World.size_alloc, World.size_alloc], (Below.heap_alloc _ _ _ (by simp)).trans (World.alloc_heap_new w _), ?_, ?_⟩
    all_goals simp)
  rw [hV]
  clear hV
  refine (as_any ⟨w.heap.size + 1, 0, none⟩ g (.pointer none) V ((HV.out.1.cell (p := ⟨0, 0, none⟩) hgG).trans hG) HV.out.2.2.2.1 HV.out.2.2.2.2).mono ?_
  rintro e w1 ⟨rfl, V1, b1, rfl⟩
  obtain ⟨W, hW⟩ : ∃ W, V1.setCell ⟨w.heap.size + 1, 0, none⟩ (.pointer (some ⟨g, 0, none⟩)) = W := ⟨_, rfl⟩
  have HW : Hid (Below w.heap.size w W ∧ W.heap[w.heap.size]? = some (.cells #[.int .i64 i, .int .i64 k] 41) ∧ W.cell? ⟨w.heap.size + 1, 0, none⟩ = some (.pointer (some ⟨g, 0, none⟩)) ∧ W.heap[g]? = some (.cells #[.int .i64 i, .int .i64 k] 81) ∧ w.heap.size + 1 < W.heap.size) := hideC (by
    have hz := b1.size
    have h2 := HV.out.2.1
    have hbw : Below w.heap.size w W := by rw [← hW]; exact (bup HV.out.1 b1).setCell (by simp) _
    refine ⟨hbw, ?_, ?_, (hbw.block g hgl).trans hg, ?_⟩
    · rw [← hW]
      exact (Below.heap_setCell _ _ _ _ (by simp)).trans ((b1.block _ (by omega)).trans HV.out.2.2.1)
    · rw [← hW]
      exact World.cell?_setCell_same _ _ _ ((b1.cell (p := ⟨w.heap.size + 1, 0, none⟩) (by show w.heap.size + 1 < _; omega)).trans HV.out.2.2.2.1)
    · rw [← hW]
      show _ < (V1.heap.modify _ _).size
      rw [Array.size_modify]
      omega)
  rw [hW]
  clear hW b1 hg hG
  have c0 : W.cell? ⟨w.heap.size, 0, none⟩ = some (.int .i64 i) := by simp [World.cell?, HW.out.2.1]
  have c1 : W.cell? ⟨w.heap.size, 1, none⟩ = some (.int .i64 k) := by simp [World.cell?, HW.out.2.1]
  have cx := HW.out.2.2.1
  have g0 : W.cell? ⟨g, 0, none⟩ = some (.int .i64 i) := by simp [World.cell?, HW.out.2.2.2.1]
  have g1 : W.cell? ⟨g, 1, none⟩ = some (.int .i64 k) := by simp [World.cell?, HW.out.2.2.2.1]
  go_wp2_with fail
  go_quiet (first | (go_at_call 26; refine Calls.quiet_of_same (is_wrongE g i k _ HW.out.2.2.2.1)))
  go_wp2_with fail
  go_ret
  exact ⟨by first | rfl | simp, below_dnF HW.out.1 nq⟩

end Go.Proofs.YthhhglfcacoejaaGreatDoor

/- law11's same; SpeedLooks walked. -/
namespace Go.Proofs.YthhhglfcacoejaaGreatDoor
open Go.RowKit Go.Shelf
attribute [local go_sem] Oper.semAt_some

set_option maxRecDepth 100000 in
set_option maxHeartbeats 2000000 in
theorem same11_any (M : List (Nat × Rt)) (o1 o2 : Option Addr) (c1 c2 : Nat) (hl : M.length ≤ 1000000) (w : World) (hR1 : FaO w o1 M) (hR2 : FaO w o2 M) :
    Calls Tryz.prog 12 #[.slice o1 M.length c1, .slice o2 M.length c2] w fun e w' => e = .returned (.bool true) ∧ Below w.heap.size w w' := by
  obtain ⟨N, hN⟩ : ∃ N, M.length = N := ⟨_, rfl⟩
  have HN := hideC (And.intro hN (And.intro hR1 hR2))
  rw [hN] at hl ⊢
  clear hN hR1 hR2
  have hgd := rt_guardI
  have hne := rt_neqI
  go_enter Tryz.func12, Tryz.ntmps12
  go_wp2_with fail
  go_loopw [5] (fun iv wq => ∃ i : Nat, iv = .int .i64 (i : Nat) ∧ i ≤ N ∧ Below w.heap.size w wq) (fun iv _ => N - (intOf iv).toNat)
  case atStart => exact ⟨0, rfl, Nat.zero_le _, Below.refl _ _⟩
  case round =>
    obtain ⟨i, rfl, hiN, hb⟩ := hrel
    obtain ⟨wq, rfl⟩ : ∃ wq, wq = wr := ⟨_, rfl⟩
    by_cases hlt : i < N
    · obtain ⟨x, hx⟩ : ∃ x, M[i]? = some x := ⟨_, List.getElem?_eq_getElem (by rw [HN.out.1]; exact hlt)⟩
      obtain ⟨a, rfl, _, k0, k1, k2⟩ := HN.out.2.1.keep hb i x hx
      obtain ⟨b, rfl, _, e0, e1, e2⟩ := HN.out.2.2.keep hb i x hx
      have d1 : (i : Int) < (N : Int) := by omega
      have wi : IntKind.i64.wrap ((i : Int) + 1) = ((i + 1 : Nat) : Int) := by rw [show ((i + 1 : Nat) : Int) = (i : Int) + 1 by omega]; exact IntWalk.i64_in _ ⟨by omega, by omega⟩
      have z4 : ((x.1 : Int) != (x.1 : Int)) = false := by simp
      have HB := hideC hb
      clear hb hx
      obtain ⟨x1, x2⟩ := x
      simp only at k0 k1 k2 e0 e1 e2 z4
      go_upto_region 6 with fail
      go_quiet (fail)
      go_wp2_with fail
      go_roundw
      case rel => exact ⟨i + 1, by first | rfl | simp, by omega, below_dnF HB.out nq⟩
      case measure => simp [intOf]; omega
    · have d1 : ¬ (i : Int) < (N : Int) := by omega
      have HB := hideC hb
      clear hb
      go_wp2_with fail
      go_ret
      exact ⟨rfl, HB.out⟩
theorem TwR.lack {W W2 : World} {x y : Cu} (h : TwR W W2 x y) (S L : Rt) : lackA S L x = lackA S L y := by
  obtain ⟨⟨h1, h2, h3, h4⟩, _, _, h8, _⟩ := h
  unfold lackA
  rw [h1, h2, h3, h4, h8]
theorem fastG_tw {W W2 : World} (S L : Rt) : ∀ (Q M : List Cu) (k : Nat), Q.length = M.length → (∀ (j : Nat) (x y : Cu), Q[j]? = some x → M[j]? = some y → TwR W W2 x y) → fastG S L k Q = fastG S L k M
  | [], [], _, _, _ => rfl
  | [], _ :: _, _, h, _ => by simp at h
  | _ :: _, [], _, h, _ => by simp at h
  | x :: Q, y :: M, k, h, hr => by
    have e : ∀ (z : Cu) (t : List Cu), fastG S L k (z :: t) = if 0 < (lackA S L z).1.N then (k, (lackA S L z).1) :: fastG S L (k + 1) t else fastG S L (k + 1) t := fun _ _ => rfl
    rw [e, e, (hr 0 x y rfl rfl).lack S L, fastG_tw S L Q M (k + 1) (by simpa using h) (fun j a b ha hb => hr (j + 1) a b (by simpa using ha) (by simpa using hb))]
theorem lookR_tw {W W2 : World} (S L G : Rt) {Q M : List Cu} (hl : Q.length = M.length) (h : ∀ (j : Nat) (x y : Cu), Q[j]? = some x → M[j]? = some y → TwR W W2 x y) : lookR (spW W) S L G Q = lookR (spW W2) S L G M := by
  unfold lookR
  rw [docC_tw hl h, badC_tw _ _ Q M 0 hl (fun j x y hx hy => by rw [(h j x y hx hy).lack S L])]
end Go.Proofs.YthhhglfcacoejaaGreatDoor

/- SpeedLooks walked. -/
namespace Go.Proofs.YthhhglfcacoejaaGreatDoor
open Go.RowKit Go.Shelf

/-- What lies in memory: the document, the rules, as they were handed in. -/
def LkS (w : World) (oa : Option Addr) (N cap : Nat) (S L G : Rt) (W : World) : Prop := Below w.heap.size w W ∧ w.heap.size + 1 < W.heap.size ∧ W.cell? ⟨w.heap.size, 0, none⟩ = some (.slice oa N cap) ∧ SixC W (w.heap.size + 1) 28 S.N S.D L.N L.D G.N G.D
theorem LkS.keep {w W V : World} {oa : Option Addr} {N cap : Nat} {S L G : Rt} (h : LkS w oa N cap S L G W) (b : Below W.heap.size W V) : LkS w oa N cap S L G V :=
  ⟨bup h.1 b, Nat.lt_of_lt_of_le h.2.1 b.size, (b.cell (p := ⟨w.heap.size, 0, none⟩) (by show w.heap.size < _; have := h.2.1; omega)).trans h.2.2.1, h.2.2.2.keep b⟩
theorem lookR_ne {sp : Cu → List Sp} {S L G : Rt} {Q : List Cu} {i : Nat} {k : Int} (h : lookR sp S L G Q = some (i, k)) : ¬ k = 0 := by
  unfold lookR at h
  split at h
  · rename_i h1
    cases h
    exact docC_ne h1
  · split at h
    · exact badC_neL _ Q 0 _ h
    · cases h
      omega
/-- What the reference's Look told, read. -/
def LrF (W : World) (r : Option (Nat × Int)) (M : List (Nat × Rt)) (v : Value) : Prop := (r = none → ∃ o c, v = .slice o M.length c ∧ FaO W o M) ∧ (¬ r = none → v = .slice none 0 0)
theorem LrF.keep {W W2 : World} {r : Option (Nat × Int)} {M : List (Nat × Rt)} {v : Value} (h : LrF W r M v) (b : Below W.heap.size W W2) : LrF W2 r M v :=
  ⟨fun e => by
    obtain ⟨o, c, h1, h2⟩ := h.1 e
    exact ⟨o, c, h1, h2.keep b⟩, h.2⟩
theorem lrv_read {wL W : World} {r : Option (Nat × Int)} {M : List (Nat × Rt)} {v : Value} (h : LrV wL W r M v) : LrF W r M v :=
  ⟨fun e => by
    obtain ⟨o, c, h1, _, h2⟩ := fao_own (h.1 e) rfl
    exact ⟨o, c, h1, h2⟩, h.2⟩
theorem lrv_set {wL W : World} {r : Option (Nat × Int)} {M : List (Nat × Rt)} {v a b : Value} {B : Nat} (h : LrV wL W r M v) (hB : B < wL.heap.size) : LrF ((W.setCell ⟨B, 0, none⟩ a).setCell ⟨B, 1, none⟩ b) r M v :=
  ⟨fun e => by
    have h9 := own_butE (h.1 e) (((But.refl (fun k => k = B) W).setCell (p := ⟨B, 0, none⟩) rfl a).setCell (p := ⟨B, 1, none⟩) rfl b) (fun k hk e => by have := ((h.1 (by assumption)).lt k hk).1; omega)
    obtain ⟨o, c, h1, _, h2⟩ := fao_own h9 rfl
    exact ⟨o, c, h1, h2⟩, h.2⟩
theorem LkS.set {w W : World} {oa : Option Addr} {N cap B : Nat} {S L G : Rt} {a b : Value} (h : LkS w oa N cap S L G W) (hB : w.heap.size + 1 < B) : LkS w oa N cap S L G ((W.setCell ⟨B, 0, none⟩ a).setCell ⟨B, 1, none⟩ b) := by
  have hb : But (fun k => k = B) W ((W.setCell ⟨B, 0, none⟩ a).setCell ⟨B, 1, none⟩ b) := ((But.refl (fun k => k = B) W).setCell (p := ⟨B, 0, none⟩) rfl a).setCell (p := ⟨B, 1, none⟩) rfl b
  have hz := h.2.1
  exact ⟨(h.1.setCell (by simp; omega) _).setCell (by simp; omega) _, Nat.lt_of_lt_of_le hz hb.size, (World.cell?_of_block (hb.same w.heap.size (by omega) (by omega))).trans h.2.2.1, (hb.same (w.heap.size + 1) hz (by omega)).trans h.2.2.2⟩

set_option maxRecDepth 100000 in
set_option maxHeartbeats 4000000 in
theorem looks_walk (S L G : Rt) (Q : List Cu) (oa : Option Addr) (cap : Nat) (hc : Q.length ≤ cap ∧ cap ≤ maxLen) (hS : RtIn S) (hL : RtIn L) (hG : RtIn G) (T : Nat) (w : World) (hT : Tabs T w) (hR : CuO w oa Q) (hQ : ∀ x ∈ Q, CuQ w x) (hG0 : w.cell? ⟨0, 0, none⟩ = some (rty 34)) :
    Calls Tryz.prog 3 #[.agg #[.slice oa Q.length cap], .agg #[.int .i64 S.N, .int .i64 S.D, .int .i64 L.N, .int .i64 L.D, .int .i64 G.N, .int .i64 G.D]] w fun e w' => e = .returned (.bool true) ∧ Below w.heap.size w w' := by
  have hGl : 0 < w.heap.size := by
    rcases Nat.lt_or_ge 0 w.heap.size with h | h
    · exact h
    · simp [World.cell?, Array.getElem?_eq_none h] at hG0
  have HG := hideC (And.intro hG0 hGl)
  have HF := hideC (fun (W : World) (b : Below w.heap.size w W) => few_any Q oa cap hc W (hR.keep b))
  have HKn := hideC (fun (W : World) (b : Below w.heap.size w W) => known11 T W (hT.below b))
  have HTw := hideC (fun (hn : Q.length ≤ 1000000) (W : World) (b : Below w.heap.size w W) => twin_any Q oa cap hc hn W (hR.keep b) (fun x hx => (hQ x hx).keep b))
  have HLk := hideC (fun (M : List Cu) (oM : Option Addr) (cM : Nat) (hcM : M.length ≤ cM ∧ cM ≤ maxLen) (hn : M.length ≤ 1000000) (sp : Cu → List Sp) (W : World) (b : Below w.heap.size w W) (hRM : CuO W oM M) (hPM : ∀ y ∈ M, CuP W sp y) => look11_any sp S L G M oM cM hcM hn hS hL hG T W (hT.below b) hRM hPM)
  have HRk := hideC (fun (hn : Q.length ≤ 1000000) (sp : Cu → List Sp) (W : World) (b : Below w.heap.size w W) (hPM : ∀ y ∈ Q, CuP W sp y) => rlook11_any sp S L G Q oa cap hc hn hS hL hG W (hR.keep b) hPM)
  have HLa : Hid (∀ W, Calls Tryz.prog 8 #[.agg #[.int .i64 S.N, .int .i64 S.D, .int .i64 L.N, .int .i64 L.D, .int .i64 G.N, .int .i64 G.D]] W fun e w' => e = .returned (.agg #[.int .i64 S.N, .int .i64 S.D, .int .i64 L.N, .int .i64 L.D, .int .i64 G.N, .int .i64 G.D]) ∧ Below W.heap.size W w') := hideC (fun W => as11 S.N S.D L.N L.D G.N G.D W)
  have HLb : Hid (∀ W, Calls Tryz.prog 10 #[.agg #[.int .i64 S.N, .int .i64 S.D, .int .i64 L.N, .int .i64 L.D, .int .i64 G.N, .int .i64 G.D]] W fun e w' => e = .returned (.agg #[.int .i64 S.N, .int .i64 S.D, .int .i64 L.N, .int .i64 L.D, .int .i64 G.N, .int .i64 G.D]) ∧ Below W.heap.size W w') := hideC (fun W => by11 S.N S.D L.N L.D G.N G.D W)
  have HQ := hideC (And.intro hQ hR)
  obtain ⟨N, hN⟩ : ∃ N, Q.length = N := ⟨_, rfl⟩
  have HN := hideC hN
  rw [hN] at HF HTw HRk hc ⊢
  clear hN hS hL hG hT hR hQ hG0 hGl
  go_enter Tryz.func3, Tryz.ntmps3
  go_wp2_with fail
  obtain ⟨V, hV⟩ : ∃ V, (w.alloc (.cells #[.slice oa N cap] 24)).alloc (.cells #[.int .i64 S.N, .int .i64 S.D, .int .i64 L.N, .int .i64 L.D, .int .i64 G.N, .int .i64 G.D] 28) = V := ⟨_, rfl⟩
  have HV : Hid (LkS w oa N cap S L G V) := hideC (by
    rw [← hV]
    have h0 := World.alloc_heap_new w (.cells #[.slice oa N cap] 24)
    have h1 := World.alloc_heap_new (w.alloc (.cells #[.slice oa N cap] 24)) (.cells #[.int .i64 S.N, .int .i64 S.D, .int .i64 L.N, .int .i64 L.D, .int .i64 G.N, .int .i64 G.D] 28)
    rw [World.size_alloc] at h1
    refine ⟨bup (bel1 _ _) (bel1 _ _), by rw [World.size_alloc, World.size_alloc]; omega, ?_, h1⟩
    rw [World.cell?, (Below.heap_alloc _ _ _ (by rw [World.size_alloc]; omega)).trans h0]
    rfl)
  rw [hV]
  clear hV
  refine (HKn.out V HV.out.1).mono ?_
  rintro e w1 ⟨rfl, b1⟩
  have H1 := hideC (HV.out.keep b1)
  have c1 := H1.out.2.2.1
  clear b1 HKn HV
  go_wp2_with fail
  refine (HF.out w1 H1.out.1).mono ?_
  rintro e w2 ⟨⟨bb, rfl, hbb⟩, b2⟩
  have H2 := hideC (H1.out.keep b2)
  have c2 := H2.out.2.2.1
  clear b2 c1 HF H1
  cases bb with
  | false =>
    go_wp2_with fail
    go_ret
    exact ⟨rfl, H2.out.1⟩
  | true =>
    have hN3 := hbb rfl
    clear hbb
    go_wp2_with fail
    refine (HTw.out (by omega) w2 H2.out.1).mono ?_
    rintro e w3 ⟨M, v, rfl, hML, hown, hI, b3⟩
    obtain ⟨oM, cM, rfl, hcM, hnM, hcu, _⟩ := cuo_ownC hown hML
    have hRR : lookR (spW w2) S L G Q = lookR (spW w3) S L G M := lookR_tw S L G (HN.out.trans hML.symm) hI.1
    have hFF : fastG S L 0 Q = fastG S L 0 M := fastG_tw S L Q M 0 (HN.out.trans hML.symm) hI.1
    have hQM : ∀ y ∈ M, CuQ w3 y := fun y hy => by
      obtain ⟨j, hj⟩ := List.getElem?_of_mem hy
      obtain ⟨x, hx⟩ : ∃ x, Q[j]? = some x := ⟨_, List.getElem?_eq_getElem (by rw [HN.out, ← hML]; exact (List.getElem?_eq_some_iff.1 hj).1)⟩
      exact (hI.1 j x y hx hj).2.2.2.2.2.2
    have HTW := hideC (And.intro hML (And.intro hI.1 (And.intro hRR (And.intro hFF (And.intro hQM (And.intro hcu b3))))))
    have hlF := fastG_len S L Q 0
    rw [HN.out] at hlF
    clear hown hI hRR hFF hQM hcu b3 hnM hML
    go_upto_region 6 with fail
    obtain ⟨V3, hV3⟩ : ∃ V3, w3.alloc (.cells #[.slice oM N cM] 24) = V3 := ⟨_, rfl⟩
    have H3 : Hid (LkS w oa N cap S L G V3 ∧ V3.cell? ⟨w3.heap.size, 0, none⟩ = some (.slice oM N cM) ∧ Below w3.heap.size w3 V3 ∧ w3.heap.size < V3.heap.size) := hideC (by
      rw [← hV3]
      exact ⟨(H2.out.keep HTW.out.2.2.2.2.2.2).keep (bel1 _ _), by simp, bel1 _ _, by simp⟩)
    rw [hV3]
    clear hV3 c2
    have cM0 := H3.out.2.1
    have ⟨s0, s1, s2, s3, s4, s5⟩ := H3.out.1.2.2.2.cells
    have HL1 : Hid (∀ W, Below V3.heap.size V3 W → Calls Tryz.prog 7 #[.agg #[.slice oM N cM], .agg #[.int .i64 S.N, .int .i64 S.D, .int .i64 L.N, .int .i64 L.D, .int .i64 G.N, .int .i64 G.D]] W fun e w' => ∃ v er, e = .returned (.tuple #[v, er]) ∧ LkV W w' (lookR (spW w2) S L G Q) (fastG S L 0 Q) v er ∧ Below W.heap.size W w') := hideC (fun W b => by
      have h := HLk.out M oM cM (by rw [HTW.out.1]; exact hcM) (by rw [HTW.out.1]; omega) (spW w3) W (bup H3.out.1.1 b) (HTW.out.2.2.2.2.2.1.keep (bup H3.out.2.2.1 b)) (fun y hy => ((HTW.out.2.2.2.2.1 y hy).p).keep (bup H3.out.2.2.1 b))
      rw [HTW.out.1, ← HTW.out.2.2.1, ← HTW.out.2.2.2.1] at h
      exact h)
    clear HLk
    have HRr : Hid (∀ W, Below V3.heap.size V3 W → Calls Tryz.prog 9 #[.agg #[.slice oa N cap], .agg #[.int .i64 S.N, .int .i64 S.D, .int .i64 L.N, .int .i64 L.D, .int .i64 G.N, .int .i64 G.D]] W fun e w' => ∃ v, e = .returned (.tuple #[v, .agg #[.int .i64 (docP (lookR (spW w2) S L G Q)).1, .int .i64 (docP (lookR (spW w2) S L G Q)).2]]) ∧ LrV W w' (lookR (spW w2) S L G Q) (fastG S L 0 Q) v ∧ Below W.heap.size W w') := hideC (fun W b => HRk.out (by omega) (spW w2) W (bup H3.out.1.1 b) (fun x hx => (((HQ.out.1 x hx).keep H2.out.1).p).keep (bup HTW.out.2.2.2.2.2.2 (bup H3.out.2.2.1 b))))
    clear HRk
    have HRn : Hid (∀ i k, lookR (spW w2) S L G Q = some (i, k) → ¬ k = 0) := hideC (fun i k h => lookR_ne h)
    generalize lookR (spW w2) S L G Q = RR at *
    generalize fastG S L 0 Q = A at *
    go_cut [6, 7] (fun v er wx => ∃ wb, LkV wb wx RR A v er ∧ Below V3.heap.size V3 wb ∧ Below wb.heap.size wb wx)
    case first =>
      go_region_held3 (fun w' => w'.cell? ⟨w3.heap.size, 0, none⟩ = some (.slice oM N cM) ∧ w'.cell? ⟨w.heap.size + 1, 0, none⟩ = some (.int .i64 S.N) ∧ w'.cell? ⟨w.heap.size + 1, 1, none⟩ = some (.int .i64 S.D) ∧ w'.cell? ⟨w.heap.size + 1, 2, none⟩ = some (.int .i64 L.N) ∧ w'.cell? ⟨w.heap.size + 1, 3, none⟩ = some (.int .i64 L.D) ∧ w'.cell? ⟨w.heap.size + 1, 4, none⟩ = some (.int .i64 G.N) ∧ w'.cell? ⟨w.heap.size + 1, 5, none⟩ = some (.int .i64 G.D)) (first | go_keep | assumption | exact k5 | exact k6) (first
        | (go_at_call 8; (with_reducible refine (HLa.out _).mono ?_); rintro e w5 ⟨rfl, b5⟩; have b5 : Below V3.heap.size V3 w5 := (by first | exact ⟨b5.os, b5.tape, b5.output, b5.size, b5.block⟩ | exact b5); have k5 := And.intro ((b5.cell (p := ⟨w3.heap.size, 0, none⟩) H3.out.2.2.2).trans H3.out.2.1) (H3.out.1.keep b5).2.2.2.cells; have HL2 := hideC (HL1.out w5 b5))
        | (go_at_call 7; (with_reducible refine HL2.out.mono ?_); rintro e w6 ⟨v6, er6, rfl, hk6, b6⟩; have k6 := And.intro (((bup b5 b6).cell (p := ⟨w3.heap.size, 0, none⟩) H3.out.2.2.2).trans H3.out.2.1) (H3.out.1.keep (bup b5 b6)).2.2.2.cells))
      all_goals
        go_wp2_with fail
        go_meet
        case rel => exact ⟨w5, hk6, b5, b6⟩
    case rest =>
      obtain ⟨wb, hk, bA, bB⟩ := hcut
      obtain ⟨X, rfl⟩ : ∃ X, X = wc := ⟨_, rfl⟩
      have H4 : Hid (LkS w oa N cap S L G X ∧ X.cell? ⟨w3.heap.size, 0, none⟩ = some (.slice oM N cM) ∧ Below w3.heap.size w3 X ∧ w3.heap.size < X.heap.size ∧ Below V3.heap.size V3 X) := hideC ⟨H3.out.1.keep (bup bA bB), ((bup bA bB).cell (p := ⟨w3.heap.size, 0, none⟩) H3.out.2.2.2).trans H3.out.2.1, bup H3.out.2.2.1 (bup bA bB), Nat.lt_of_lt_of_le H3.out.2.2.2 (bup bA bB).size, bup bA bB⟩
      have HKa := hideC (And.intro hk bB)
      clear hk bA bB cM0 s0 s1 s2 s3 s4 s5 HL1
      have c0 := H4.out.1.2.2.1
      have ⟨s0, s1, s2, s3, s4, s5⟩ := H4.out.1.2.2.2.cells
      have zz : w.heap.size + 1 < X.heap.size := H4.out.1.2.1
      have HR1 : Hid (∀ W, Below X.heap.size X W → Calls Tryz.prog 9 #[.agg #[.slice oa N cap], .agg #[.int .i64 S.N, .int .i64 S.D, .int .i64 L.N, .int .i64 L.D, .int .i64 G.N, .int .i64 G.D]] W fun e w' => ∃ v, e = .returned (.tuple #[v, .agg #[.int .i64 (docP RR).1, .int .i64 (docP RR).2]]) ∧ LrV W w' RR A v ∧ Below W.heap.size W w') := hideC (fun W b => HRr.out W (bup H4.out.2.2.2.2 b))
      clear HRr
      go_upto_region 7 with fail
      go_cut [8, 9] (fun v p wx => ∃ r, p = .pointer (some ⟨r, 0, none⟩) ∧ LkS w oa N cap S L G wx ∧ Two wx r (.int .i64 (docP RR).1) (.int .i64 (docP RR).2) ∧ X.heap.size ≤ r ∧ LrF wx RR A v ∧ Below X.heap.size X wx)
      case first =>
        go_region_held3 (fun w' => w'.cell? ⟨w.heap.size, 0, none⟩ = some (.slice oa N cap) ∧ w'.cell? ⟨w.heap.size + 1, 0, none⟩ = some (.int .i64 S.N) ∧ w'.cell? ⟨w.heap.size + 1, 1, none⟩ = some (.int .i64 S.D) ∧ w'.cell? ⟨w.heap.size + 1, 2, none⟩ = some (.int .i64 L.N) ∧ w'.cell? ⟨w.heap.size + 1, 3, none⟩ = some (.int .i64 L.D) ∧ w'.cell? ⟨w.heap.size + 1, 4, none⟩ = some (.int .i64 G.N) ∧ w'.cell? ⟨w.heap.size + 1, 5, none⟩ = some (.int .i64 G.D)) (first | go_keep | assumption | exact ⟨cell_two_setD (by omega) (by first | assumption | (rw [cell_old_allocD (by simp; omega)]; assumption)), cell_two_setD (by omega) (by first | assumption | (rw [cell_old_allocD (by simp; omega)]; assumption)), cell_two_setD (by omega) (by first | assumption | (rw [cell_old_allocD (by simp; omega)]; assumption)), cell_two_setD (by omega) (by first | assumption | (rw [cell_old_allocD (by simp; omega)]; assumption)), cell_two_setD (by omega) (by first | assumption | (rw [cell_old_allocD (by simp; omega)]; assumption)), cell_two_setD (by omega) (by first | assumption | (rw [cell_old_allocD (by simp; omega)]; assumption)), cell_two_setD (by omega) (by first | assumption | (rw [cell_old_allocD (by simp; omega)]; assumption))⟩) (first
          | (go_at_call 9; (with_reducible refine (HR1.out _ (by first | exact b4 | exact bup b4 (bel1 _ _))).mono ?_); rintro e w5 ⟨v5, rfl, hl5, b5⟩; (first | (have F5 := hideC (F4.out.keep b5); have ⟨h0, h1, h2, h3⟩ := F5.out.cellsD; have B5 := hideC (bup b4 b5); have Z5 := hideC hl5) | (have F5 := hideC ((Two.new w4 (.int .i64 0) (.int .i64 0) 41).keep b5); have ⟨h0, h1, h2, h3⟩ := F5.out.cellsD; have B5 := hideC (bup b4 (bup (bel1 w4 _) b5)); have Z5 := hideC hl5) | (have B5 := hideC (bup b4 b5); have Z5 := hideC hl5)); have k5 := And.intro (H4.out.1.keep B5.out).2.2.1 (H4.out.1.keep B5.out).2.2.2.cells; have ⟨y0, d0, d1, d2, d3, d4, d5⟩ := k5; have zz5 : X.heap.size ≤ w5.heap.size := B5.out.size)
          | (go_at_call 10; (with_reducible refine Calls.mono (HLb.out _) ?_); rintro e w4 ⟨rfl, b4⟩; (first
              | (have b4 := Below.drew_of b4; have K4 := hideC (H4.out.1.keep b4))
              | (have F4 : Hid (Two w4 X.heap.size (.int .i64 0) (.int .i64 0)) := hideC ((Two.new X.drew (.int .i64 0) (.int .i64 0) 41).keep b4); have ⟨g0, g1, g2, g3⟩ := F4.out.cellsD; have b4 := bup (bup (Below.refl _ X).drew (bel1 X.drew _)) b4; have K4 := hideC (H4.out.1.keep b4))
              | (have F4 : Hid (Two w4 X.heap.size (.int .i64 0) (.int .i64 0)) := hideC ((Two.new X (.int .i64 0) (.int .i64 0) 41).drew.keep b4); have ⟨g0, g1, g2, g3⟩ := F4.out.cellsD; have b4 := bup (bel1 X _).drew b4; have K4 := hideC (H4.out.1.keep b4))); have ⟨z0, f0, f1, f2, f3, f4, f5⟩ := And.intro K4.out.2.2.1 K4.out.2.2.2.cells; have zz4 : X.heap.size ≤ w4.heap.size := b4.size))
        all_goals first | go_wp2_with fail | skip
        all_goals go_meet
        · exact ⟨_, rfl, (H4.out.1.keep B5.out).keep (bel1 _ _), Two.new w5 _ _ _, zz5, (lrv_read Z5.out).keep (bel1 _ _), bup B5.out (bel1 _ _)⟩
        · exact ⟨_, rfl, (H4.out.1.keep B5.out).set (by omega), F5.out.set, zz4, lrv_set Z5.out (by rw [World.size_alloc]; omega), (B5.out.setCell (by simp; omega) _).setCell (by simp; omega) _⟩
        · exact ⟨_, rfl, (H4.out.1.keep B5.out).set (by omega), F5.out.set, Nat.le_refl _, lrv_set Z5.out F4.out.1, (B5.out.setCell (by simp) _).setCell (by simp) _⟩
      case rest =>
        obtain ⟨r, rfl, hLk, hTw, hrX, hLr, hbX⟩ := hcut
        obtain ⟨Y, rfl⟩ : ∃ Y, Y = wc := ⟨_, rfl⟩
        have H5 : Hid (LkS w oa N cap S L G Y ∧ Y.cell? ⟨w3.heap.size, 0, none⟩ = some (.slice oM N cM) ∧ Below w3.heap.size w3 Y ∧ w3.heap.size < Y.heap.size) := hideC ⟨hLk, (hbX.cell (p := ⟨w3.heap.size, 0, none⟩) H4.out.2.2.2.1).trans H4.out.2.1, bup H4.out.2.2.1 hbX, Nat.lt_of_lt_of_le H4.out.2.2.2.1 hbX.size⟩
        have HId : Hid (∀ W, Below Y.heap.size Y W → Calls Tryz.prog 13 #[.agg #[.slice oM N cM], .agg #[.slice oa N cap]] W fun e w' => e = .returned (.bool true) ∧ Below W.heap.size W w') := hideC (fun W b => by
          have h := identical9 Q M oM oa cM cap (HN.out.trans HTW.out.1.symm) (by rw [HN.out]; omega) W (HTW.out.2.2.2.2.2.1.keep (bup H5.out.2.2.1 b)) (HQ.out.2.keep (bup H5.out.1.1 b)) (fun i x y hx hy => by
            have ht := HTW.out.2.1 i x y hx hy
            have hqx := (HQ.out.1 x (List.mem_of_getElem? hx)).keep H2.out.1
            have hqy := ht.2.2.2.2.2.2
            refine ⟨⟨⟨ht.1.1.symm, ht.1.2.1.symm, ht.1.2.2.1.symm, ht.1.2.2.2.symm⟩, ⟨ht.2.1.1.symm, ht.2.1.2.symm⟩, ht.2.2.1.symm, ht.2.2.2.1.symm, ht.2.2.2.2.1.symm⟩, spW w3 y, ⟨hqy.sp.1, hqy.sp.2.1⟩, hqy.sp.2.2.1.keep (bup H5.out.2.2.1 b), ?_⟩
            rw [← ht.2.2.2.2.2.1]
            exact hqx.sp.2.2.1.keep (bup HTW.out.2.2.2.2.2.2 (bup H5.out.2.2.1 b)))
          rw [HN.out, HTW.out.1] at h
          exact h)
        obtain ⟨_, t0, t1, _, _⟩ := hTw
        cases RR with
        | none =>
          obtain ⟨rfl, ho, _⟩ := HKa.out.1
          obtain ⟨o1, k1, rfl, _, hf1⟩ := fao_own (ho rfl) rfl
          obtain ⟨o2, k2, rfl, hf2⟩ := hLr.1 rfl
          have HSm := hideC (fun (W : World) (b : Below Y.heap.size Y W) => same11_any A o1 o2 k1 k2 (by omega) W (hf1.keep (bup hbX b)) (hf2.keep b))
          have hdp : docP none = (0, 0) := rfl
          rw [hdp] at t0 t1
          generalize A.length = nA at *
          clear ho hf1 hf2 hLr hLk hbX hdp hrX HKa s0 s1 s2 s3 s4 s5 c0
          go_wp2_with fail
          refine (wrongly11_none _).mono ?_
          rintro e x1 ⟨rfl, b1⟩
          clear t0 t1
          go_wp2_with fail
          refine (HSm.out x1 b1).mono ?_
          rintro e x2 ⟨rfl, b2⟩
          have b12 := bup b1 b2
          have q0 : x2.cell? ⟨w3.heap.size, 0, none⟩ = some (.slice oM N cM) := (b12.cell (p := ⟨w3.heap.size, 0, none⟩) H5.out.2.2.2).trans H5.out.2.1
          have q1 : x2.cell? ⟨w.heap.size, 0, none⟩ = some (.slice oa N cap) := (H5.out.1.keep b12).2.2.1
          go_wp2_with fail
          refine (HId.out x2 b12).mono ?_
          rintro e x3 ⟨rfl, b3⟩
          clear q0 q1
          go_wp2_with fail
          go_ret
          exact ⟨by first | rfl | simp, bup H5.out.1.1 (bup b12 b3)⟩
        | some p =>
          obtain ⟨i, k⟩ := p
          have hk9 := HRn.out i k rfl
          obtain ⟨⟨g, rfl, _, hg2⟩, _, hv1⟩ := HKa.out.1
          obtain rfl := hv1 (by simp)
          obtain rfl := hLr.2 (by simp)
          have hgY : Y.heap[g]? = some (.cells #[.int .i64 (i : Int), .int .i64 k] 81) := (hbX.block g (Array.getElem?_eq_some_iff.1 hg2).1).trans hg2
          have HSm := hideC (fun (W : World) => same11_any [] none none 0 0 (by simp) W (fun i p h => by simp at h) (fun i p h => by simp at h))
          have HgY := hideC hgY
          have hdp : docP (some (i, k)) = ((i : Int), k) := rfl
          rw [hdp] at t0 t1
          clear hv1 hg2 hgY hLr hLk hbX hdp hrX HKa s0 s1 s2 s3 s4 s5 c0
          go_wp2_with fail
          refine (wrongly11_some g (i : Int) k _ hk9 HgY.out ((H5.out.1.1.cell (p := ⟨0, 0, none⟩) HG.out.2).trans HG.out.1)).mono ?_
          rintro e x1 ⟨rfl, b1⟩
          clear t0 t1
          go_wp2_with fail
          refine (HSm.out x1).mono ?_
          rintro e x2 ⟨rfl, b2⟩
          have b12 := bup b1 b2
          have q0 : x2.cell? ⟨w3.heap.size, 0, none⟩ = some (.slice oM N cM) := (b12.cell (p := ⟨w3.heap.size, 0, none⟩) H5.out.2.2.2).trans H5.out.2.1
          have q1 : x2.cell? ⟨w.heap.size, 0, none⟩ = some (.slice oa N cap) := (H5.out.1.keep b12).2.2.1
          go_wp2_with fail
          refine (HId.out x2 b12).mono ?_
          rintro e x3 ⟨rfl, b3⟩
          clear q0 q1
          go_wp2_with fail
          go_ret
          exact ⟨by first | rfl | simp, bup H5.out.1.1 (bup b12 b3)⟩
end Go.Proofs.YthhhglfcacoejaaGreatDoor
