/- The contract of surtitleref3.Sum. -/
import Derived.Test.YtmofjkfghidlnaaDoorRowsM
import Derived.Deep.RegionHeld3
namespace Go.Proofs.YtmofjkfghidlnaaDoor
open Go.RowKit Go.Shelf
attribute [local go_sem] Oper.semAt_some

theorem RowAt.put {l : List Rt} {a : Addr} {V : World} {S i : Nat} {v : Value} (h : RowAt l a V) (n : S ≠ a.block) : RowAt l a (V.setCell ⟨S, i, none⟩ v) := by
  refine ⟨by simpa using h.1, fun j p hp => ?_⟩
  have ne : ∀ m, (⟨S, i, none⟩ : Addr) ≠ a.add m := fun m e => n ((congrArg Addr.block e).trans (addr_block a m))
  rw [World.cell?_setCell_other _ _ _ _ (ne _), World.cell?_setCell_other _ _ _ _ (ne _)]
  exact h.2 j p hp
theorem RowAt.drew {l : List Rt} {a : Addr} {V : World} (h : RowAt l a V) : RowAt l a V.drew := h
theorem c4 {l : List Rt} {a : Addr} {V : World} {A k : Nat} {x y : Value} {p : Rt} (t : Two V A x y) (h : RowAt l a V) (hp : l[k]? = some p) : V.cell? ⟨A, 0, none⟩ = some x ∧ V.cell? ⟨A, 1, none⟩ = some y ∧ V.cell? (a.add (k * 2)) = some (.int .i64 p.N) ∧ V.cell? ⟨(a.add (k * 2)).block, (a.add (k * 2)).off + 1, none⟩ = some (.int .i64 p.D) := ⟨t.2.1, t.2.2.1, (h.pair hp).1, (h.pair hp).2⟩
theorem two_put {V : World} {R S i : Nat} {x y v : Value} (h : Two V R x y) (n : S ≠ R) : Two (V.setCell ⟨S, i, none⟩ v) R x y := by
  obtain ⟨z, c0, c1, f0, f1⟩ := h
  have n2 : R ≠ S := fun e => n e.symm
  exact ⟨by simpa using z, by go_simp, by go_simp, by go_simp, by go_simp⟩

set_option maxRecDepth 100000 in
set_option maxHeartbeats 2000000 in
theorem rsum_any (l : List Rt) (hl : ∀ p ∈ l, RtIn p) (a : Addr) (cap : Nat) (hc : l.length ≤ cap ∧ cap ≤ maxLen) (w : World) (hR : RowAt l a w) :
    Calls Tryd.prog 35 #[.slice (some a) l.length cap] w fun e w' => e = .returned (.tuple #[rtv (sumA l).1, .int .i64 (sumA l).2]) ∧ Below w.heap.size w w' := by
  have hs0 : sumF ⟨0, 1⟩ (l.drop 0) = sumA l := rfl
  have hmx : maxLen ≤ 9223372036854775807 := by decide
  have hab : a.block < w.heap.size := hR.1
  generalize sumA l = R at *
  unfold rtv
  go_enter Tryd.func35, Tryd.ntmps35
  go_wp2_with fail
  go_loopw [5] (fun i wr => ∃ (k : Nat) (s : Rt), i = .int .i64 k ∧ k ≤ l.length ∧ RtIn s ∧ sumF s (l.drop k) = R ∧ Two wr w.heap.size (.int .i64 0) (.int .i64 0) ∧ Two wr (w.heap.size + 1) (.int .i64 s.N) (.int .i64 s.D) ∧ Below w.heap.size w wr) (fun i _ => l.length - (intOf i).toNat)
  case atStart =>
    refine ⟨0, ⟨0, 1⟩, rfl, Nat.zero_le _, ⟨⟨by simp, by simp⟩, ⟨by simp, by simp⟩⟩, hs0, (Two.new w (.int .i64 0) (.int .i64 0) 26).alloc _, ?_, bel2 w _ _⟩
    have := Two.new (w.alloc (.cells #[.int .i64 0, .int .i64 0] 26)) (.int .i64 0) (.int .i64 1) 26
    rwa [show (w.alloc (.cells #[.int .i64 0, .int .i64 0] 26)).heap.size = w.heap.size + 1 by simp] at this
  case round =>
    obtain ⟨k, s, rfl, hk, hs, hr, T0, T1, hB⟩ := hrel
    have HR := hideR hr
    clear hr hs0
    have z1 : w.heap.size + 1 < wr.heap.size := T1.1
    by_cases hk2 : k < l.length
    · obtain ⟨p, hp⟩ : ∃ p, l[k]? = some p := ⟨_, List.getElem?_eq_getElem hk2⟩
      have HS := hideR (sumF_step hp s)
      have HA := radd_any s p hs (hl p (List.mem_of_getElem? hp))
      have HI := hideR (addA_in s p)
      have RW := hR.old hB
      have HP := hideR hp
      obtain ⟨s0, s1, d0, d1⟩ := c4 T1 RW hp
      have SC := c4 T1 RW hp
      clear hp
      unfold rtv at HA
      have HQ := hideR (show sumF s (l.drop k) = if (addA s p).2 = 0 then sumF (addA s p).1 (l.drop (k + 1)) else (⟨0, 0⟩, (addA s p).2) from HS.out)
      generalize addA s p = q at HA HI HQ
      have HA := hideR HA
      clear HS
      by_cases he : q.2 = 0
      · have HE := hideR (HQ.out.trans (if_pos he))
        go_wp2_with fail
        go_region_held3 (fun w' => w'.cell? ⟨w.heap.size + 1, 0, none⟩ = some (.int .i64 s.N) ∧ w'.cell? ⟨w.heap.size + 1, 1, none⟩ = some (.int .i64 s.D) ∧ w'.cell? (a.add (k * 2)) = some (.int .i64 p.N) ∧ w'.cell? ⟨(a.add (k * 2)).block, (a.add (k * 2)).off + 1, none⟩ = some (.int .i64 p.D)) (first | assumption | exact c4 (T1.drew.alloc _) (RW.drew.alloc _) HP.out | exact c4 (T12.alloc _) (R2.alloc _) HP.out | exact c4 (T12.other (by omega)) ((R2.put (by omega)).put (by omega)) HP.out | go_keep)
          ((go_at_call 24; refine (HA.out _).mono ?_; rintro e w2 ⟨rfl, b2⟩
            first
            | (have D2 : Below wr.heap.size wr w2 := bup (Below.refl _ _).drew b2
               have zD := D2.size
               have T02 := T0.keep D2; have T12 := T1.keep D2; have R2 := RW.keep D2; have S2 := c4 T12 R2 HP.out)
            | (have D2 : Below wr.heap.size wr w2 := bup ((Below.refl _ _).drew.alloc (Nat.le_refl _) _) b2
               have zD := D2.size
               have X2 : Two w2 wr.heap.size (.int .i64 0) (.int .i64 0) := (Two.new wr.drew (.int .i64 0) (.int .i64 0) 26).keep b2
               have T02 := T0.keep D2; have T12 := T1.keep D2; have R2 := RW.keep D2; have S2 := c4 T12 R2 HP.out; obtain ⟨_, x0, x1, x2, x3⟩ := id X2)))
        · have X3 := Two.new w2 (.int .i64 q.1.N) (.int .i64 q.1.D) 26
          have T03 := T02.alloc (.cells #[.int .i64 q.1.N, .int .i64 q.1.D] 26)
          have T13 := T12.alloc (.cells #[.int .i64 q.1.N, .int .i64 q.1.D] 26)
          have B3 := bup (bup hB D2) (bel1 w2 (.cells #[.int .i64 q.1.N, .int .i64 q.1.D] 26))
          have zx : w.heap.size + 1 < w2.heap.size := by omega
          obtain ⟨_, x0, x1, _, _⟩ := id X3
          obtain ⟨_, n0, n1, n2, n3⟩ := id T03
          obtain ⟨_, m0, m1, m2, m3⟩ := id T13
          obtain ⟨_, g0, g1, g2, g3⟩ := id T12
          obtain ⟨_, j0, j1, j2, j3⟩ := id T02
          have T04 := (T02.other (S := w.heap.size + 1) (x2 := .int .i64 q.1.N) (y2 := .int .i64 q.1.D) (by omega)).alloc (.cells #[.int .i64 q.1.N, .int .i64 q.1.D] 26)
          have T14 := (T12.set (x2 := .int .i64 q.1.N) (y2 := .int .i64 q.1.D)).alloc (.cells #[.int .i64 q.1.N, .int .i64 q.1.D] 26)
          have B4 := bup (((bup hB D2).setCell (p := ⟨w.heap.size + 1, 0, none⟩) (by simp) (.int .i64 q.1.N)).setCell (p := ⟨w.heap.size + 1, 1, none⟩) (by simp) (.int .i64 q.1.D)) (bel1 _ (.cells #[.int .i64 q.1.N, .int .i64 q.1.D] 26))
          go_wp2_with fail
          refine ⟨⟨k + 1, q.1, by go_num, by omega, HI.out, HE.out.symm.trans HR.out, T04, T14, B4⟩, ?_⟩
          simp [intOf]
          omega
        · have X3 := X2.set (x2 := .int .i64 q.1.N) (y2 := .int .i64 q.1.D)
          have T03 := T02.other (S := wr.heap.size) (x2 := .int .i64 q.1.N) (y2 := .int .i64 q.1.D) (by omega)
          have T13 := T12.other (S := wr.heap.size) (x2 := .int .i64 q.1.N) (y2 := .int .i64 q.1.D) (by omega)
          have B3 := ((bup hB D2).setCell (p := ⟨wr.heap.size, 0, none⟩) (by simp; omega) (.int .i64 q.1.N)).setCell (p := ⟨wr.heap.size, 1, none⟩) (by simp; omega) (.int .i64 q.1.D)
          have zx : w.heap.size + 1 < wr.heap.size := by omega
          obtain ⟨_, x0, x1, _, _⟩ := id X3
          obtain ⟨_, n0, n1, n2, n3⟩ := id T03
          obtain ⟨_, m0, m1, m2, m3⟩ := id T13
          obtain ⟨_, g0, g1, g2, g3⟩ := id T12
          obtain ⟨_, j0, j1, j2, j3⟩ := id T02
          have T04 := T03.other (S := w.heap.size + 1) (x2 := .int .i64 q.1.N) (y2 := .int .i64 q.1.D) (by omega)
          have T14 := T13.set (x2 := .int .i64 q.1.N) (y2 := .int .i64 q.1.D)
          have B4 := (B3.setCell (p := ⟨w.heap.size + 1, 0, none⟩) (by simp) (.int .i64 q.1.N)).setCell (p := ⟨w.heap.size + 1, 1, none⟩) (by simp) (.int .i64 q.1.D)
          go_wp2_with fail
          refine ⟨⟨k + 1, q.1, by go_num, by omega, HI.out, HE.out.symm.trans HR.out, T04, T14, B4⟩, ?_⟩
          simp [intOf]
          omega
      · have HE := hideR (HQ.out.trans (if_neg he))
        have hne : (q.2 == 0) = false := by simpa using he
        go_wp2_with fail
        go_region_held3 (fun w' => w'.cell? ⟨w.heap.size + 1, 0, none⟩ = some (.int .i64 s.N) ∧ w'.cell? ⟨w.heap.size + 1, 1, none⟩ = some (.int .i64 s.D) ∧ w'.cell? (a.add (k * 2)) = some (.int .i64 p.N) ∧ w'.cell? ⟨(a.add (k * 2)).block, (a.add (k * 2)).off + 1, none⟩ = some (.int .i64 p.D)) (first | assumption | exact c4 (T1.drew.alloc _) (RW.drew.alloc _) HP.out | exact c4 (T12.alloc _) (R2.alloc _) HP.out | exact c4 (T12.other (by omega)) ((R2.put (by omega)).put (by omega)) HP.out | go_keep)
          ((go_at_call 24; refine (HA.out _).mono ?_; rintro e w2 ⟨rfl, b2⟩
            first
            | (have D2 : Below wr.heap.size wr w2 := bup (Below.refl _ _).drew b2
               have zD := D2.size
               have T02 := T0.keep D2; have T12 := T1.keep D2; have R2 := RW.keep D2; have S2 := c4 T12 R2 HP.out)
            | (have D2 : Below wr.heap.size wr w2 := bup ((Below.refl _ _).drew.alloc (Nat.le_refl _) _) b2
               have zD := D2.size
               have X2 : Two w2 wr.heap.size (.int .i64 0) (.int .i64 0) := (Two.new wr.drew (.int .i64 0) (.int .i64 0) 26).keep b2
               have T02 := T0.keep D2; have T12 := T1.keep D2; have R2 := RW.keep D2; have S2 := c4 T12 R2 HP.out; obtain ⟨_, x0, x1, x2, x3⟩ := id X2)))
        · have X3 := Two.new w2 (.int .i64 q.1.N) (.int .i64 q.1.D) 26
          have T03 := T02.alloc (.cells #[.int .i64 q.1.N, .int .i64 q.1.D] 26)
          have T13 := T12.alloc (.cells #[.int .i64 q.1.N, .int .i64 q.1.D] 26)
          have B3 := bup (bup hB D2) (bel1 w2 (.cells #[.int .i64 q.1.N, .int .i64 q.1.D] 26))
          have zx : w.heap.size + 1 < w2.heap.size := by omega
          obtain ⟨_, x0, x1, _, _⟩ := id X3
          obtain ⟨_, n0, n1, n2, n3⟩ := id T03
          obtain ⟨_, m0, m1, m2, m3⟩ := id T13
          obtain ⟨_, g0, g1, g2, g3⟩ := id T12
          obtain ⟨_, j0, j1, j2, j3⟩ := id T02
          have T05 := (T02.set (x2 := .int .i64 0) (y2 := .int .i64 0)).alloc (.cells #[.int .i64 q.1.N, .int .i64 q.1.D] 26)
          obtain ⟨_, o0, o1, _, _⟩ := id T05
          go_wp2_with fail
          exact bodyPost_ret (v := .tuple #[.agg #[.int .i64 0, .int .i64 0], .int .i64 q.2]) (by simp [results, Tryd.results35, go_sem, o0, o1]) rfl ⟨by rw [← HR.out, HE.out], bup (((bup hB D2).setCell (p := ⟨w.heap.size, 0, none⟩) (by simp) (.int .i64 0)).setCell (p := ⟨w.heap.size, 1, none⟩) (by simp) (.int .i64 0)) (bel1 _ (.cells #[.int .i64 q.1.N, .int .i64 q.1.D] 26))⟩
        · have X3 := X2.set (x2 := .int .i64 q.1.N) (y2 := .int .i64 q.1.D)
          have T03 := T02.other (S := wr.heap.size) (x2 := .int .i64 q.1.N) (y2 := .int .i64 q.1.D) (by omega)
          have T13 := T12.other (S := wr.heap.size) (x2 := .int .i64 q.1.N) (y2 := .int .i64 q.1.D) (by omega)
          have B3 := ((bup hB D2).setCell (p := ⟨wr.heap.size, 0, none⟩) (by simp; omega) (.int .i64 q.1.N)).setCell (p := ⟨wr.heap.size, 1, none⟩) (by simp; omega) (.int .i64 q.1.D)
          have zx : w.heap.size + 1 < wr.heap.size := by omega
          obtain ⟨_, x0, x1, _, _⟩ := id X3
          obtain ⟨_, n0, n1, n2, n3⟩ := id T03
          obtain ⟨_, m0, m1, m2, m3⟩ := id T13
          obtain ⟨_, g0, g1, g2, g3⟩ := id T12
          obtain ⟨_, j0, j1, j2, j3⟩ := id T02
          go_wp2_with fail
          exact bodyPost_ret (v := .tuple #[.agg #[.int .i64 0, .int .i64 0], .int .i64 q.2]) (by simp [results, Tryd.results35, go_sem, n0, n1]) rfl ⟨by rw [← HR.out, HE.out], (B3.setCell (by simp) _).setCell (by simp) _⟩
    · obtain rfl : k = l.length := by omega
      have HE := hideR (sumF_end l s)
      obtain ⟨_, s0, s1, _, _⟩ := id T1
      obtain ⟨_, n0, n1, n2, n3⟩ := id T0
      go_wp2_with fail
      exact bodyPost_ret (v := .tuple #[.agg #[.int .i64 s.N, .int .i64 s.D], .int .i64 0]) (by simp [results, Tryd.results35, go_sem, n0, n1]) rfl ⟨by rw [← HR.out, HE.out], (hB.setCell (by simp) _).setCell (by simp) _⟩
end Go.Proofs.YtmofjkfghidlnaaDoor
