/- The contract of surtitleref3.Best. -/
import Derived.Test.YtmofjkfghidlnaaDoorRowsR
namespace Go.Proofs.YtmofjkfghidlnaaDoor
open Go.RowKit Go.Shelf
attribute [local go_sem] Oper.semAt_some

set_option maxRecDepth 100000 in
set_option maxHeartbeats 2000000 in
theorem rbest_walk (l : List Rt) (hl : ∀ p ∈ l, RtIn p) (b0 : Rt) (hb0 : l[0]? = some b0) (side : Int) (a : Addr) (cap : Nat) (hc : l.length ≤ cap ∧ cap ≤ maxLen) (w : World) (hR : RowAt l a w) :
    Calls Tryd.prog 37 #[.slice (some a) l.length cap, .int .i64 side] w fun e w' => e = .returned (.tuple #[rtv (bestF side b0 (l.drop 1)), .bool true]) ∧ Below w.heap.size w w' := by
  have hmx : maxLen ≤ 9223372036854775807 := by decide
  have hab : a.block < w.heap.size := hR.1
  obtain ⟨R, eR⟩ : ∃ R, bestF side b0 (l.drop 1) = R := ⟨_, rfl⟩
  rw [eR]
  have ER := hideR eR
  have hn : 0 < l.length := (List.getElem?_eq_some_iff.1 hb0).1
  have hi0 := hideR (hl b0 (List.mem_of_getElem? hb0))
  obtain ⟨e0, e1⟩ := (hR.alloc (.cells #[.int .i64 0, .int .i64 0] 26)).pair hb0
  rw [show a.add (0 * 2) = a from rfl] at e0 e1
  clear eR hb0
  unfold rtv
  have hz : ((l.length : Int) == 0) = false := by rw [beq_eq_false_iff_ne]; omega
  go_enter Tryd.func37, Tryd.ntmps37
  go_wp2_with fail
  go_loopw [7] (fun i wr => ∃ (k : Nat) (b : Rt), i = .int .i64 k ∧ 1 ≤ k ∧ k ≤ l.length ∧ RtIn b ∧ bestF side b (l.drop k) = R ∧ Two wr w.heap.size (.int .i64 0) (.int .i64 0) ∧ Two wr (w.heap.size + 1) (.int .i64 b.N) (.int .i64 b.D) ∧ Below w.heap.size w wr) (fun i _ => l.length - (intOf i).toNat)
  case atStart =>
    refine ⟨1, b0, rfl, by omega, by omega, hi0.out, ER.out, (Two.new w (.int .i64 0) (.int .i64 0) 26).alloc _, ?_, bel2 w _ _⟩
    have := Two.new (w.alloc (.cells #[.int .i64 0, .int .i64 0] 26)) (.int .i64 b0.N) (.int .i64 b0.D) 26
    rwa [show (w.alloc (.cells #[.int .i64 0, .int .i64 0] 26)).heap.size = w.heap.size + 1 by simp] at this
  case round =>
    clear e0 e1
    obtain ⟨k, b, rfl, hk1, hk, hbi, hr, T0, T1, hB⟩ := hrel
    have HR := hideR hr
    clear hr
    have z1 : w.heap.size + 1 < wr.heap.size := T1.1
    by_cases hk2 : k < l.length
    · obtain ⟨p, hp⟩ : ∃ p, l[k]? = some p := ⟨_, List.getElem?_eq_getElem hk2⟩
      have hpi := hl p (List.mem_of_getElem? hp)
      have HC := rcmp_any p b hpi hbi
      have RW := hR.old hB
      have HP := hideR hp
      obtain ⟨s0, s1, d0, d1⟩ := c4 T1 RW hp
      have SC := c4 T1 RW hp
      have HS := hideR (bestF_step hp side b)
      clear hp
      unfold rtv at HC
      have HQ := hideR (show bestF side b (l.drop k) = bestF side (if cmpI p b = side then p else b) (l.drop (k + 1)) from HS.out)
      generalize cmpI p b = c at HC HQ
      have HC := hideR HC
      clear HS
      by_cases he : c = side
      · have HE := hideR (HQ.out.trans (by rw [if_pos he]))
        have hcs : (c == side) = true := by simpa using he
        clear he
        go_wp2_with fail
        go_region_held3 (fun w' => w'.cell? ⟨w.heap.size + 1, 0, none⟩ = some (.int .i64 b.N) ∧ w'.cell? ⟨w.heap.size + 1, 1, none⟩ = some (.int .i64 b.D) ∧ w'.cell? (a.add (k * 2)) = some (.int .i64 p.N) ∧ w'.cell? ⟨(a.add (k * 2)).block, (a.add (k * 2)).off + 1, none⟩ = some (.int .i64 p.D)) (first | assumption | go_keep)
          ((go_at_call 40; refine (HC.out _).mono ?_; rintro e w2 ⟨rfl, b2⟩; have D2 : Below wr.heap.size wr w2 := bup (Below.refl _ _).drew b2; have T02 := T0.keep D2; have T12 := T1.keep D2; have R2 := RW.keep D2; have S2 := c4 T12 R2 HP.out))
        all_goals (
          clear s0 s1 d0 d1
          have T0c := T02.other (S := w.heap.size + 1) (x2 := .int .i64 p.N) (y2 := .int .i64 p.D) (by omega)
          have T1c := T12.set (x2 := .int .i64 p.N) (y2 := .int .i64 p.D)
          have Bc := ((bup hB D2).setCell (p := ⟨w.heap.size + 1, 0, none⟩) (by simp) (.int .i64 p.N)).setCell (p := ⟨w.heap.size + 1, 1, none⟩) (by simp) (.int .i64 p.D)
          obtain ⟨g0, g1, g2, g3⟩ := S2
          obtain ⟨_, _, _, f0, f1⟩ := id T12
          go_wp2_with fail
          refine ⟨⟨k + 1, p, by go_num, by omega, by omega, hpi, HE.out.symm.trans HR.out, T0c, T1c, Bc⟩, ?_⟩
          simp [intOf]
          omega)
      · have HE := hideR (HQ.out.trans (by rw [if_neg he]))
        have hcs : (c == side) = false := by simpa using he
        clear he
        go_wp2_with fail
        go_region_held3 (fun w' => w'.cell? ⟨w.heap.size + 1, 0, none⟩ = some (.int .i64 b.N) ∧ w'.cell? ⟨w.heap.size + 1, 1, none⟩ = some (.int .i64 b.D) ∧ w'.cell? (a.add (k * 2)) = some (.int .i64 p.N) ∧ w'.cell? ⟨(a.add (k * 2)).block, (a.add (k * 2)).off + 1, none⟩ = some (.int .i64 p.D)) (first | assumption | go_keep)
          ((go_at_call 40; refine (HC.out _).mono ?_; rintro e w2 ⟨rfl, b2⟩; have D2 : Below wr.heap.size wr w2 := bup (Below.refl _ _).drew b2; have T02 := T0.keep D2; have T12 := T1.keep D2; have R2 := RW.keep D2; have S2 := c4 T12 R2 HP.out))
        all_goals (
          clear s0 s1 d0 d1
          go_wp2_with fail
          refine ⟨⟨k + 1, b, by go_num, by omega, by omega, hbi, HE.out.symm.trans HR.out, T02, T12, bup hB D2⟩, ?_⟩
          simp [intOf]
          omega)
    · obtain rfl : k = l.length := by omega
      have HE := hideR (bestF_end l side b)
      obtain ⟨_, s0, s1, _, _⟩ := id T1
      obtain ⟨_, n0, n1, n2, n3⟩ := id T0
      go_wp2_with fail
      exact bodyPost_ret (v := .tuple #[.agg #[.int .i64 b.N, .int .i64 b.D], .bool true]) (by simp [results, Tryd.results37, go_sem, n0, n1]) rfl ⟨by rw [← HR.out, HE.out], (hB.setCell (by simp) _).setCell (by simp) _⟩
end Go.Proofs.YtmofjkfghidlnaaDoor
