/- The walk of surtitlelaw3.RatioNear, the whole. -/
import Derived.Test.YtmofjkfghidlnaaDoorNearA
import Derived.Test.YtmofjkfghidlnaaDoorNearB
import Derived.Test.YtmofjkfghidlnaaDoorNearC
import Derived.Test.YtmofjkfghidlnaaDoorNearD
import Derived.Test.YtmofjkfghidlnaaDoorNearE
import Derived.Test.YtmofjkfghidlnaaDoorNearF
import Derived.Test.YtmofjkfghidlnaaDoorNearG
import Derived.Test.YtmofjkfghidlnaaDoorNearH
import Derived.Test.YtmofjkfghidlnaaDoorNearS
import Derived.Test.YtmofjkfghidlnaaDoorNearM
namespace Go.Proofs.YtmofjkfghidlnaaDoor
open Go.RowKit

set_option maxRecDepth 100000 in
theorem near_diff (lo hi r g near s d u : Rt) (x1 x2 e1 e2 f2 y : Int) (hne : lo ≠ hi) (hlr : lo ≠ r) (hx1 : ¬ 0 < x1) (hx2 : ¬ 0 < x2) (hst : e1 = 0 → s = g) (hnear : (near = lo ∧ (e2 = 0 → f2 = 0 → y < 0)) ∨ (near = hi ∧ (e2 = 0 → f2 = 0 → ¬ y < 0)))
    (H1 : ∀ w, Calls Tryd.prog 43 #[rtv r, rtv g, .int .i64 1] w fun r w' => r = .returned (.tuple #[rtv lo, .int .i64 0]) ∧ Below w.heap.size w w')
    (H2 : ∀ w, Calls Tryd.prog 43 #[rtv r, rtv g, .int .i64 3] w fun r w' => r = .returned (.tuple #[rtv hi, .int .i64 0]) ∧ Below w.heap.size w w')
    (H3 : ∀ w, Calls Tryd.prog 43 #[rtv r, rtv g, .int .i64 2] w fun r w' => r = .returned (.tuple #[rtv near, .int .i64 0]) ∧ Below w.heap.size w w')
    (H4 : ∀ w, Calls Tryd.prog 39 #[rtv lo, rtv r] w fun r w' => r = .returned (.int .i64 x1) ∧ Below w.heap.size w w')
    (H5 : ∀ w, Calls Tryd.prog 39 #[rtv r, rtv hi] w fun r w' => r = .returned (.int .i64 x2) ∧ Below w.heap.size w w')
    (H6 : ∀ w, Calls Tryd.prog 26 #[rtv hi, rtv lo] w fun r w' => r = .returned (.tuple #[rtv s, .int .i64 e1]) ∧ Below w.heap.size w w')
    (H7 : ∀ w, Calls Tryd.prog 26 #[rtv r, rtv lo] w fun r w' => r = .returned (.tuple #[rtv d, .int .i64 e2]) ∧ Below w.heap.size w w')
    (H8 : ∀ w, Calls Tryd.prog 26 #[rtv hi, rtv r] w fun r w' => r = .returned (.tuple #[rtv u, .int .i64 f2]) ∧ Below w.heap.size w w')
    (H9 : e2 = 0 → f2 = 0 → ∀ w, Calls Tryd.prog 39 #[rtv d, rtv u] w fun r w' => r = .returned (.int .i64 y) ∧ Below w.heap.size w w') (w : World) :
    Calls Tryd.prog 13 #[rtv r, rtv g] w fun e w' => e = .returned (.bool true) ∧ Below w.heap.size w w' := by
  obtain ⟨ln, ld⟩ := lo
  obtain ⟨hn, hd⟩ := hi
  obtain ⟨rn, rd⟩ := r
  obtain ⟨gn, gd⟩ := g
  obtain ⟨s1, s2⟩ := s
  obtain ⟨d1, d2⟩ := d
  obtain ⟨u1, u2⟩ := u
  have hst2 : e1 = 0 → s1 = gn ∧ s2 = gd := fun h => by
    have := hst h
    simp only [Rt.mk.injEq] at this
    exact this
  clear hst
  by_cases hN : ln = hn
  · subst hN
    have nd : ¬ ld = hd := fun e => hne (by rw [e])
    by_cases hR : ln = rn
    · subst hR
      have nr : ¬ ld = rd := fun e => hlr (by rw [e])
      rcases hnear with ⟨rfl, hy⟩ | ⟨rfl, hy⟩
      · exact nearG ln ld hd rd gn gd x1 x2 s1 s2 e1 d1 d2 e2 u1 u2 f2 y nd nr hx1 hx2 hst2 hy H1 H2 H3 H4 H5 H6 H7 H8 H9 w
      · exact nearH ln ld hd rd gn gd x1 x2 s1 s2 e1 d1 d2 e2 u1 u2 f2 y nd (fun e => nd e.symm) nr hx1 hx2 hst2 hy H1 H2 H3 H4 H5 H6 H7 H8 H9 w
    · skip
      rcases hnear with ⟨rfl, hy⟩ | ⟨rfl, hy⟩
      · exact nearE ln ld hd rd gn gd rn x1 x2 s1 s2 e1 d1 d2 e2 u1 u2 f2 y nd hR hx1 hx2 hst2 hy H1 H2 H3 H4 H5 H6 H7 H8 H9 w
      · exact nearF ln ld hd rd gn gd rn x1 x2 s1 s2 e1 d1 d2 e2 u1 u2 f2 y nd (fun e => nd e.symm) hR hx1 hx2 hst2 hy H1 H2 H3 H4 H5 H6 H7 H8 H9 w
  · by_cases hR : ln = rn
    · subst hR
      have nr : ¬ ld = rd := fun e => hlr (by rw [e])
      rcases hnear with ⟨rfl, hy⟩ | ⟨rfl, hy⟩
      · exact nearC ln ld hd rd gn gd hn x1 x2 s1 s2 e1 d1 d2 e2 u1 u2 f2 y hN nr hx1 hx2 hst2 hy H1 H2 H3 H4 H5 H6 H7 H8 H9 w
      · exact nearD ln ld hd rd gn gd hn x1 x2 s1 s2 e1 d1 d2 e2 u1 u2 f2 y hN (fun e => hN e.symm) nr hx1 hx2 hst2 hy H1 H2 H3 H4 H5 H6 H7 H8 H9 w
    · skip
      rcases hnear with ⟨rfl, hy⟩ | ⟨rfl, hy⟩
      · exact nearA ln ld hd rd gn gd hn rn x1 x2 s1 s2 e1 d1 d2 e2 u1 u2 f2 y hN hR hx1 hx2 hst2 hy H1 H2 H3 H4 H5 H6 H7 H8 H9 w
      · exact nearB ln ld hd rd gn gd hn rn x1 x2 s1 s2 e1 d1 d2 e2 u1 u2 f2 y hN (fun e => hN e.symm) hR hx1 hx2 hst2 hy H1 H2 H3 H4 H5 H6 H7 H8 H9 w

theorem snap_in (r g : Rt) (how : Int) (h : (snapA r g how).2 = 0) : RtIn (snapA r g how).1 := by
  have := (right_iff _).1 (snapA_ok h).2.2.2.1
  exact ⟨⟨by omega, by omega⟩, ⟨by omega, by omega⟩⟩
theorem subA_in (a b : Rt) (h : (subA a b).2 = 0) (ha : rightB a = true) (hb : rightB b = true) : RtIn (subA a b).1 := by
  rw [subA_right ha hb] at h ⊢
  have := (right_iff _).1 (low_ok_right _ h).1
  exact ⟨⟨by omega, by omega⟩, ⟨by omega, by omega⟩⟩

set_option maxRecDepth 100000 in
theorem near_any (r : Rt) (hr : RtIn r) (g : Rt) (hg : RtIn g) (w : World) :
    Calls Tryd.prog 13 #[rtv r, rtv g] w fun e w' => e = .returned (.bool true) ∧ Below w.heap.size w w' := by
  have K1 := snap_any r hr g hg 1
  have K2 := snap_any r hr g hg 3
  have K3 := snap_any r hr g hg 2
  by_cases ha : (snapA r g 1).2 = 0 ∧ (snapA r g 3).2 = 0 ∧ (snapA r g 2).2 = 0
  · obtain ⟨h1, h3, h2⟩ := ha
    rw [h1] at K1
    rw [h3] at K2
    rw [h2] at K3
    have i1 := snap_in r g 1 h1
    have i3 := snap_in r g 3 h3
    have rr := (snapA_ok h1).1
    have r1 := (snapA_ok h1).2.2.2.1
    have r3 := (snapA_ok h3).2.2.2.1
    rcases near_math r g h1 h3 h2 with ⟨e1, e3, e2, _⟩ | ⟨n1, n2, c1, c2, st, nn⟩
    · rw [e1] at K1
      rw [e3] at K2
      rw [e2] at K3
      have K4 := cmp_any r r hr hr
      rw [cmp_self] at K4
      have es : subA r r = (⟨0, 1⟩, 0) := by
        rw [subA_right rr rr, show valQ r - valQ r = Rat.divInt 0 1 by rw [Rat.sub_self]; rfl]
        rfl
      have K6 := sub_any r r hr hr
      rw [es] at K6
      have K9 := cmp_any ⟨0, 1⟩ ⟨0, 1⟩ (by unfold RtIn I64; simp) (by unfold RtIn I64; simp)
      rw [cmp_self] at K9
      exact nearS r.N r.D g.N g.D 0 1 K1 K2 K3 K4 K6 K9 w
    · exact near_diff _ _ r g _ (subA (snapA r g 3).1 (snapA r g 1).1).1 (subA r (snapA r g 1).1).1 (subA (snapA r g 3).1 r).1 (cmpI (snapA r g 1).1 r) (cmpI r (snapA r g 3).1) (subA (snapA r g 3).1 (snapA r g 1).1).2 (subA r (snapA r g 1).1).2 (subA (snapA r g 3).1 r).2 (cmpI (subA r (snapA r g 1).1).1 (subA (snapA r g 3).1 r).1) n1 n2 c1 c2 st nn K1 K2 K3
        (cmp_any _ r i1 hr) (cmp_any r _ hr i3) (sub_any _ _ i3 i1) (sub_any r _ hr i1) (sub_any _ r i3 hr) (fun a b => cmp_any _ _ (subA_in r _ a rr r1) (subA_in _ r b r3 rr)) w
  · exact nearN r.N r.D g.N g.D (snapA r g 1).1.N (snapA r g 1).1.D (snapA r g 3).1.N (snapA r g 3).1.D (snapA r g 2).1.N (snapA r g 2).1.D (snapA r g 1).2 (snapA r g 3).2 (snapA r g 2).2 ha K1 K2 K3 w
end Go.Proofs.YtmofjkfghidlnaaDoor
