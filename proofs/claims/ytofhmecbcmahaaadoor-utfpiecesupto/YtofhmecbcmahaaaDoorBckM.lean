/- Plain facts on places: there and back. -/
import Derived.Test.YtofhmecbcmahaaaDoorCutU1
namespace Go.Proofs.YtofhmecbcmahaaaDoor

theorem unit_get {u : Int} (hu : u = 1 ∨ u = 2 ∨ u = 3) : zeroSpot.get u = 0 := by rcases hu with rfl | rfl | rfl <;> rfl
theorem find_at {s : ByteArray} {q : Spot} (h : q ∈ spotsL s) (u : Int) : findS s u (q.get u) = (q, 0) := by
  unfold findS
  rw [if_neg (by have := first_least s u h; omega)]
  exact findL_mem u (spots_rise s) h
theorem last_mem (s : ByteArray) : lastS s ∈ spotsL s := by rw [lastS_eq]; exact spotAt_mem s _
theorem find_sign (s : ByteArray) (k : Nat) (hk : k ≤ (signs s).length) : findS s 2 k = (spotAt s k, 0) := by
  have := find_at (spotAt_mem s k) 2
  rwa [show (spotAt s k).get 2 = (spotAt s k).c from rfl, spotAt_c s k hk] at this
/-- Within a sign: only where places are not counted by signs. -/
theorem find_within {s : ByteArray} {u loc : Int} (hu : u = 1 ∨ u = 2 ∨ u = 3) (h0 : 0 ≤ loc) (h1 : loc ≤ (lastS s).get u) (h : (findS s u loc).2 ≠ 0) : findS s u loc = (zeroSpot, 21) ∧ u ≠ 2 := by
  have hf : findS s u loc = findL u loc (spotsL s) := if_neg (by omega)
  rcases findL_errs u loc (spotsL s) with e | ⟨e, _⟩ | ⟨e, ha⟩
  · rw [hf] at h; exact absurd e h
  · refine ⟨hf.trans e, ?_⟩
    rintro rfl
    rw [show (lastS s).get 2 = (lastS s).c from rfl, lastS_c] at h1
    have := find_sign s loc.toNat (by omega)
    rw [show (loc.toNat : Int) = loc by omega] at this
    rw [this] at h
    simp at h
  · have := ha _ (last_mem s)
    omega
theorem find_next {s : ByteArray} {u loc : Int} (v : Int) {p q : Spot} {g : Int} (hp : findS s u loc = (p, 0)) (hq : findS s u (loc + 1) = (q, g)) (hg : g = 0) : p.get v < q.get v := by
  subst hg
  obtain ⟨m1, e1⟩ := findS_ok (s := s) (u := u) (loc := loc) (by rw [hp])
  obtain ⟨m2, e2⟩ := findS_ok (s := s) (u := u) (loc := loc + 1) (by rw [hq])
  rw [hp] at m1 e1
  rw [hq] at m2 e2
  exact rise_of_get (spots_rise s) m1 m2 u v (by dsimp only at *; omega)

end Go.Proofs.YtofhmecbcmahaaaDoor
