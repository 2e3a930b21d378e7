/- The walk of surtitlelaw3.RatioRings, the whole. -/
import Derived.Test.YtmofjkfghidlnaaDoorRingsA
import Derived.Test.YtmofjkfghidlnaaDoorRingsB
import Derived.Test.YtmofjkfghidlnaaDoorRingsC
import Derived.Test.YtmofjkfghidlnaaDoorRingsD
import Derived.Test.YtmofjkfghidlnaaDoorRingsE
import Derived.Test.YtmofjkfghidlnaaDoorRingsF
namespace Go.Proofs.YtmofjkfghidlnaaDoor
open Go.RowKit
attribute [local go_sem] Oper.semAt_some

theorem low_in (q : Rat) : RtIn (low q).1 := by
  unfold low
  split
  · rename_i h
    have := of_decide_eq_true h
    have := q.den_pos
    unfold RtIn I64
    simp only
    omega
  · unfold RtIn I64
    simp
theorem addA_in (a b : Rt) : RtIn (addA a b).1 := by
  unfold addA
  split
  · exact low_in _
  · unfold RtIn I64 bad; simp
theorem mulA_in (a b : Rt) : RtIn (mulA a b).1 := by
  unfold mulA
  split
  · exact low_in _
  · unfold RtIn I64 bad; simp

set_option maxRecDepth 100000 in
theorem rings_any (a : Rt) (ha : RtIn a) (b : Rt) (hb : RtIn b) (c : Rt) (hc : RtIn c) (w : World) :
    Calls Tryd.prog 11 #[rtv a, rtv b, rtv c] w fun e w' => e = .returned (.bool true) ∧ Below w.heap.size w w' := by
  have K1 := add_any a b ha hb
  have K2 := add_any b a hb ha
  rw [add_comm' b a] at K2
  have K3 := mul_any a b ha hb
  have K4 := mul_any b a hb ha
  rw [mul_comm' b a] at K4
  have K5 : (addA a b).2 = 0 → ∀ w, Calls Tryd.prog 26 #[rtv (addA a b).1, rtv b] w fun r w' => r = .returned (.tuple #[rtv a, .int .i64 0]) ∧ Below w.heap.size w w' := fun h => by
    have := sub_any (addA a b).1 b (addA_in a b) hb
    rw [add_back h] at this
    exact this
  have K6 : (addA a b).2 = 0 → ∀ w, Calls Tryd.prog 21 #[rtv (addA a b).1] w fun r w' => r = .returned (.bool true) ∧ Below w.heap.size w w' := fun h => by
    have := right_any (addA a b).1 (addA_in a b)
    rw [(addA_ok h).2.2.1] at this
    exact this
  have K7 : (mulA a b).2 = 0 → ¬ b.N = 0 → ∀ w, Calls Tryd.prog 32 #[rtv (mulA a b).1, rtv b] w fun r w' => r = .returned (.tuple #[rtv a, .int .i64 0]) ∧ Below w.heap.size w w' := fun h h0 => by
    have := quo_any (mulA a b).1 b (mulA_in a b) hb
    rw [mul_back h h0] at this
    exact this
  have K8 : (mulA a b).2 = 0 → ∀ w, Calls Tryd.prog 21 #[rtv (mulA a b).1] w fun r w' => r = .returned (.bool true) ∧ Below w.heap.size w w' := fun h => by
    have := right_any (mulA a b).1 (mulA_in a b)
    rw [(mulA_ok h).2.2.1] at this
    exact this
  have K9 := add_any b c hb hc
  have K10 := add_any (addA a b).1 c (addA_in a b) hc
  have K11 : (addA a b).2 = 0 → (addA b c).2 = 0 → ∀ w, Calls Tryd.prog 23 #[rtv a, rtv (addA b c).1] w fun r w' => r = .returned (.tuple #[rtv (addA (addA a b).1 c).1, .int .i64 (addA (addA a b).1 c).2]) ∧ Below w.heap.size w w' := fun h k => by
    have := add_any a (addA b c).1 ha (addA_in b c)
    rw [← add_three h k] at this
    exact this
  have K12 := mul_any b c hb hc
  have K13 := mul_any (mulA a b).1 c (mulA_in a b) hc
  have K14 : (mulA a b).2 = 0 → (mulA b c).2 = 0 → ∀ w, Calls Tryd.prog 30 #[rtv a, rtv (mulA b c).1] w fun r w' => r = .returned (.tuple #[rtv (mulA (mulA a b).1 c).1, .int .i64 (mulA (mulA a b).1 c).2]) ∧ Below w.heap.size w w' := fun h k => by
    have := mul_any a (mulA b c).1 ha (mulA_in b c)
    rw [← mul_three h k] at this
    exact this
  have K15 := mul_any a c ha hc
  have K16 := mul_any a (addA b c).1 ha (addA_in b c)
  have K17 : (addA b c).2 = 0 → (mulA a b).2 = 0 → (mulA a c).2 = 0 → ∀ w, Calls Tryd.prog 23 #[rtv (mulA a b).1, rtv (mulA a c).1] w fun r w' => r = .returned (.tuple #[rtv (mulA a (addA b c).1).1, .int .i64 (mulA a (addA b c).1).2]) ∧ Below w.heap.size w w' := fun h k n => by
    have := add_any (mulA a b).1 (mulA a c).1 (mulA_in a b) (mulA_in a c)
    rw [← mul_parts h k n] at this
    exact this
  by_cases he : (addA a b).2 = 0
  · rw [he] at K1 K2
    by_cases hg : (mulA a b).2 = 0
    · rw [hg] at K3 K4
      by_cases hb0 : b.N = 0
      · obtain ⟨bn, bd⟩ := b
        simp only at hb0
        subst hb0
        exact ringsB a.N a.D bd c.N c.D (addA a ⟨0, bd⟩).1.N (addA a ⟨0, bd⟩).1.D (mulA a ⟨0, bd⟩).1.N (mulA a ⟨0, bd⟩).1.D (addA ⟨0, bd⟩ c).1.N (addA ⟨0, bd⟩ c).1.D (mulA ⟨0, bd⟩ c).1.N (mulA ⟨0, bd⟩ c).1.D (mulA a c).1.N (mulA a c).1.D (addA (addA a ⟨0, bd⟩).1 c).1.N (addA (addA a ⟨0, bd⟩).1 c).1.D (mulA (mulA a ⟨0, bd⟩).1 c).1.N (mulA (mulA a ⟨0, bd⟩).1 c).1.D (mulA a (addA ⟨0, bd⟩ c).1).1.N (mulA a (addA ⟨0, bd⟩ c).1).1.D (addA ⟨0, bd⟩ c).2 (mulA ⟨0, bd⟩ c).2 (mulA a c).2 (addA (addA a ⟨0, bd⟩).1 c).2 (mulA (mulA a ⟨0, bd⟩).1 c).2 (mulA a (addA ⟨0, bd⟩ c).1).2 K1 K2 K3 K4 (K5 he) (K6 he) (K8 hg) K9 (fun hk => K10) (fun hk => K11 he hk) K12 (fun hm => K13) (fun hm => K14 hg hm) K15 (fun hk hn => K16) (fun hk hn => K17 hk hg hn) w
      · exact ringsA a.N a.D b.N b.D c.N c.D (addA a b).1.N (addA a b).1.D (mulA a b).1.N (mulA a b).1.D (addA b c).1.N (addA b c).1.D (mulA b c).1.N (mulA b c).1.D (mulA a c).1.N (mulA a c).1.D (addA (addA a b).1 c).1.N (addA (addA a b).1 c).1.D (mulA (mulA a b).1 c).1.N (mulA (mulA a b).1 c).1.D (mulA a (addA b c).1).1.N (mulA a (addA b c).1).1.D (addA b c).2 (mulA b c).2 (mulA a c).2 (addA (addA a b).1 c).2 (mulA (mulA a b).1 c).2 (mulA a (addA b c).1).2 hb0 K1 K2 K3 K4 (K5 he) (K6 he) (K7 hg hb0) (K8 hg) K9 (fun hk => K10) (fun hk => K11 he hk) K12 (fun hm => K13) (fun hm => K14 hg hm) K15 (fun hk hn => K16) (fun hk hn => K17 hk hg hn) w
    · exact ringsC a.N a.D b.N b.D c.N c.D (addA a b).1.N (addA a b).1.D (mulA a b).1.N (mulA a b).1.D (addA b c).1.N (addA b c).1.D (mulA b c).1.N (mulA b c).1.D (mulA a c).1.N (mulA a c).1.D (addA (addA a b).1 c).1.N (addA (addA a b).1 c).1.D (addA b c).2 (mulA b c).2 (mulA a c).2 (addA (addA a b).1 c).2 (mulA a b).2 hg K1 K2 K3 K4 (K5 he) (K6 he) K9 (fun hk => K10) (fun hk => K11 he hk) K12 K15 w
  · by_cases hg : (mulA a b).2 = 0
    · rw [hg] at K3 K4
      by_cases hb0 : b.N = 0
      · obtain ⟨bn, bd⟩ := b
        simp only at hb0
        subst hb0
        exact ringsE a.N a.D bd c.N c.D (addA a ⟨0, bd⟩).1.N (addA a ⟨0, bd⟩).1.D (mulA a ⟨0, bd⟩).1.N (mulA a ⟨0, bd⟩).1.D (addA ⟨0, bd⟩ c).1.N (addA ⟨0, bd⟩ c).1.D (mulA ⟨0, bd⟩ c).1.N (mulA ⟨0, bd⟩ c).1.D (mulA a c).1.N (mulA a c).1.D (mulA (mulA a ⟨0, bd⟩).1 c).1.N (mulA (mulA a ⟨0, bd⟩).1 c).1.D (mulA a (addA ⟨0, bd⟩ c).1).1.N (mulA a (addA ⟨0, bd⟩ c).1).1.D (addA ⟨0, bd⟩ c).2 (mulA ⟨0, bd⟩ c).2 (mulA a c).2 (mulA (mulA a ⟨0, bd⟩).1 c).2 (mulA a (addA ⟨0, bd⟩ c).1).2 (addA a ⟨0, bd⟩).2 he K1 K2 K3 K4 (K8 hg) K9 K12 (fun hm => K13) (fun hm => K14 hg hm) K15 (fun hk hn => K16) (fun hk hn => K17 hk hg hn) w
      · exact ringsD a.N a.D b.N b.D c.N c.D (addA a b).1.N (addA a b).1.D (mulA a b).1.N (mulA a b).1.D (addA b c).1.N (addA b c).1.D (mulA b c).1.N (mulA b c).1.D (mulA a c).1.N (mulA a c).1.D (mulA (mulA a b).1 c).1.N (mulA (mulA a b).1 c).1.D (mulA a (addA b c).1).1.N (mulA a (addA b c).1).1.D (addA b c).2 (mulA b c).2 (mulA a c).2 (mulA (mulA a b).1 c).2 (mulA a (addA b c).1).2 (addA a b).2 he hb0 K1 K2 K3 K4 (K7 hg hb0) (K8 hg) K9 K12 (fun hm => K13) (fun hm => K14 hg hm) K15 (fun hk hn => K16) (fun hk hn => K17 hk hg hn) w
    · exact ringsF a.N a.D b.N b.D c.N c.D (addA a b).1.N (addA a b).1.D (mulA a b).1.N (mulA a b).1.D (addA b c).1.N (addA b c).1.D (mulA b c).1.N (mulA b c).1.D (mulA a c).1.N (mulA a c).1.D (addA b c).2 (mulA b c).2 (mulA a c).2 (addA a b).2 (mulA a b).2 he hg K1 K2 K3 K4 K9 K12 K15 w
end Go.Proofs.YtmofjkfghidlnaaDoor
