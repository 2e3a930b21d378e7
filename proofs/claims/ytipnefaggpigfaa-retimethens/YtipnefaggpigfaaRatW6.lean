/- Contracts of package ratio: lowest terms; New, Right, Add, Sub, Mul, Neg, Cmp. -/
import Derived.Test.YtipnefaggpigfaaRatW5
namespace Go.Proofs.Ytipnefaggpigfaa
open Go.RowKit Go.Shelf
attribute [local go_sem] Oper.semAt_some

theorem low_cases (n d g : Int) (hd : 0 < d) (hg : g = ((n % d).toNat.gcd d.toNat : Nat)) :
    (inNum (n / g) = false → low (Rat.divInt n d) = (⟨0, 0⟩, 12)) ∧ (inNum (n / g) = true → 2147483648 < d / g → low (Rat.divInt n d) = (⟨0, 0⟩, 12)) ∧ (inNum (n / g) = true → d / g ≤ 2147483648 → low (Rat.divInt n d) = (⟨n / g, d / g⟩, 0)) := by
  rw [low_eq n d g hd hg]
  unfold inNum
  refine ⟨fun h => if_neg ?_, fun h k => if_neg ?_, fun h k => if_pos ?_⟩
  · have := of_decide_eq_false h; omega
  · omega
  · have := of_decide_eq_true h; omega
theorem gcd_range (n d : Int) (hd : 0 < d) : 0 < (((n % d).toNat.gcd d.toNat : Nat) : Int) ∧ (((n % d).toNat.gcd d.toNat : Nat) : Int) ≤ d := by
  have h1 : 0 < (n % d).toNat.gcd d.toNat := Nat.gcd_pos_of_pos_right _ (by omega)
  have h2 : (n % d).toNat.gcd d.toNat ≤ d.toNat := Nat.gcd_le_right _ (by omega)
  omega
theorem inNum_wf (k : Int) (h : inNum k = true) : -4611686018427387904 ≤ k ∧ k ≤ 4611686018427387904 := of_decide_eq_true h

set_option maxRecDepth 100000 in
set_option maxHeartbeats 400000 in
theorem lowest_walk (n d g t m q : Int) (r : Rt × Int) (tv : Int) (ok : Bool) (hd0 : 0 ≤ q) (hd1 : q < 18446744073709551616) (hg0 : ¬ g = 0) (htd : d.tdiv g = q)
    (HR : ∀ w, Calls Try.prog 90 #[wv n, .int .u64 d] w fun e w' => e = .returned (.int .u64 m) ∧ Below w.heap.size w w')
    (HM : ∀ w, Calls Try.prog 71 #[.int .u64 m, .int .u64 d] w fun e w' => e = .returned (.int .u64 g) ∧ Below w.heap.size w w')
    (HF : ∀ w, Calls Try.prog 91 #[wv n, .int .u64 g] w fun e w' => e = .returned (wv t) ∧ Below w.heap.size w w')
    (HN : ∀ w, Calls Try.prog 92 #[wv t] w fun e w' => e = .returned (.tuple #[.int .i64 tv, .bool ok]) ∧ Below w.heap.size w w')
    (hres : (ok = false ∧ r = (⟨0, 0⟩, 12)) ∨ (ok = true ∧ 2147483648 < q ∧ r = (⟨0, 0⟩, 12)) ∨ (ok = true ∧ q ≤ 2147483648 ∧ r = (⟨tv, q⟩, 0))) (w : World) :
    Calls Try.prog 74 #[wv n, .int .u64 d] w fun e w' => e = .returned (.tuple #[rtv r.1, .int .i64 r.2]) ∧ Below w.heap.size w w' := by
  have HR := hideR HR
  have HM := hideR HM
  have HF := hideR HF
  have HN := hideR HN
  rcases hres with ⟨rfl, rfl⟩ | ⟨rfl, hq, rfl⟩ | ⟨rfl, hq, rfl⟩
  all_goals (
    simp only [rtv]
    unfold wv
    go_enter Try.func74, Try.ntmps74
    go_wp2_with fail
    go_at_call 90
    refine (HR.out _).mono ?_
    rintro e w1 ⟨rfl, b1⟩
    go_wp2_with fail
    go_at_call 71
    refine (HM.out _).mono ?_
    rintro e w2 ⟨rfl, b2⟩
    have b12 := bup b1 b2
    obtain ⟨hc, hf⟩ := bcell b12
    have hz : w.heap.size + 1 < w2.heap.size := by have := b12.size; simp at this; omega
    clear b1 b2
    go_wp2_with fail
    go_at_call 91
    refine (HF.out _).mono ?_
    rintro e w3 ⟨rfl, b3⟩
    go_wp2_with fail
    go_at_call 92
    refine (HN.out _).mono ?_
    rintro e w4 ⟨rfl, b4⟩
    have BB := bup (bup b12 b3) b4
    clear hc hf hz b12 b3 b4
    obtain ⟨hc, hf⟩ := bcell BB
    have hz : w.heap.size + 1 < w4.heap.size := by have := BB.size; simp at this; omega
    go_wp2_with fail)
  · exact bodyPost_ret (v := .tuple #[.agg #[.int .i64 0, .int .i64 0], .int .i64 12]) (by simp [results, Try.results74, go_sem, hc]) rfl ⟨rfl, ((bup (bel2 _ _ _) BB).setCell (by simp) _).setCell (by simp) _⟩
  · exact bodyPost_ret (v := .tuple #[.agg #[.int .i64 0, .int .i64 0], .int .i64 12]) (by simp [results, Try.results74, go_sem, hc]) rfl ⟨rfl, ((bup (bel2 _ _ _) BB).setCell (by simp) _).setCell (by simp) _⟩
  · exact bodyPost_ret (v := .tuple #[.agg #[.int .i64 tv, .int .i64 q], .int .i64 0]) (by simp [results, Try.results74, go_sem, hc]) rfl ⟨rfl, ((bup (bel2 _ _ _) BB).setCell (by simp) _).setCell (by simp) _⟩

theorem lowest_any (n d : Int) (h : In128 n) (hd : 0 < d) (hd2 : d < 18446744073709551616) (w : World) :
    Calls Try.prog 74 #[wv n, .int .u64 d] w fun e w' => e = .returned (.tuple #[rtv (low (Rat.divInt n d)).1, .int .i64 (low (Rat.divInt n d)).2]) ∧ Below w.heap.size w w' := by
  obtain ⟨g, hg⟩ : ∃ g, g = (((n % d).toNat.gcd d.toNat : Nat) : Int) := ⟨_, rfl⟩
  have hgr := gcd_range n d hd
  rw [← hg] at hgr
  obtain ⟨l1, l2, l3⟩ := low_cases n d g hd hg
  have hq0 : 0 ≤ d / g := Int.ediv_nonneg (by omega) (by omega)
  have hq1 : d / g ≤ d := Int.ediv_le_self _ (by omega)
  refine lowest_walk n d g (n / g) (n % d) (d / g) _ (if inNum (n / g) = true then n / g else 0) (inNum (n / g)) hq0 (by omega) (by omega) (Int.tdiv_eq_ediv_of_nonneg (by omega)) (rwrest_any n d h hd hd2) (fun w => ?_) (floor_any n g h hgr.1 (by omega)) (narrow_any (n / g) (h.floor hgr.1)) ?_ w
  · have m0 := Int.emod_nonneg n (show d ≠ 0 by omega)
    have m1 := Int.emod_lt_of_pos n hd
    rw [hg]
    exact divisor_i (n % d) d ⟨m0, by omega⟩ ⟨by omega, hd2⟩ w
  · cases ht : inNum (n / g)
    · exact .inl ⟨rfl, l1 ht⟩
    · by_cases hq : 2147483648 < d / g
      · exact .inr (.inl ⟨rfl, hq, l2 ht hq⟩)
      · exact .inr (.inr ⟨rfl, by omega, by rw [if_pos rfl]; exact l3 ht (by omega)⟩)
end Go.Proofs.Ytipnefaggpigfaa
