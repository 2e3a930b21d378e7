/- Several texts, one behind the other. -/
import Derived.Deep.QuietTactic
import Derived.BigQuiet
import Derived.WalkSmall
import Derived.Test.YtmofjkfghidlnaaDoorMgA
/- Contracts of package ratio: comparison, lowest terms. -/
namespace Go.Proofs.YtmofjkfghidlnaaDoor
open Go.RowKit Go.Shelf
attribute [local go_sem] Oper.semAt_some

def orI (x y : Int) : Int := if x ≠ 0 then x else y
theorem or_any (x y : Int) (g : Nat) (w : World) (c0 : w.cell? ⟨g, 0, none⟩ = some (.int .i64 x)) (c1 : w.cell? ⟨g, 1, none⟩ = some (.int .i64 y)) :
    Calls Tryd.prog 95 #[.slice (some ⟨g, 0, none⟩) 2 2] w fun e w' => e = .returned (.int .i64 (orI x y)) ∧ w' = w := by
  go_enter Tryd.func95, Tryd.ntmps95
  go_wp2
  go_loop [8] (fun i => ∃ k : Int, i = .int .i64 k ∧ (k = 0 ∨ (k = 1 ∧ x = 0) ∨ (k = 2 ∧ x = 0 ∧ y = 0))) (fun i => (2 - intOf i).toNat)
  case atStart => exact ⟨0, rfl, .inl rfl⟩
  case round =>
    obtain ⟨k, rfl, h⟩ := hrel
    rcases h with rfl | ⟨rfl, hx⟩ | ⟨rfl, hx, hy⟩
    · by_cases hx : x = 0
      · subst hx
        go_wp2
        go_round
        case rel => exact ⟨1, rfl, .inr (.inl ⟨rfl, by trivial⟩)⟩
        case measure => simp [intOf]
      · have hn : (x != 0) = true := by simpa using hx
        go_wp2
        go_ret
        exact ⟨ret_int (by unfold orI; rw [if_pos hx]), rfl⟩
    · subst hx
      by_cases hy : y = 0
      · subst hy
        go_wp2
        go_round
        case rel => exact ⟨2, rfl, .inr (.inr ⟨rfl, by trivial, by trivial⟩)⟩
        case measure => simp [intOf]
      · have hn : (y != 0) = true := by simpa using hy
        go_wp2
        go_ret
        exact ⟨ret_int (by unfold orI; rw [if_neg (by simp)]), rfl⟩
    · subst hx
      subst hy
      go_wp2
      go_ret
      exact ⟨ret_int (by unfold orI; rw [if_neg (by simp)]), rfl⟩

theorem new_cell0 (V : World) (x y : Value) (t : TypeId) : (V.alloc (.cells #[x, y] t)).drew.cell? ⟨V.heap.size, 0, none⟩ = some x := by go_simp
theorem new_cell1 (V : World) (x y : Value) (t : TypeId) : (V.alloc (.cells #[x, y] t)).drew.cell? ⟨V.heap.size, 1, none⟩ = some y := by go_simp
theorem signed_hi (a : Int) (h : In128 a) : IntKind.i64.wrap (hiZ a) = a / 18446744073709551616 := by
  obtain ⟨h0, h1⟩ := h
  rw [IntKind.wrap_i64]
  unfold hiZ
  omega
theorem cmp_halves (a b : Int) (h : In128 a) (k : In128 b) : orI (cmpZ (IntKind.i64.wrap (hiZ a)) (IntKind.i64.wrap (hiZ b))) (cmpZ (loZ a) (loZ b)) = cmpZ a b := by
  rw [signed_hi a h, signed_hi b k]
  unfold orI cmpZ loZ
  by_cases e1 : a < b
  · rw [if_pos e1]
    by_cases e2 : a / 18446744073709551616 < b / 18446744073709551616
    · rw [if_pos e2]; rfl
    · rw [if_neg e2, if_neg (show ¬ b / 18446744073709551616 < a / 18446744073709551616 by omega), if_neg (by simp), if_pos (by omega)]
  · rw [if_neg e1]
    by_cases e3 : b < a
    · rw [if_pos e3]
      by_cases e2 : b / 18446744073709551616 < a / 18446744073709551616
      · rw [if_neg (show ¬ a / 18446744073709551616 < b / 18446744073709551616 by omega), if_pos e2]; rfl
      · rw [if_neg (show ¬ a / 18446744073709551616 < b / 18446744073709551616 by omega), if_neg e2, if_neg (by simp), if_neg (by omega), if_pos (by omega)]
    · obtain rfl : a = b := by omega
      simp

set_option maxRecDepth 100000 in
set_option maxHeartbeats 400000 in
theorem compare_any (a b : Int) (ha : In128 a) (hb : In128 b) (w : World) :
    Calls Tryd.prog 73 #[wv a, wv b] w fun e w' => e = .returned (.int .i64 (cmpZ a b)) ∧ Below w.heap.size w w' := by
  have H2 : Hid (orI (cmpZ (IntKind.i64.wrap (hiZ a)) (IntKind.i64.wrap (hiZ b))) (cmpZ (loZ a) (loZ b)) = cmpZ a b) := cmp_halves a b ha hb
  unfold wv
  generalize hiZ a = ah at *
  generalize loZ a = al at *
  generalize hiZ b = bh at *
  generalize loZ b = bl at *
  generalize cmpZ a b = c at *
  clear ha hb
  go_enter Tryd.func73, Tryd.ntmps73
  go_wp2_with fail
  have c0 : ((w.alloc (.cells #[.int .u64 ah, .int .u64 al] 70)).alloc (.cells #[.int .u64 bh, .int .u64 bl] 70)).cell? ⟨w.heap.size, 0, none⟩ = some (.int .u64 ah) := by go_simp
  have c1 : ((w.alloc (.cells #[.int .u64 ah, .int .u64 al] 70)).alloc (.cells #[.int .u64 bh, .int .u64 bl] 70)).cell? ⟨w.heap.size, 1, none⟩ = some (.int .u64 al) := by go_simp
  have c2 : ((w.alloc (.cells #[.int .u64 ah, .int .u64 al] 70)).alloc (.cells #[.int .u64 bh, .int .u64 bl] 70)).cell? ⟨w.heap.size + 1, 0, none⟩ = some (.int .u64 bh) := by go_simp
  have c3 : ((w.alloc (.cells #[.int .u64 ah, .int .u64 al] 70)).alloc (.cells #[.int .u64 bh, .int .u64 bl] 70)).cell? ⟨w.heap.size + 1, 1, none⟩ = some (.int .u64 bl) := by go_simp
  have bV := bel2 w (.cells #[.int .u64 ah, .int .u64 al] 70) (.cells #[.int .u64 bh, .int .u64 bl] 70)
  generalize (w.alloc (.cells #[.int .u64 ah, .int .u64 al] 70)).alloc (.cells #[.int .u64 bh, .int .u64 bl] 70) = V at *
  go_region_held3 (fun w' => w'.cell? ⟨w.heap.size, 0, none⟩ = some (.int .u64 ah) ∧ w'.cell? ⟨w.heap.size, 1, none⟩ = some (.int .u64 al) ∧ w'.cell? ⟨w.heap.size + 1, 0, none⟩ = some (.int .u64 bh) ∧ w'.cell? ⟨w.heap.size + 1, 1, none⟩ = some (.int .u64 bl)) (first | go_keep | assumption)
    (first | (go_at_call 96; refine (cmp64_any _ _ _).mono ?_; rintro e w1 ⟨rfl, hw⟩; obtain rfl := hw.symm) | (go_at_call 97; refine (cmpU_any _ _ _).mono ?_; rintro e w1 ⟨rfl, hw⟩; obtain rfl := hw.symm) | (go_at_call 95; refine (or_any (cmpZ (IntKind.i64.wrap ah) (IntKind.i64.wrap bh)) (cmpZ al bl) V.heap.size _ (new_cell0 _ _ _ _) (new_cell1 _ _ _ _)).mono ?_; rintro e w2 ⟨rfl, hw⟩; obtain rfl := hw.symm; rw [H2.out]))
  all_goals (try go_wp2_with fail)
  all_goals go_ret
  all_goals exact ⟨rfl, (bV.alloc bV.size _).drew⟩
end Go.Proofs.YtmofjkfghidlnaaDoor

/- Contracts of package ratio: lowest terms; New, Right, Add, Sub, Mul, Neg, Cmp. -/
namespace Go.Proofs.YtmofjkfghidlnaaDoor
open Go.RowKit Go.Shelf
attribute [local go_sem] Oper.semAt_some

theorem low_cases (n d g : Int) (hd : 0 < d) (hg : g = ((n % d).toNat.gcd d.toNat : Nat)) :
    (inNum (n / g) = false → low (Rat.divInt n d) = (⟨0, 0⟩, 12)) ∧ (inNum (n / g) = true → 2147483648 < d / g → low (Rat.divInt n d) = (⟨0, 0⟩, 12)) ∧ (inNum (n / g) = true → d / g ≤ 2147483648 → low (Rat.divInt n d) = (⟨n / g, d / g⟩, 0)) := by
  rw [low_eq n d g hd hg]
  unfold inNum
  refine ⟨fun h => if_neg ?_, fun h k => if_neg ?_, fun h k => if_pos ?_⟩
  · have := of_decide_eq_false h; omega
  · omega
  · have := of_decide_eq_true h; omega
theorem gcd_range (n d : Int) (hd : 0 < d) : 0 < (((n % d).toNat.gcd d.toNat : Nat) : Int) ∧ (((n % d).toNat.gcd d.toNat : Nat) : Int) ≤ d := by
  have h1 : 0 < (n % d).toNat.gcd d.toNat := Nat.gcd_pos_of_pos_right _ (by omega)
  have h2 : (n % d).toNat.gcd d.toNat ≤ d.toNat := Nat.gcd_le_right _ (by omega)
  omega
theorem inNum_wf (k : Int) (h : inNum k = true) : -4611686018427387904 ≤ k ∧ k ≤ 4611686018427387904 := of_decide_eq_true h

set_option maxRecDepth 100000 in
set_option maxHeartbeats 400000 in
theorem lowest_walk (n d g t m q : Int) (r : Rt × Int) (tv : Int) (ok : Bool) (hd0 : 0 ≤ q) (hd1 : q < 18446744073709551616) (hg0 : ¬ g = 0) (htd : d.tdiv g = q)
    (HR : ∀ w, Calls Tryd.prog 89 #[wv n, .int .u64 d] w fun e w' => e = .returned (.int .u64 m) ∧ Below w.heap.size w w')
    (HM : ∀ w, Calls Tryd.prog 65 #[.int .u64 m, .int .u64 d] w fun e w' => e = .returned (.int .u64 g) ∧ Below w.heap.size w w')
    (HF : ∀ w, Calls Tryd.prog 90 #[wv n, .int .u64 g] w fun e w' => e = .returned (wv t) ∧ Below w.heap.size w w')
    (HN : ∀ w, Calls Tryd.prog 91 #[wv t] w fun e w' => e = .returned (.tuple #[.int .i64 tv, .bool ok]) ∧ Below w.heap.size w w')
    (hres : (ok = false ∧ r = (⟨0, 0⟩, 12)) ∨ (ok = true ∧ 2147483648 < q ∧ r = (⟨0, 0⟩, 12)) ∨ (ok = true ∧ q ≤ 2147483648 ∧ r = (⟨tv, q⟩, 0))) (w : World) :
    Calls Tryd.prog 59 #[wv n, .int .u64 d] w fun e w' => e = .returned (.tuple #[rtv r.1, .int .i64 r.2]) ∧ Below w.heap.size w w' := by
  have HR := hideR HR
  have HM := hideR HM
  have HF := hideR HF
  have HN := hideR HN
  rcases hres with ⟨rfl, rfl⟩ | ⟨rfl, hq, rfl⟩ | ⟨rfl, hq, rfl⟩
  all_goals (
    simp only [rtv]
    unfold wv
    go_enter Tryd.func59, Tryd.ntmps59
    go_wp2_with fail
    go_at_call 89
    refine (HR.out _).mono ?_
    rintro e w1 ⟨rfl, b1⟩
    go_wp2_with fail
    go_at_call 65
    refine (HM.out _).mono ?_
    rintro e w2 ⟨rfl, b2⟩
    have b12 := bup b1 b2
    obtain ⟨hc, hf⟩ := bcell b12
    have hz : w.heap.size + 1 < w2.heap.size := by have := b12.size; simp at this; omega
    clear b1 b2
    go_wp2_with fail
    go_at_call 90
    refine (HF.out _).mono ?_
    rintro e w3 ⟨rfl, b3⟩
    go_wp2_with fail
    go_at_call 91
    refine (HN.out _).mono ?_
    rintro e w4 ⟨rfl, b4⟩
    have BB := bup (bup b12 b3) b4
    clear hc hf hz b12 b3 b4
    obtain ⟨hc, hf⟩ := bcell BB
    have hz : w.heap.size + 1 < w4.heap.size := by have := BB.size; simp at this; omega
    go_wp2_with fail)
  · exact bodyPost_ret (v := .tuple #[.agg #[.int .i64 0, .int .i64 0], .int .i64 12]) (by simp [results, Tryd.results59, go_sem, hc]) rfl ⟨rfl, ((bup (bel2 _ _ _) BB).setCell (by simp) _).setCell (by simp) _⟩
  · exact bodyPost_ret (v := .tuple #[.agg #[.int .i64 0, .int .i64 0], .int .i64 12]) (by simp [results, Tryd.results59, go_sem, hc]) rfl ⟨rfl, ((bup (bel2 _ _ _) BB).setCell (by simp) _).setCell (by simp) _⟩
  · exact bodyPost_ret (v := .tuple #[.agg #[.int .i64 tv, .int .i64 q], .int .i64 0]) (by simp [results, Tryd.results59, go_sem, hc]) rfl ⟨rfl, ((bup (bel2 _ _ _) BB).setCell (by simp) _).setCell (by simp) _⟩

theorem lowest_any (n d : Int) (h : In128 n) (hd : 0 < d) (hd2 : d < 18446744073709551616) (w : World) :
    Calls Tryd.prog 59 #[wv n, .int .u64 d] w fun e w' => e = .returned (.tuple #[rtv (low (Rat.divInt n d)).1, .int .i64 (low (Rat.divInt n d)).2]) ∧ Below w.heap.size w w' := by
  obtain ⟨g, hg⟩ : ∃ g, g = (((n % d).toNat.gcd d.toNat : Nat) : Int) := ⟨_, rfl⟩
  have hgr := gcd_range n d hd
  rw [← hg] at hgr
  obtain ⟨l1, l2, l3⟩ := low_cases n d g hd hg
  have hq0 : 0 ≤ d / g := Int.ediv_nonneg (by omega) (by omega)
  have hq1 : d / g ≤ d := Int.ediv_le_self _ (by omega)
  refine lowest_walk n d g (n / g) (n % d) (d / g) _ (if inNum (n / g) = true then n / g else 0) (inNum (n / g)) hq0 (by omega) (by omega) (Int.tdiv_eq_ediv_of_nonneg (by omega)) (rest_any n d h hd hd2) (fun w => ?_) (floor_any n g h hgr.1 (by omega)) (narrow_any (n / g) (h.floor hgr.1)) ?_ w
  · have m0 := Int.emod_nonneg n (show d ≠ 0 by omega)
    have m1 := Int.emod_lt_of_pos n hd
    rw [hg]
    exact divisor_i (n % d) d ⟨m0, by omega⟩ ⟨by omega, hd2⟩ w
  · cases ht : inNum (n / g)
    · exact .inl ⟨rfl, l1 ht⟩
    · by_cases hq : 2147483648 < d / g
      · exact .inr (.inl ⟨rfl, hq, l2 ht hq⟩)
      · exact .inr (.inr ⟨rfl, by omega, by rw [if_pos rfl]; exact l3 ht (by omega)⟩)
end Go.Proofs.YtmofjkfghidlnaaDoor

/- Contracts of package ratio: New, Right, Add, Sub, Mul, Neg, Cmp. -/
namespace Go.Proofs.YtmofjkfghidlnaaDoor
open Go.RowKit Go.Shelf
attribute [local go_sem] Oper.semAt_some

/-- A number of 64 bits. -/
def I64 (k : Int) : Prop := -9223372036854775808 ≤ k ∧ k ≤ 9223372036854775807
/-- A ratio of two numbers of 64 bits. -/
def RtIn (r : Rt) : Prop := I64 r.N ∧ I64 r.D

theorem divisor_quiet (a b : Nat) (ha : a < 18446744073709551616) (hb : b < 18446744073709551616) (w : World) :
    Calls Tryd.prog 65 #[.int .u64 a, .int .u64 b] w fun e w' => e = .returned (.int .u64 (a.gcd b : Nat)) ∧ ∃ m, w' = w.drewN m := by
  go_enter Tryd.func65, Tryd.ntmps65
  go_wp2
  go_loopw [0, 1] (fun va vb wr => ∃ x y : Nat, va = .int .u64 x ∧ vb = .int .u64 y ∧ x < 18446744073709551616 ∧ y < 18446744073709551616 ∧ x.gcd y = a.gcd b ∧ ∃ m, wr = w.drewN m) (fun _ vb _ => (intOf vb).natAbs)
  case atStart => exact ⟨a, b, rfl, rfl, ha, hb, rfl, 0, rfl⟩
  case round =>
    obtain ⟨x, y, rfl, rfl, hx, hy, hg, m, hm⟩ := hrel
    have HG : Hid (x.gcd y = a.gcd b) := hg
    clear hg
    by_cases h0 : y = 0
    · subst h0
      go_wp2
      go_ret
      refine ⟨ret_int ?_, m, rfl⟩
      have := HG.out
      simp at this
      rw [this]
    · have hn : ((y : Int) != 0) = true := by simp; omega
      go_wp2
      go_region
      all_goals (try go_wp2)
      all_goals (
        go_roundw
        case rel =>
          refine ⟨y, x % y, rfl, by go_num, hy, by have := Nat.mod_lt x (show y > 0 by omega); omega, ?_, m + 1, rfl⟩
          rw [gcd_round x y]; exact HG.out
        case measure =>
          have := Nat.mod_lt x (show y > 0 by omega)
          simp [intOf]
          omega)
theorem divisor_iq (x y : Int) (hx : 0 ≤ x ∧ x < 18446744073709551616) (hy : 0 ≤ y ∧ y < 18446744073709551616) (w : World) :
    Calls Tryd.prog 65 #[.int .u64 x, .int .u64 y] w fun e w' => e = .returned (.int .u64 (x.toNat.gcd y.toNat : Nat)) ∧ ∃ m, w' = w.drewN m := by
  obtain ⟨a, rfl⟩ := Int.eq_ofNat_of_zero_le hx.1
  obtain ⟨b, rfl⟩ := Int.eq_ofNat_of_zero_le hy.1
  exact divisor_quiet a b (by omega) (by omega) w

set_option maxRecDepth 100000 in
set_option maxHeartbeats 1000000 in
theorem right_walk (n d g : Int) (b : Bool) (hN : I64 n) (hD : I64 d)
    (HM : 1 ≤ d → ∀ w, Calls Tryd.prog 65 #[.int .u64 (sz n), .int .u64 d] w fun e w' => e = .returned (.int .u64 g) ∧ ∃ m, w' = w.drewN m)
    (hres : (d < 1 ∧ b = false) ∨ (2147483648 < d ∧ b = false) ∨ (1 ≤ d ∧ d ≤ 2147483648 ∧ 4611686018427387904 < sz n ∧ b = false) ∨ (1 ≤ d ∧ d ≤ 2147483648 ∧ sz n ≤ 4611686018427387904 ∧ b = (g == 1))) (w : World) :
    Calls Tryd.prog 21 #[.agg #[.int .i64 n, .int .i64 d]] w fun e w' => e = .returned (.bool b) ∧ ∃ m, w' = (w.alloc (.cells #[.int .i64 n, .int .i64 d] 26)).drewN m := by
  have HM := hideR HM
  have HS := hideR (size_i n hN)
  have hs := sz_range n hN
  unfold I64 at hN hD
  generalize sz n = s at *
  rcases hres with ⟨h1, rfl⟩ | ⟨h1, rfl⟩ | ⟨h1, h2, h3, rfl⟩ | ⟨h1, h2, h3, rfl⟩
  all_goals (
    go_enter Tryd.func21, Tryd.ntmps21
    go_wp2_with fail)
  · go_ret
    exact ⟨rfl, 0, rfl⟩
  · go_ret
    exact ⟨rfl, 0, rfl⟩
  · go_at_call 60
    refine (HS.out _).mono ?_
    rintro e w1 ⟨rfl, hw⟩
    obtain rfl := hw.symm
    go_wp2_with fail
    go_ret
    exact ⟨rfl, 0, rfl⟩
  · go_at_call 60
    refine (HS.out _).mono ?_
    rintro e w1 ⟨rfl, hw⟩
    obtain rfl := hw.symm
    go_wp2_with fail
    have HM := hideR (HM.out h1)
    go_quiet (first | (go_at_call 60; exact Calls.quiet_of_same (HS.out _)) | (go_at_call 65; exact Calls.quiet_of (HM.out _)))
    go_wp2_with fail
    go_ret
    exact ⟨rfl, _, rfl⟩

theorem right_sz (r : Rt) (g : Int) (hD : 1 ≤ r.D) (hg : g = ((sz r.N).toNat.gcd r.D.toNat : Nat)) (h2 : r.D ≤ 2147483648) (h3 : sz r.N ≤ 4611686018427387904) : rightB r = (g == 1) := by
  unfold sz at hg h3
  rw [Bool.eq_iff_iff, right_iff, beq_iff_eq, hg]
  have e1 : ((r.N.natAbs : Int)).toNat = r.N.natAbs := by omega
  have e2 : r.D.toNat = r.D.natAbs := by omega
  rw [e1, e2]
  omega

theorem right_quiet (r : Rt) (h : RtIn r) (w : World) :
    Calls Tryd.prog 21 #[rtv r] w fun e w' => e = .returned (.bool (rightB r)) ∧ ∃ m, w' = (w.alloc (.cells #[.int .i64 r.N, .int .i64 r.D] 26)).drewN m := by
  have hs := sz_range r.N h.1
  refine right_walk r.N r.D ((sz r.N).toNat.gcd r.D.toNat : Nat) (rightB r) h.1 h.2 (fun hd w => divisor_iq _ _ ⟨hs.1, by omega⟩ ⟨by omega, by have := h.2.2; omega⟩ w) ?_ w
  by_cases h1 : r.D < 1
  · exact .inl ⟨h1, by unfold rightB; rw [decide_eq_false]; omega⟩
  · by_cases h2 : 2147483648 < r.D
    · exact .inr (.inl ⟨h2, by unfold rightB; rw [decide_eq_false]; omega⟩)
    · by_cases h3 : 4611686018427387904 < sz r.N
      · exact .inr (.inr (.inl ⟨by omega, by omega, h3, by unfold rightB; unfold sz at h3; rw [decide_eq_false]; omega⟩))
      · exact .inr (.inr (.inr ⟨by omega, by omega, by omega, right_sz r _ (by omega) rfl (by omega) (by omega)⟩))
theorem right_any (r : Rt) (h : RtIn r) (w : World) :
    Calls Tryd.prog 21 #[rtv r] w fun e w' => e = .returned (.bool (rightB r)) ∧ Below w.heap.size w w' :=
  (right_quiet r h w).mono fun e w' ⟨he, m, hm⟩ => ⟨he, by rw [hm]; exact below_drewN (bel1 _ _) _⟩

/-- Two cells that may be written. -/
theorem two_keep {V V2 : World} {R : Nat} {x y : Value} (b : Below V.heap.size V V2) (z : R < V.heap.size) (c0 : V.cell? ⟨R, 0, none⟩ = some x) (c1 : V.cell? ⟨R, 1, none⟩ = some y) (f0 : V.frozen? ⟨R, 0, none⟩ = false) (f1 : V.frozen? ⟨R, 1, none⟩ = false) :
    V2.cell? ⟨R, 0, none⟩ = some x ∧ V2.cell? ⟨R, 1, none⟩ = some y ∧ V2.frozen? ⟨R, 0, none⟩ = false ∧ V2.frozen? ⟨R, 1, none⟩ = false :=
  ⟨(b.cell (p := ⟨R, 0, none⟩) z).trans c0, (b.cell (p := ⟨R, 1, none⟩) z).trans c1, (b.frozen (p := ⟨R, 0, none⟩) z).trans f0, (b.frozen (p := ⟨R, 1, none⟩) z).trans f1⟩

/-! New -/
def newA (n d : Int) : Rt × Int := if d = 0 then bad 11 else low (Rat.divInt n d)
theorem newA_neg (n d : Int) (h : d < 0) : newA n d = low (Rat.divInt (-n) (sz d)) := by
  unfold newA sz
  rw [if_neg (by omega), show (d.natAbs : Int) = -d by omega, ← Rat.neg_divInt_neg]
theorem newA_pos (n d : Int) (h : 0 < d) : newA n d = low (Rat.divInt n (sz d)) := by
  unfold newA sz
  rw [if_neg (by omega), show (d.natAbs : Int) = d by omega]
theorem In128.i64 {k : Int} (h : I64 k) : In128 k := by unfold I64 at h; unfold In128; omega
theorem In128.neg64 {k : Int} (h : I64 k) : In128 (-k) := by unfold I64 at h; unfold In128; omega

set_option maxRecDepth 100000 in
set_option maxHeartbeats 1000000 in
theorem new_any (n d : Int) (hn : I64 n) (hd : I64 d) (w : World) :
    Calls Tryd.prog 19 #[.int .i64 n, .int .i64 d] w fun e w' => e = .returned (.tuple #[rtv (newA n d).1, .int .i64 (newA n d).2]) ∧ Below w.heap.size w w' := by
  have HS := hideR (size_i d hd)
  have HW := hideR (widen_any n hn.1 hn.2)
  have HG := hideR (negative_any n)
  have hs := sz_range d hd
  rcases (show d = 0 ∨ d < 0 ∨ 0 < d by omega) with h0 | h0 | h0
  · subst h0
    rw [show newA n 0 = (⟨0, 0⟩, 11) from rfl]
    simp only [rtv]
    go_enter Tryd.func19, Tryd.ntmps19
    go_wp2_with fail
    refine bodyPost_ret (v := .tuple #[.agg #[.int .i64 0, .int .i64 0], .int .i64 11]) (by simp [results, Tryd.results19, go_sem]) rfl ⟨rfl, bel1 _ _⟩
  · rw [newA_neg n d h0]
    have HL := hideR (lowest_any (-n) (sz d) (In128.neg64 hn) (by unfold sz; omega) (by omega))
    generalize low (Rat.divInt (-n) (sz d)) = r at *
    generalize sz d = s at *
    have h1 : ¬ d = 0 := by omega
    simp only [rtv, wv] at *
    generalize hiZ n = hi at *
    generalize loZ n = lo at *
    generalize hiZ (-n) = hj at *
    generalize loZ (-n) = lj at *
    go_enter Tryd.func19, Tryd.ntmps19
    go_wp2_with fail
    go_at_call 57
    refine (HW.out _).mono ?_
    rintro e w1 ⟨rfl, b1⟩
    have z1 : w.heap.size < w1.heap.size := by have := b1.size; simp at this; omega
    go_wp2_with fail
    go_at_call 58
    refine (HG.out _).mono ?_
    rintro e w2 ⟨rfl, b2⟩
    obtain ⟨hc, hf⟩ := bcell b2
    obtain ⟨hc1, hf1⟩ := bcell b1
    go_wp2_with fail
    have BV : Below w.heap.size w ((w2.setCell ⟨w1.heap.size, 0, none⟩ (.int .u64 hj)).setCell ⟨w1.heap.size, 1, none⟩ (.int .u64 lj)) := ((bup (bup (bup (bel1 _ _) b1) (bel1 _ _)) b2).setCell (Nat.le_of_lt z1) _).setCell (Nat.le_of_lt z1) _
    have z2 : w1.heap.size < w2.heap.size := by have := b2.size; simp at this; omega
    have c0 : ((w2.setCell ⟨w1.heap.size, 0, none⟩ (.int .u64 hj)).setCell ⟨w1.heap.size, 1, none⟩ (.int .u64 lj)).cell? ⟨w1.heap.size, 0, none⟩ = some (.int .u64 hj) := by go_simp
    have c1 : ((w2.setCell ⟨w1.heap.size, 0, none⟩ (.int .u64 hj)).setCell ⟨w1.heap.size, 1, none⟩ (.int .u64 lj)).cell? ⟨w1.heap.size, 1, none⟩ = some (.int .u64 lj) := by go_simp
    have r0 : ((w2.setCell ⟨w1.heap.size, 0, none⟩ (.int .u64 hj)).setCell ⟨w1.heap.size, 1, none⟩ (.int .u64 lj)).cell? ⟨w.heap.size, 0, none⟩ = some (.int .i64 0) := by go_simp
    have r1 : ((w2.setCell ⟨w1.heap.size, 0, none⟩ (.int .u64 hj)).setCell ⟨w1.heap.size, 1, none⟩ (.int .u64 lj)).cell? ⟨w.heap.size, 1, none⟩ = some (.int .i64 0) := by go_simp
    have f0 : ((w2.setCell ⟨w1.heap.size, 0, none⟩ (.int .u64 hj)).setCell ⟨w1.heap.size, 1, none⟩ (.int .u64 lj)).frozen? ⟨w.heap.size, 0, none⟩ = false := by go_simp
    have f1 : ((w2.setCell ⟨w1.heap.size, 0, none⟩ (.int .u64 hj)).setCell ⟨w1.heap.size, 1, none⟩ (.int .u64 lj)).frozen? ⟨w.heap.size, 1, none⟩ = false := by go_simp
    have z3 : w.heap.size < ((w2.setCell ⟨w1.heap.size, 0, none⟩ (.int .u64 hj)).setCell ⟨w1.heap.size, 1, none⟩ (.int .u64 lj)).heap.size := by simp; omega
    generalize (w2.setCell ⟨w1.heap.size, 0, none⟩ (.int .u64 hj)).setCell ⟨w1.heap.size, 1, none⟩ (.int .u64 lj) = V at *
    go_region_with (first | (go_at_call 60; refine (HS.out _).mono ?_; rintro e w3 ⟨rfl, hw⟩; obtain rfl := hw.symm) | (go_at_call 59; refine (HL.out _).mono ?_; rintro e w4 ⟨rfl, b4⟩; obtain ⟨k0, k1, k2, k3⟩ := two_keep b4 z3 r0 r1 f0 f1))
    all_goals go_wp2_with fail
    all_goals exact bodyPost_ret (v := .tuple #[.agg #[.int .i64 r.1.N, .int .i64 r.1.D], .int .i64 r.2]) (by simp [results, Tryd.results19, go_sem, k0, k1]) rfl ⟨rfl, ((bup BV.drew b4).setCell (Nat.le_refl _) _).setCell (Nat.le_refl _) _⟩
  · rw [newA_pos n d h0]
    have HL := hideR (lowest_any n (sz d) (In128.i64 hn) (by unfold sz; omega) (by omega))
    generalize low (Rat.divInt n (sz d)) = r at *
    generalize sz d = s at *
    have h1 : ¬ d = 0 := by omega
    have h2 : ¬ d < 0 := by omega
    simp only [rtv, wv] at *
    generalize hiZ n = hi at *
    generalize loZ n = lo at *
    go_enter Tryd.func19, Tryd.ntmps19
    go_wp2_with fail
    go_at_call 57
    refine (HW.out _).mono ?_
    rintro e w1 ⟨rfl, b1⟩
    have z1 : w.heap.size < w1.heap.size := by have := b1.size; simp at this; omega
    obtain ⟨hc1, hf1⟩ := bcell b1
    go_wp2_with fail
    have BV : Below w.heap.size w (w1.alloc (.cells #[.int .u64 hi, .int .u64 lo] 70)) := bup (bup (bel1 _ _) b1) (bel1 _ _)
    have c0 : (w1.alloc (.cells #[.int .u64 hi, .int .u64 lo] 70)).cell? ⟨w1.heap.size, 0, none⟩ = some (.int .u64 hi) := by go_simp
    have c1 : (w1.alloc (.cells #[.int .u64 hi, .int .u64 lo] 70)).cell? ⟨w1.heap.size, 1, none⟩ = some (.int .u64 lo) := by go_simp
    have r0 : (w1.alloc (.cells #[.int .u64 hi, .int .u64 lo] 70)).cell? ⟨w.heap.size, 0, none⟩ = some (.int .i64 0) := by go_simp
    have r1 : (w1.alloc (.cells #[.int .u64 hi, .int .u64 lo] 70)).cell? ⟨w.heap.size, 1, none⟩ = some (.int .i64 0) := by go_simp
    have f0 : (w1.alloc (.cells #[.int .u64 hi, .int .u64 lo] 70)).frozen? ⟨w.heap.size, 0, none⟩ = false := by go_simp
    have f1 : (w1.alloc (.cells #[.int .u64 hi, .int .u64 lo] 70)).frozen? ⟨w.heap.size, 1, none⟩ = false := by go_simp
    have z3 : w.heap.size < (w1.alloc (.cells #[.int .u64 hi, .int .u64 lo] 70)).heap.size := by simp; omega
    generalize w1.alloc (.cells #[.int .u64 hi, .int .u64 lo] 70) = V at *
    go_region_with (first | (go_at_call 60; refine (HS.out _).mono ?_; rintro e w3 ⟨rfl, hw⟩; obtain rfl := hw.symm) | (go_at_call 59; refine (HL.out _).mono ?_; rintro e w4 ⟨rfl, b4⟩; obtain ⟨k0, k1, k2, k3⟩ := two_keep b4 z3 r0 r1 f0 f1))
    all_goals go_wp2_with fail
    all_goals exact bodyPost_ret (v := .tuple #[.agg #[.int .i64 r.1.N, .int .i64 r.1.D], .int .i64 r.2]) (by simp [results, Tryd.results19, go_sem, k0, k1]) rfl ⟨rfl, ((bup BV.drew b4).setCell (Nat.le_refl _) _).setCell (Nat.le_refl _) _⟩
end Go.Proofs.YtmofjkfghidlnaaDoor

/- Contracts of package ratio: Add, Sub, Mul, Neg, Cmp. -/
namespace Go.Proofs.YtmofjkfghidlnaaDoor
open Go.RowKit Go.Shelf
attribute [local go_sem] Oper.semAt_some

theorem keep8 {B : Nat} {V V2 : World} {a0 a1 b0 b1 r0 r1 : Value} (b : Below V.heap.size V V2)
    (h : B + 1 + 1 < V.heap.size ∧ V.cell? ⟨B, 0, none⟩ = some a0 ∧ V.cell? ⟨B, 1, none⟩ = some a1 ∧ V.cell? ⟨B + 1, 0, none⟩ = some b0 ∧ V.cell? ⟨B + 1, 1, none⟩ = some b1 ∧ V.cell? ⟨B + 1 + 1, 0, none⟩ = some r0 ∧ V.cell? ⟨B + 1 + 1, 1, none⟩ = some r1 ∧ V.frozen? ⟨B + 1 + 1, 0, none⟩ = false ∧ V.frozen? ⟨B + 1 + 1, 1, none⟩ = false) :
    B + 1 + 1 < V2.heap.size ∧ V2.cell? ⟨B, 0, none⟩ = some a0 ∧ V2.cell? ⟨B, 1, none⟩ = some a1 ∧ V2.cell? ⟨B + 1, 0, none⟩ = some b0 ∧ V2.cell? ⟨B + 1, 1, none⟩ = some b1 ∧ V2.cell? ⟨B + 1 + 1, 0, none⟩ = some r0 ∧ V2.cell? ⟨B + 1 + 1, 1, none⟩ = some r1 ∧ V2.frozen? ⟨B + 1 + 1, 0, none⟩ = false ∧ V2.frozen? ⟨B + 1 + 1, 1, none⟩ = false := by
  obtain ⟨z, h0, h1, h2, h3, h4, h5, h6, h7⟩ := h
  exact ⟨Nat.lt_of_lt_of_le z b.size, (b.cell (p := ⟨B, 0, none⟩) (by show B < _; omega)).trans h0, (b.cell (p := ⟨B, 1, none⟩) (by show B < _; omega)).trans h1, (b.cell (p := ⟨B + 1, 0, none⟩) (by show B + 1 < _; omega)).trans h2, (b.cell (p := ⟨B + 1, 1, none⟩) (by show B + 1 < _; omega)).trans h3, (b.cell (p := ⟨B + 1 + 1, 0, none⟩) z).trans h4, (b.cell (p := ⟨B + 1 + 1, 1, none⟩) z).trans h5, (b.frozen (p := ⟨B + 1 + 1, 0, none⟩) z).trans h6, (b.frozen (p := ⟨B + 1 + 1, 1, none⟩) z).trans h7⟩

theorem keep4 {A B : Nat} {V V2 : World} {a0 a1 b0 b1 : Value} (b : Below V.heap.size V V2) (zA : A < V.heap.size) (zB : B < V.heap.size)
    (h : V.cell? ⟨A, 0, none⟩ = some a0 ∧ V.cell? ⟨A, 1, none⟩ = some a1 ∧ V.cell? ⟨B, 0, none⟩ = some b0 ∧ V.cell? ⟨B, 1, none⟩ = some b1) :
    V2.cell? ⟨A, 0, none⟩ = some a0 ∧ V2.cell? ⟨A, 1, none⟩ = some a1 ∧ V2.cell? ⟨B, 0, none⟩ = some b0 ∧ V2.cell? ⟨B, 1, none⟩ = some b1 :=
  ⟨(b.cell (p := ⟨A, 0, none⟩) zA).trans h.1, (b.cell (p := ⟨A, 1, none⟩) zA).trans h.2.1, (b.cell (p := ⟨B, 0, none⟩) zB).trans h.2.2.1, (b.cell (p := ⟨B, 1, none⟩) zB).trans h.2.2.2⟩

theorem keep4s {B : Nat} {V : World} {a0 a1 b0 b1 x y : Value} (h : V.cell? ⟨B, 0, none⟩ = some a0 ∧ V.cell? ⟨B, 1, none⟩ = some a1 ∧ V.cell? ⟨B + 1, 0, none⟩ = some b0 ∧ V.cell? ⟨B + 1, 1, none⟩ = some b1) :
    ((V.setCell ⟨B + 1 + 1, 0, none⟩ x).setCell ⟨B + 1 + 1, 1, none⟩ y).cell? ⟨B, 0, none⟩ = some a0 ∧ ((V.setCell ⟨B + 1 + 1, 0, none⟩ x).setCell ⟨B + 1 + 1, 1, none⟩ y).cell? ⟨B, 1, none⟩ = some a1 ∧ ((V.setCell ⟨B + 1 + 1, 0, none⟩ x).setCell ⟨B + 1 + 1, 1, none⟩ y).cell? ⟨B + 1, 0, none⟩ = some b0 ∧ ((V.setCell ⟨B + 1 + 1, 0, none⟩ x).setCell ⟨B + 1 + 1, 1, none⟩ y).cell? ⟨B + 1, 1, none⟩ = some b1 := by
  have ne : ∀ (o j : Nat) (c : Nat), c < B + 1 + 1 → (⟨B + 1 + 1, o, none⟩ : Addr) ≠ ⟨c, j, none⟩ := fun o j c hc e => by
    have := congrArg Addr.block e
    simp only at this
    omega
  obtain ⟨h0, h1, h2, h3⟩ := h
  refine ⟨?_, ?_, ?_, ?_⟩
  · rw [World.cell?_setCell_other _ _ _ _ (ne _ _ _ (by omega)), World.cell?_setCell_other _ _ _ _ (ne _ _ _ (by omega)), h0]
  · rw [World.cell?_setCell_other _ _ _ _ (ne _ _ _ (by omega)), World.cell?_setCell_other _ _ _ _ (ne _ _ _ (by omega)), h1]
  · rw [World.cell?_setCell_other _ _ _ _ (ne _ _ _ (by omega)), World.cell?_setCell_other _ _ _ _ (ne _ _ _ (by omega)), h2]
  · rw [World.cell?_setCell_other _ _ _ _ (ne _ _ _ (by omega)), World.cell?_setCell_other _ _ _ _ (ne _ _ _ (by omega)), h3]

set_option maxRecDepth 100000 in
set_option maxHeartbeats 300000 in
theorem add_walk (an ad bn bd p q s dd : Int) (r : Rt × Int) (h0 : 1 ≤ dd) (h1 : dd ≤ 4611686018427387904) (hm : ad * bd = dd)
    (HA : ∀ w, Calls Tryd.prog 21 #[.agg #[.int .i64 an, .int .i64 ad]] w fun e w' => e = .returned (.bool true) ∧ Below w.heap.size w w')
    (HB : ∀ w, Calls Tryd.prog 21 #[.agg #[.int .i64 bn, .int .i64 bd]] w fun e w' => e = .returned (.bool true) ∧ Below w.heap.size w w')
    (HP1 : ∀ w, Calls Tryd.prog 67 #[.int .i64 an, .int .i64 bd] w fun e w' => e = .returned (wv p) ∧ Below w.heap.size w w')
    (HP2 : ∀ w, Calls Tryd.prog 67 #[.int .i64 bn, .int .i64 ad] w fun e w' => e = .returned (wv q) ∧ Below w.heap.size w w')
    (HQ : ∀ w, Calls Tryd.prog 68 #[wv p, wv q] w fun e w' => e = .returned (wv s) ∧ Below w.heap.size w w')
    (HL : ∀ w, Calls Tryd.prog 59 #[wv s, .int .u64 dd] w fun e w' => e = .returned (.tuple #[rtv r.1, .int .i64 r.2]) ∧ Below w.heap.size w w') (w : World) :
    Calls Tryd.prog 23 #[.agg #[.int .i64 an, .int .i64 ad], .agg #[.int .i64 bn, .int .i64 bd]] w fun e w' => e = .returned (.tuple #[rtv r.1, .int .i64 r.2]) ∧ Below w.heap.size w w' := by
  simp only [rtv] at *
  have HA := hideR HA
  have HB := hideR HB
  have HP1 := hideR HP1
  have HP2 := hideR HP2
  have HQ := hideR HQ
  have HL := hideR HL
  go_enter Tryd.func23, Tryd.ntmps23
  go_wp2_with fail
  go_at_call 21
  refine (HA.out _).mono ?_
  rintro e w1 ⟨rfl, b1⟩
  have S0 : w.heap.size + 1 + 1 < (((w.alloc (.cells #[.int .i64 an, .int .i64 ad] 26)).alloc (.cells #[.int .i64 bn, .int .i64 bd] 26)).alloc (.cells #[.int .i64 0, .int .i64 0] 26)).heap.size ∧ (((w.alloc (.cells #[.int .i64 an, .int .i64 ad] 26)).alloc (.cells #[.int .i64 bn, .int .i64 bd] 26)).alloc (.cells #[.int .i64 0, .int .i64 0] 26)).cell? ⟨w.heap.size, 0, none⟩ = some (.int .i64 an) ∧ (((w.alloc (.cells #[.int .i64 an, .int .i64 ad] 26)).alloc (.cells #[.int .i64 bn, .int .i64 bd] 26)).alloc (.cells #[.int .i64 0, .int .i64 0] 26)).cell? ⟨w.heap.size, 1, none⟩ = some (.int .i64 ad) ∧ (((w.alloc (.cells #[.int .i64 an, .int .i64 ad] 26)).alloc (.cells #[.int .i64 bn, .int .i64 bd] 26)).alloc (.cells #[.int .i64 0, .int .i64 0] 26)).cell? ⟨w.heap.size + 1, 0, none⟩ = some (.int .i64 bn) ∧ (((w.alloc (.cells #[.int .i64 an, .int .i64 ad] 26)).alloc (.cells #[.int .i64 bn, .int .i64 bd] 26)).alloc (.cells #[.int .i64 0, .int .i64 0] 26)).cell? ⟨w.heap.size + 1, 1, none⟩ = some (.int .i64 bd) ∧ (((w.alloc (.cells #[.int .i64 an, .int .i64 ad] 26)).alloc (.cells #[.int .i64 bn, .int .i64 bd] 26)).alloc (.cells #[.int .i64 0, .int .i64 0] 26)).cell? ⟨w.heap.size + 1 + 1, 0, none⟩ = some (.int .i64 0) ∧ (((w.alloc (.cells #[.int .i64 an, .int .i64 ad] 26)).alloc (.cells #[.int .i64 bn, .int .i64 bd] 26)).alloc (.cells #[.int .i64 0, .int .i64 0] 26)).cell? ⟨w.heap.size + 1 + 1, 1, none⟩ = some (.int .i64 0) ∧ (((w.alloc (.cells #[.int .i64 an, .int .i64 ad] 26)).alloc (.cells #[.int .i64 bn, .int .i64 bd] 26)).alloc (.cells #[.int .i64 0, .int .i64 0] 26)).frozen? ⟨w.heap.size + 1 + 1, 0, none⟩ = false ∧ (((w.alloc (.cells #[.int .i64 an, .int .i64 ad] 26)).alloc (.cells #[.int .i64 bn, .int .i64 bd] 26)).alloc (.cells #[.int .i64 0, .int .i64 0] 26)).frozen? ⟨w.heap.size + 1 + 1, 1, none⟩ = false := ⟨by simp, by go_simp, by go_simp, by go_simp, by go_simp, by go_simp, by go_simp, by go_simp, by go_simp⟩
  have S1 := keep8 b1 S0
  have B1 := bup (bel3 w _ _ _) b1
  clear S0 b1
  obtain ⟨z1, d0, d1, d2, d3, d4, d5, d6, d7⟩ := id S1
  go_wp2_with fail
  go_at_call 21
  refine (HB.out _).mono ?_
  rintro e V ⟨rfl, b2⟩
  have SV := keep8 b2 S1
  have BV := bup B1 b2
  clear S1 b2 B1 z1 d0 d1 d2 d3 d4 d5 d6 d7
  go_wp2_with fail
  obtain ⟨z2, c0, c1, c2, c3, c4, c5, c6, c7⟩ := id SV
  clear HA HB SV
  have HD : Hid (IntKind.u64.wrap (IntKind.i64.wrap dd) = dd) := by rw [Hid, IntKind.wrap_i64, IntKind.wrap_u64]; omega
  have SC : V.cell? ⟨w.heap.size, 0, none⟩ = some (.int .i64 an) ∧ V.cell? ⟨w.heap.size, 1, none⟩ = some (.int .i64 ad) ∧ V.cell? ⟨w.heap.size + 1, 0, none⟩ = some (.int .i64 bn) ∧ V.cell? ⟨w.heap.size + 1, 1, none⟩ = some (.int .i64 bd) := ⟨c0, c1, c2, c3⟩
  have zA : w.heap.size < V.heap.size := by omega
  have zB : w.heap.size + 1 < V.heap.size := by omega
  go_region_held3 (fun w' => w'.cell? ⟨w.heap.size, 0, none⟩ = some (.int .i64 an) ∧ w'.cell? ⟨w.heap.size, 1, none⟩ = some (.int .i64 ad) ∧ w'.cell? ⟨w.heap.size + 1, 0, none⟩ = some (.int .i64 bn) ∧ w'.cell? ⟨w.heap.size + 1, 1, none⟩ = some (.int .i64 bd)) (first | assumption | exact keep4s S6 | go_keep)
    (first | (go_at_call_of 67 an; refine (HP1.out _).mono ?_; rintro e w3 ⟨rfl, b3⟩; have S3 := keep4 b3 zA zB SC) | (go_at_call_of 67 bn; refine (HP2.out _).mono ?_; rintro e w4 ⟨rfl, b4⟩; have B4 := bup b3 b4; have S4 := keep4 B4 zA zB SC) | (go_at_call 68; refine (HQ.out _).mono ?_; rintro e w5 ⟨rfl, b5⟩; have B5 := bup B4 b5; have S5 := keep4 B5 zA zB SC) | (go_at_call 59; rw [HD.out]; refine (HL.out _).mono ?_; rintro e w6 ⟨rfl, b6⟩; have B6 := bup B5 b6; have S6 := keep4 B6 zA zB SC; obtain ⟨k0, k1, k2, k3⟩ := two_keep B6 z2 c4 c5 c6 c7))
  all_goals (try go_wp2_with fail)
  all_goals exact bodyPost_ret (v := .tuple #[.agg #[.int .i64 r.1.N, .int .i64 r.1.D], .int .i64 r.2]) (by simp [results, Tryd.results23, go_sem, k0, k1]) rfl ⟨rfl, ((bup BV.drew B6).setCell (by simp; omega) _).setCell (by simp; omega) _⟩

set_option maxRecDepth 100000 in
set_option maxHeartbeats 300000 in
theorem mul_walk (an ad bn bd s dd : Int) (r : Rt × Int) (h0 : 1 ≤ dd) (h1 : dd ≤ 4611686018427387904) (hm : ad * bd = dd)
    (HA : ∀ w, Calls Tryd.prog 21 #[.agg #[.int .i64 an, .int .i64 ad]] w fun e w' => e = .returned (.bool true) ∧ Below w.heap.size w w')
    (HB : ∀ w, Calls Tryd.prog 21 #[.agg #[.int .i64 bn, .int .i64 bd]] w fun e w' => e = .returned (.bool true) ∧ Below w.heap.size w w')
    (HP1 : ∀ w, Calls Tryd.prog 67 #[.int .i64 an, .int .i64 bn] w fun e w' => e = .returned (wv s) ∧ Below w.heap.size w w')
    (HL : ∀ w, Calls Tryd.prog 59 #[wv s, .int .u64 dd] w fun e w' => e = .returned (.tuple #[rtv r.1, .int .i64 r.2]) ∧ Below w.heap.size w w') (w : World) :
    Calls Tryd.prog 30 #[.agg #[.int .i64 an, .int .i64 ad], .agg #[.int .i64 bn, .int .i64 bd]] w fun e w' => e = .returned (.tuple #[rtv r.1, .int .i64 r.2]) ∧ Below w.heap.size w w' := by
  simp only [rtv] at *
  have HA := hideR HA
  have HB := hideR HB
  have HP1 := hideR HP1
  have HL := hideR HL
  go_enter Tryd.func30, Tryd.ntmps30
  go_wp2_with fail
  go_at_call 21
  refine (HA.out _).mono ?_
  rintro e w1 ⟨rfl, b1⟩
  have S0 : w.heap.size + 1 + 1 < (((w.alloc (.cells #[.int .i64 an, .int .i64 ad] 26)).alloc (.cells #[.int .i64 bn, .int .i64 bd] 26)).alloc (.cells #[.int .i64 0, .int .i64 0] 26)).heap.size ∧ (((w.alloc (.cells #[.int .i64 an, .int .i64 ad] 26)).alloc (.cells #[.int .i64 bn, .int .i64 bd] 26)).alloc (.cells #[.int .i64 0, .int .i64 0] 26)).cell? ⟨w.heap.size, 0, none⟩ = some (.int .i64 an) ∧ (((w.alloc (.cells #[.int .i64 an, .int .i64 ad] 26)).alloc (.cells #[.int .i64 bn, .int .i64 bd] 26)).alloc (.cells #[.int .i64 0, .int .i64 0] 26)).cell? ⟨w.heap.size, 1, none⟩ = some (.int .i64 ad) ∧ (((w.alloc (.cells #[.int .i64 an, .int .i64 ad] 26)).alloc (.cells #[.int .i64 bn, .int .i64 bd] 26)).alloc (.cells #[.int .i64 0, .int .i64 0] 26)).cell? ⟨w.heap.size + 1, 0, none⟩ = some (.int .i64 bn) ∧ (((w.alloc (.cells #[.int .i64 an, .int .i64 ad] 26)).alloc (.cells #[.int .i64 bn, .int .i64 bd] 26)).alloc (.cells #[.int .i64 0, .int .i64 0] 26)).cell? ⟨w.heap.size + 1, 1, none⟩ = some (.int .i64 bd) ∧ (((w.alloc (.cells #[.int .i64 an, .int .i64 ad] 26)).alloc (.cells #[.int .i64 bn, .int .i64 bd] 26)).alloc (.cells #[.int .i64 0, .int .i64 0] 26)).cell? ⟨w.heap.size + 1 + 1, 0, none⟩ = some (.int .i64 0) ∧ (((w.alloc (.cells #[.int .i64 an, .int .i64 ad] 26)).alloc (.cells #[.int .i64 bn, .int .i64 bd] 26)).alloc (.cells #[.int .i64 0, .int .i64 0] 26)).cell? ⟨w.heap.size + 1 + 1, 1, none⟩ = some (.int .i64 0) ∧ (((w.alloc (.cells #[.int .i64 an, .int .i64 ad] 26)).alloc (.cells #[.int .i64 bn, .int .i64 bd] 26)).alloc (.cells #[.int .i64 0, .int .i64 0] 26)).frozen? ⟨w.heap.size + 1 + 1, 0, none⟩ = false ∧ (((w.alloc (.cells #[.int .i64 an, .int .i64 ad] 26)).alloc (.cells #[.int .i64 bn, .int .i64 bd] 26)).alloc (.cells #[.int .i64 0, .int .i64 0] 26)).frozen? ⟨w.heap.size + 1 + 1, 1, none⟩ = false := ⟨by simp, by go_simp, by go_simp, by go_simp, by go_simp, by go_simp, by go_simp, by go_simp, by go_simp⟩
  have S1 := keep8 b1 S0
  have B1 := bup (bel3 w _ _ _) b1
  clear S0 b1
  obtain ⟨z1, d0, d1, d2, d3, d4, d5, d6, d7⟩ := id S1
  go_wp2_with fail
  go_at_call 21
  refine (HB.out _).mono ?_
  rintro e V ⟨rfl, b2⟩
  have SV := keep8 b2 S1
  have BV := bup B1 b2
  clear S1 b2 B1 z1 d0 d1 d2 d3 d4 d5 d6 d7
  go_wp2_with fail
  obtain ⟨z2, c0, c1, c2, c3, c4, c5, c6, c7⟩ := id SV
  clear HA HB SV
  have HD : Hid (IntKind.u64.wrap (IntKind.i64.wrap dd) = dd) := by rw [Hid, IntKind.wrap_i64, IntKind.wrap_u64]; omega
  have SC : V.cell? ⟨w.heap.size, 0, none⟩ = some (.int .i64 an) ∧ V.cell? ⟨w.heap.size, 1, none⟩ = some (.int .i64 ad) ∧ V.cell? ⟨w.heap.size + 1, 0, none⟩ = some (.int .i64 bn) ∧ V.cell? ⟨w.heap.size + 1, 1, none⟩ = some (.int .i64 bd) := ⟨c0, c1, c2, c3⟩
  have zA : w.heap.size < V.heap.size := by omega
  have zB : w.heap.size + 1 < V.heap.size := by omega
  go_region_held3 (fun w' => w'.cell? ⟨w.heap.size, 0, none⟩ = some (.int .i64 an) ∧ w'.cell? ⟨w.heap.size, 1, none⟩ = some (.int .i64 ad) ∧ w'.cell? ⟨w.heap.size + 1, 0, none⟩ = some (.int .i64 bn) ∧ w'.cell? ⟨w.heap.size + 1, 1, none⟩ = some (.int .i64 bd)) (first | assumption | exact keep4s S6 | go_keep)
    (first | (go_at_call_of 67 an; refine (HP1.out _).mono ?_; rintro e w3 ⟨rfl, b3⟩; have S3 := keep4 b3 zA zB SC) | (go_at_call 59; rw [HD.out]; refine (HL.out _).mono ?_; rintro e w6 ⟨rfl, b6⟩; have B6 := bup b3 b6; have S6 := keep4 B6 zA zB SC; obtain ⟨k0, k1, k2, k3⟩ := two_keep B6 z2 c4 c5 c6 c7))
  all_goals (try go_wp2_with fail)
  all_goals exact bodyPost_ret (v := .tuple #[.agg #[.int .i64 r.1.N, .int .i64 r.1.D], .int .i64 r.2]) (by simp [results, Tryd.results30, go_sem, k0, k1]) rfl ⟨rfl, ((bup BV.drew B6).setCell (by simp; omega) _).setCell (by simp; omega) _⟩

set_option maxRecDepth 100000 in
set_option maxHeartbeats 300000 in
theorem add_not (an ad bn bd : Int) (ok : Bool)
    (HA : ∀ w, Calls Tryd.prog 21 #[.agg #[.int .i64 an, .int .i64 ad]] w fun e w' => e = .returned (.bool ok) ∧ Below w.heap.size w w')
    (HB : ok = true → ∀ w, Calls Tryd.prog 21 #[.agg #[.int .i64 bn, .int .i64 bd]] w fun e w' => e = .returned (.bool false) ∧ Below w.heap.size w w') (w : World) :
    Calls Tryd.prog 23 #[.agg #[.int .i64 an, .int .i64 ad], .agg #[.int .i64 bn, .int .i64 bd]] w fun e w' => e = .returned (.tuple #[.agg #[.int .i64 0, .int .i64 0], .int .i64 12]) ∧ Below w.heap.size w w' := by
  have HA := hideR HA
  cases ok
  all_goals (
    go_enter Tryd.func23, Tryd.ntmps23
    go_wp2_with fail
    go_at_call 21
    refine (HA.out _).mono ?_
    rintro e w1 ⟨rfl, b1⟩
    obtain ⟨hc, hf⟩ := bcell b1
    have z1 := b1.size
    simp at z1)
  · go_wp2_with fail
    exact bodyPost_ret (v := .tuple #[.agg #[.int .i64 0, .int .i64 0], .int .i64 12]) (by simp [results, Tryd.results23, go_sem, hc]) rfl ⟨rfl, ((bup (bel3 w _ _ _) b1).setCell (by simp; omega) _).setCell (by simp; omega) _⟩
  · have HB := hideR (HB (by trivial))
    go_wp2_with fail
    go_at_call 21
    refine (HB.out _).mono ?_
    rintro e w2 ⟨rfl, b2⟩
    have B2 := bup b1 b2
    clear hc hf b1 b2 z1
    obtain ⟨hc, hf⟩ := bcell B2
    have z1 := B2.size
    simp at z1
    go_wp2_with fail
    exact bodyPost_ret (v := .tuple #[.agg #[.int .i64 0, .int .i64 0], .int .i64 12]) (by simp [results, Tryd.results23, go_sem, hc]) rfl ⟨rfl, ((bup (bel3 w _ _ _) B2).setCell (by simp; omega) _).setCell (by simp; omega) _⟩

set_option maxRecDepth 100000 in
set_option maxHeartbeats 300000 in
theorem mul_not (an ad bn bd : Int) (ok : Bool)
    (HA : ∀ w, Calls Tryd.prog 21 #[.agg #[.int .i64 an, .int .i64 ad]] w fun e w' => e = .returned (.bool ok) ∧ Below w.heap.size w w')
    (HB : ok = true → ∀ w, Calls Tryd.prog 21 #[.agg #[.int .i64 bn, .int .i64 bd]] w fun e w' => e = .returned (.bool false) ∧ Below w.heap.size w w') (w : World) :
    Calls Tryd.prog 30 #[.agg #[.int .i64 an, .int .i64 ad], .agg #[.int .i64 bn, .int .i64 bd]] w fun e w' => e = .returned (.tuple #[.agg #[.int .i64 0, .int .i64 0], .int .i64 12]) ∧ Below w.heap.size w w' := by
  have HA := hideR HA
  cases ok
  all_goals (
    go_enter Tryd.func30, Tryd.ntmps30
    go_wp2_with fail
    go_at_call 21
    refine (HA.out _).mono ?_
    rintro e w1 ⟨rfl, b1⟩
    obtain ⟨hc, hf⟩ := bcell b1
    have z1 := b1.size
    simp at z1)
  · go_wp2_with fail
    exact bodyPost_ret (v := .tuple #[.agg #[.int .i64 0, .int .i64 0], .int .i64 12]) (by simp [results, Tryd.results30, go_sem, hc]) rfl ⟨rfl, ((bup (bel3 w _ _ _) b1).setCell (by simp; omega) _).setCell (by simp; omega) _⟩
  · have HB := hideR (HB (by trivial))
    go_wp2_with fail
    go_at_call 21
    refine (HB.out _).mono ?_
    rintro e w2 ⟨rfl, b2⟩
    have B2 := bup b1 b2
    clear hc hf b1 b2 z1
    obtain ⟨hc, hf⟩ := bcell B2
    have z1 := B2.size
    simp at z1
    go_wp2_with fail
    exact bodyPost_ret (v := .tuple #[.agg #[.int .i64 0, .int .i64 0], .int .i64 12]) (by simp [results, Tryd.results30, go_sem, hc]) rfl ⟨rfl, ((bup (bel3 w _ _ _) B2).setCell (by simp; omega) _).setCell (by simp; omega) _⟩

theorem den_bounds {a b : Rt} (ha : rightB a = true) (hb : rightB b = true) : 1 ≤ a.D * b.D ∧ a.D * b.D ≤ 4611686018427387904 := by
  have h1 := (right_iff a).1 ha
  have h2 := (right_iff b).1 hb
  constructor
  · have := Int.mul_le_mul h1.1 h2.1 (by omega) (by omega); omega
  · have := Int.mul_le_mul h1.2.1 h2.2.1 (by omega) (by omega); omega
theorem mul_bounds {x y X Y : Int} (hx : -X ≤ x ∧ x ≤ X) (hy : -Y ≤ y ∧ y ≤ Y) : -(X * Y) ≤ x * y ∧ x * y ≤ X * Y := by
  have h1 : (x * y).natAbs ≤ X.natAbs * Y.natAbs := by rw [Int.natAbs_mul]; exact Nat.mul_le_mul (by omega) (by omega)
  have h2 : ((X.natAbs * Y.natAbs : Nat) : Int) = X * Y := by rw [Int.natCast_mul, show (X.natAbs : Int) = X by omega, show (Y.natAbs : Int) = Y by omega]
  omega
theorem top_bounds {a b : Rt} (ha : rightB a = true) (hb : rightB b = true) : -9903520314283042199192993792 ≤ a.N * b.D ∧ a.N * b.D ≤ 9903520314283042199192993792 := by
  have h1 := (right_iff a).1 ha
  have h2 := (right_iff b).1 hb
  have := mul_bounds (x := a.N) (y := b.D) (X := 4611686018427387904) (Y := 2147483648) ⟨by omega, by omega⟩ ⟨by omega, by omega⟩
  omega
theorem nums_bounds {a b : Rt} (ha : rightB a = true) (hb : rightB b = true) : -21267647932558653966460912964485513216 ≤ a.N * b.N ∧ a.N * b.N ≤ 21267647932558653966460912964485513216 := by
  have h1 := (right_iff a).1 ha
  have h2 := (right_iff b).1 hb
  have := mul_bounds (x := a.N) (y := b.N) (X := 4611686018427387904) (Y := 4611686018427387904) ⟨by omega, by omega⟩ ⟨by omega, by omega⟩
  omega

theorem add_any (a b : Rt) (ha : RtIn a) (hb : RtIn b) (w : World) :
    Calls Tryd.prog 23 #[rtv a, rtv b] w fun e w' => e = .returned (.tuple #[rtv (addA a b).1, .int .i64 (addA a b).2]) ∧ Below w.heap.size w w' := by
  have HA := right_any a ha
  have HB := right_any b hb
  cases h1 : rightB a
  · rw [show addA a b = (⟨0, 0⟩, 12) by unfold addA; rw [if_neg (by simp [h1])]; rfl]
    rw [h1] at HA
    exact add_not a.N a.D b.N b.D false HA (fun h => by cases h) w
  · rw [h1] at HA
    cases h2 : rightB b
    · rw [show addA a b = (⟨0, 0⟩, 12) by unfold addA; rw [if_neg (by simp [h2])]; rfl]
      rw [h2] at HB
      exact add_not a.N a.D b.N b.D true HA (fun _ => HB) w
    · rw [h2] at HB
      have hd := den_bounds h1 h2
      have t1 := top_bounds h1 h2
      have t2 := top_bounds h2 h1
      rw [addA_right h1 h2, val_add a b h1 h2]
      exact add_walk a.N a.D b.N b.D _ _ (a.N * b.D + b.N * a.D) _ _ hd.1 hd.2 rfl HA HB (product_any _ _ ha.1 hb.2) (product_any _ _ hb.1 ha.2) (plus_any _ _) (lowest_any _ _ (by unfold In128; omega) (by omega) (by omega)) w
theorem mul_any (a b : Rt) (ha : RtIn a) (hb : RtIn b) (w : World) :
    Calls Tryd.prog 30 #[rtv a, rtv b] w fun e w' => e = .returned (.tuple #[rtv (mulA a b).1, .int .i64 (mulA a b).2]) ∧ Below w.heap.size w w' := by
  have HA := right_any a ha
  have HB := right_any b hb
  cases h1 : rightB a
  · rw [show mulA a b = (⟨0, 0⟩, 12) by unfold mulA; rw [if_neg (by simp [h1])]; rfl]
    rw [h1] at HA
    exact mul_not a.N a.D b.N b.D false HA (fun h => by cases h) w
  · rw [h1] at HA
    cases h2 : rightB b
    · rw [show mulA a b = (⟨0, 0⟩, 12) by unfold mulA; rw [if_neg (by simp [h2])]; rfl]
      rw [h2] at HB
      exact mul_not a.N a.D b.N b.D true HA (fun _ => HB) w
    · rw [h2] at HB
      have hd := den_bounds h1 h2
      have t1 := nums_bounds h1 h2
      rw [mulA_right h1 h2, val_mul a b]
      exact mul_walk a.N a.D b.N b.D (a.N * b.N) _ _ hd.1 hd.2 rfl HA HB (product_any _ _ ha.1 hb.1) (lowest_any _ _ (by unfold In128; omega) (by omega) (by omega)) w
end Go.Proofs.YtmofjkfghidlnaaDoor

/- Contracts of package ratio: Sub, Neg, Cmp. -/
namespace Go.Proofs.YtmofjkfghidlnaaDoor
open Go.RowKit Go.Shelf
attribute [local go_sem] Oper.semAt_some

set_option maxRecDepth 100000 in
set_option maxHeartbeats 300000 in
theorem sub_walk (an ad bn bd nb : Int) (r : Rt × Int) (hn : IntKind.i64.wrap (-bn) = nb)
    (HA : ∀ w, Calls Tryd.prog 23 #[.agg #[.int .i64 an, .int .i64 ad], .agg #[.int .i64 nb, .int .i64 bd]] w fun e w' => e = .returned (.tuple #[rtv r.1, .int .i64 r.2]) ∧ Below w.heap.size w w') (w : World) :
    Calls Tryd.prog 26 #[.agg #[.int .i64 an, .int .i64 ad], .agg #[.int .i64 bn, .int .i64 bd]] w fun e w' => e = .returned (.tuple #[rtv r.1, .int .i64 r.2]) ∧ Below w.heap.size w w' := by
  simp only [rtv] at *
  have HA := hideR HA
  go_enter Tryd.func26, Tryd.ntmps26
  go_wp2_with fail
  go_at_call 23
  refine (HA.out _).mono ?_
  rintro e w1 ⟨rfl, b1⟩
  obtain ⟨hc, hf⟩ := bcell b1
  have z1 := b1.size
  simp at z1
  go_wp2_with fail
  exact bodyPost_ret (v := .tuple #[.agg #[.int .i64 r.1.N, .int .i64 r.1.D], .int .i64 r.2]) (by simp [results, Tryd.results26, go_sem, hc]) rfl ⟨rfl, ((bup (bel3 w _ _ _) b1).setCell (by simp; omega) _).setCell (by simp; omega) _⟩

set_option maxRecDepth 100000 in
set_option maxHeartbeats 300000 in
theorem neg_walk (an ad nb : Int) (hn : IntKind.i64.wrap (-an) = nb) (ok : Bool) (r : Rt × Int) (hr : (ok = false ∧ r = (⟨0, 0⟩, 12)) ∨ (ok = true ∧ r = (⟨nb, ad⟩, 0)))
    (HA : ∀ w, Calls Tryd.prog 21 #[.agg #[.int .i64 an, .int .i64 ad]] w fun e w' => e = .returned (.bool ok) ∧ Below w.heap.size w w') (w : World) :
    Calls Tryd.prog 28 #[.agg #[.int .i64 an, .int .i64 ad]] w fun e w' => e = .returned (.tuple #[rtv r.1, .int .i64 r.2]) ∧ Below w.heap.size w w' := by
  simp only [rtv] at *
  have HA := hideR HA
  rcases hr with ⟨rfl, rfl⟩ | ⟨rfl, rfl⟩
  all_goals (
    go_enter Tryd.func28, Tryd.ntmps28
    go_wp2_with fail
    go_at_call 21
    refine (HA.out _).mono ?_
    rintro e w1 ⟨rfl, b1⟩
    obtain ⟨hc, hf⟩ := bcell b1
    have z1 := b1.size
    simp at z1)
  · go_wp2_with fail
    exact bodyPost_ret (v := .tuple #[.agg #[.int .i64 0, .int .i64 0], .int .i64 12]) (by simp [results, Tryd.results28, go_sem, hc]) rfl ⟨rfl, ((bup (bel2 w _ _) b1).setCell (by simp) _).setCell (by simp) _⟩
  · go_wp2_with fail
    exact bodyPost_ret (v := .tuple #[.agg #[.int .i64 nb, .int .i64 ad], .int .i64 0]) (by simp [results, Tryd.results28, go_sem, hc]) rfl ⟨rfl, ((bup (bel2 w _ _) b1).setCell (by simp) _).setCell (by simp) _⟩

set_option maxRecDepth 100000 in
set_option maxHeartbeats 300000 in
theorem cmp_same (an ad : Int) (w : World) :
    Calls Tryd.prog 39 #[.agg #[.int .i64 an, .int .i64 ad], .agg #[.int .i64 an, .int .i64 ad]] w fun e w' => e = .returned (.int .i64 0) ∧ Below w.heap.size w w' := by
  go_enter Tryd.func39, Tryd.ntmps39
  go_wp2_with fail
  go_ret
  exact ⟨rfl, bel2 _ _ _⟩

set_option maxRecDepth 100000 in
set_option maxHeartbeats 300000 in
theorem cmp_walk (an ad bn bd p q c : Int) (hne : ¬ an = bn)
    (HP1 : ∀ w, Calls Tryd.prog 67 #[.int .i64 an, .int .i64 bd] w fun e w' => e = .returned (wv p) ∧ Below w.heap.size w w')
    (HP2 : ∀ w, Calls Tryd.prog 67 #[.int .i64 bn, .int .i64 ad] w fun e w' => e = .returned (wv q) ∧ Below w.heap.size w w')
    (HQ : ∀ w, Calls Tryd.prog 73 #[wv p, wv q] w fun e w' => e = .returned (.int .i64 c) ∧ Below w.heap.size w w') (w : World) :
    Calls Tryd.prog 39 #[.agg #[.int .i64 an, .int .i64 ad], .agg #[.int .i64 bn, .int .i64 bd]] w fun e w' => e = .returned (.int .i64 c) ∧ Below w.heap.size w w' := by
  have HP1 := hideR HP1
  have HP2 := hideR HP2
  have HQ := hideR HQ
  go_enter Tryd.func39, Tryd.ntmps39
  have SC : ((w.alloc (.cells #[.int .i64 an, .int .i64 ad] 26)).alloc (.cells #[.int .i64 bn, .int .i64 bd] 26)).cell? ⟨w.heap.size, 0, none⟩ = some (.int .i64 an) ∧ ((w.alloc (.cells #[.int .i64 an, .int .i64 ad] 26)).alloc (.cells #[.int .i64 bn, .int .i64 bd] 26)).cell? ⟨w.heap.size, 1, none⟩ = some (.int .i64 ad) ∧ ((w.alloc (.cells #[.int .i64 an, .int .i64 ad] 26)).alloc (.cells #[.int .i64 bn, .int .i64 bd] 26)).cell? ⟨w.heap.size + 1, 0, none⟩ = some (.int .i64 bn) ∧ ((w.alloc (.cells #[.int .i64 an, .int .i64 ad] 26)).alloc (.cells #[.int .i64 bn, .int .i64 bd] 26)).cell? ⟨w.heap.size + 1, 1, none⟩ = some (.int .i64 bd) := ⟨by go_simp, by go_simp, by go_simp, by go_simp⟩
  have zA : w.heap.size < ((w.alloc (.cells #[.int .i64 an, .int .i64 ad] 26)).alloc (.cells #[.int .i64 bn, .int .i64 bd] 26)).heap.size := by simp; omega
  have zB : w.heap.size + 1 < ((w.alloc (.cells #[.int .i64 an, .int .i64 ad] 26)).alloc (.cells #[.int .i64 bn, .int .i64 bd] 26)).heap.size := by simp
  have BV := bel2 w (.cells #[.int .i64 an, .int .i64 ad] 26) (.cells #[.int .i64 bn, .int .i64 bd] 26)
  go_wp2_with fail
  all_goals (
    generalize (w.alloc (.cells #[.int .i64 an, .int .i64 ad] 26)).alloc (.cells #[.int .i64 bn, .int .i64 bd] 26) = V at *
    obtain ⟨c0, c1, c2, c3⟩ := id SC
    go_region_held3 (fun w' => w'.cell? ⟨w.heap.size, 0, none⟩ = some (.int .i64 an) ∧ w'.cell? ⟨w.heap.size, 1, none⟩ = some (.int .i64 ad) ∧ w'.cell? ⟨w.heap.size + 1, 0, none⟩ = some (.int .i64 bn) ∧ w'.cell? ⟨w.heap.size + 1, 1, none⟩ = some (.int .i64 bd)) (first | assumption | go_keep)
      (first | (go_at_call_of 67 an; refine (HP1.out _).mono ?_; rintro e w3 ⟨rfl, b3⟩; have S3 := keep4 b3 zA zB SC) | (go_at_call_of 67 bn; refine (HP2.out _).mono ?_; rintro e w4 ⟨rfl, b4⟩; have B4 := bup b3 b4; have S4 := keep4 B4 zA zB SC) | (go_at_call 73; refine (HQ.out _).mono ?_; rintro e w5 ⟨rfl, b5⟩; have B5 := bup B4 b5; have S5 := keep4 B5 zA zB SC))
    all_goals (try go_wp2_with fail)
    all_goals go_ret
    all_goals exact ⟨rfl, bup BV.drew B5⟩)

set_option maxRecDepth 100000 in
set_option maxHeartbeats 300000 in
theorem cmp_walk2 (an ad bd p q c : Int) (hne : ¬ ad = bd)
    (HP1 : ∀ w, Calls Tryd.prog 67 #[.int .i64 an, .int .i64 bd] w fun e w' => e = .returned (wv p) ∧ Below w.heap.size w w')
    (HP2 : ∀ w, Calls Tryd.prog 67 #[.int .i64 an, .int .i64 ad] w fun e w' => e = .returned (wv q) ∧ Below w.heap.size w w')
    (HQ : ∀ w, Calls Tryd.prog 73 #[wv p, wv q] w fun e w' => e = .returned (.int .i64 c) ∧ Below w.heap.size w w') (w : World) :
    Calls Tryd.prog 39 #[.agg #[.int .i64 an, .int .i64 ad], .agg #[.int .i64 an, .int .i64 bd]] w fun e w' => e = .returned (.int .i64 c) ∧ Below w.heap.size w w' := by
  have HP1 := hideR HP1
  have HP2 := hideR HP2
  have HQ := hideR HQ
  go_enter Tryd.func39, Tryd.ntmps39
  have SC : ((w.alloc (.cells #[.int .i64 an, .int .i64 ad] 26)).alloc (.cells #[.int .i64 an, .int .i64 bd] 26)).cell? ⟨w.heap.size, 0, none⟩ = some (.int .i64 an) ∧ ((w.alloc (.cells #[.int .i64 an, .int .i64 ad] 26)).alloc (.cells #[.int .i64 an, .int .i64 bd] 26)).cell? ⟨w.heap.size, 1, none⟩ = some (.int .i64 ad) ∧ ((w.alloc (.cells #[.int .i64 an, .int .i64 ad] 26)).alloc (.cells #[.int .i64 an, .int .i64 bd] 26)).cell? ⟨w.heap.size + 1, 0, none⟩ = some (.int .i64 an) ∧ ((w.alloc (.cells #[.int .i64 an, .int .i64 ad] 26)).alloc (.cells #[.int .i64 an, .int .i64 bd] 26)).cell? ⟨w.heap.size + 1, 1, none⟩ = some (.int .i64 bd) := ⟨by go_simp, by go_simp, by go_simp, by go_simp⟩
  have zA : w.heap.size < ((w.alloc (.cells #[.int .i64 an, .int .i64 ad] 26)).alloc (.cells #[.int .i64 an, .int .i64 bd] 26)).heap.size := by simp; omega
  have zB : w.heap.size + 1 < ((w.alloc (.cells #[.int .i64 an, .int .i64 ad] 26)).alloc (.cells #[.int .i64 an, .int .i64 bd] 26)).heap.size := by simp
  have BV := bel2 w (.cells #[.int .i64 an, .int .i64 ad] 26) (.cells #[.int .i64 an, .int .i64 bd] 26)
  go_wp2_with fail
  all_goals (
    generalize (w.alloc (.cells #[.int .i64 an, .int .i64 ad] 26)).alloc (.cells #[.int .i64 an, .int .i64 bd] 26) = V at *
    obtain ⟨c0, c1, c2, c3⟩ := id SC
    go_region_held3 (fun w' => w'.cell? ⟨w.heap.size, 0, none⟩ = some (.int .i64 an) ∧ w'.cell? ⟨w.heap.size, 1, none⟩ = some (.int .i64 ad) ∧ w'.cell? ⟨w.heap.size + 1, 0, none⟩ = some (.int .i64 an) ∧ w'.cell? ⟨w.heap.size + 1, 1, none⟩ = some (.int .i64 bd)) (first | assumption | go_keep)
      (first | (go_at_call_of 67 bd; refine (HP1.out _).mono ?_; rintro e w3 ⟨rfl, b3⟩; have S3 := keep4 b3 zA zB SC) | (go_at_call_of 67 ad; refine (HP2.out _).mono ?_; rintro e w4 ⟨rfl, b4⟩; have B4 := bup b3 b4; have S4 := keep4 B4 zA zB SC) | (go_at_call 73; refine (HQ.out _).mono ?_; rintro e w5 ⟨rfl, b5⟩; have B5 := bup B4 b5; have S5 := keep4 B5 zA zB SC))
    all_goals (try go_wp2_with fail)
    all_goals go_ret
    all_goals exact ⟨rfl, bup BV.drew B5⟩)

theorem neg64_wrap (k : Int) : I64 (IntKind.i64.wrap (-k)) := by rw [IntKind.wrap_i64]; unfold I64; omega
theorem neg64_right (b : Rt) (h : I64 b.N) : rightB ⟨IntKind.i64.wrap (-b.N), b.D⟩ = rightB b ∧ (rightB b = true → IntKind.i64.wrap (-b.N) = -b.N) := by
  unfold I64 at h
  rw [IntKind.wrap_i64]
  by_cases hm : b.N = -9223372036854775808
  · have h1 : rightB b = false := by unfold rightB; rw [decide_eq_false]; omega
    rw [hm, h1]
    refine ⟨by unfold rightB; rw [decide_eq_false]; simp, nofun⟩
  · have e : (-b.N + 9223372036854775808) % 18446744073709551616 - 9223372036854775808 = -b.N := by omega
    rw [e]
    exact ⟨neg_right b, fun _ => rfl⟩
theorem subA_eq (a b : Rt) (h : I64 b.N) : subA a b = addA a ⟨IntKind.i64.wrap (-b.N), b.D⟩ := by
  obtain ⟨h1, h2⟩ := neg64_right b h
  unfold subA addA
  rw [h1]
  by_cases hr : (rightB a && rightB b) = true
  · rw [if_pos hr, if_pos hr, h2 (by simp at hr; exact hr.2), val_sub]
  · rw [if_neg hr, if_neg hr]
theorem sub_any (a b : Rt) (ha : RtIn a) (hb : RtIn b) (w : World) :
    Calls Tryd.prog 26 #[rtv a, rtv b] w fun e w' => e = .returned (.tuple #[rtv (subA a b).1, .int .i64 (subA a b).2]) ∧ Below w.heap.size w w' := by
  rw [subA_eq a b hb.1]
  exact sub_walk a.N a.D b.N b.D _ _ rfl (add_any a ⟨IntKind.i64.wrap (-b.N), b.D⟩ ha ⟨neg64_wrap _, hb.2⟩) w
theorem neg_any (a : Rt) (ha : RtIn a) (w : World) :
    Calls Tryd.prog 28 #[rtv a] w fun e w' => e = .returned (.tuple #[rtv (negA a).1, .int .i64 (negA a).2]) ∧ Below w.heap.size w w' := by
  refine neg_walk a.N a.D _ rfl (rightB a) _ ?_ (right_any a ha) w
  cases h : rightB a
  · exact .inl ⟨rfl, by unfold negA; rw [if_neg (by simp [h])]; rfl⟩
  · exact .inr ⟨rfl, by unfold negA; rw [if_pos h, (neg64_right a ha.1).2 h]⟩
theorem cmp_cmpZ (a b : Rt) : cmpZ (a.N * b.D) (b.N * a.D) = cmpI a b := rfl
theorem mul64_in {x y : Int} (hx : I64 x) (hy : I64 y) : In128 (x * y) := by
  unfold I64 at hx hy
  have := mul_bounds (x := x) (y := y) (X := 9223372036854775808) (Y := 9223372036854775808) ⟨by omega, by omega⟩ ⟨by omega, by omega⟩
  unfold In128
  omega
theorem cmp_any (a b : Rt) (ha : RtIn a) (hb : RtIn b) (w : World) :
    Calls Tryd.prog 39 #[rtv a, rtv b] w fun e w' => e = .returned (.int .i64 (cmpI a b)) ∧ Below w.heap.size w w' := by
  by_cases h : a.N = b.N ∧ a.D = b.D
  · obtain rfl : a = b := by cases a; cases b; simp only at h; rw [h.1, h.2]
    rw [cmp_self]
    exact cmp_same a.N a.D w
  · by_cases hn : a.N = b.N
    · have := cmp_walk2 a.N a.D b.D _ _ _ (fun e => h ⟨hn, e⟩) (product_any _ _ ha.1 hb.2) (product_any _ _ ha.1 ha.2) (compare_any _ _ (mul64_in ha.1 hb.2) (mul64_in ha.1 ha.2)) w
      rw [← cmp_cmpZ]
      unfold rtv
      rw [← hn]
      exact this
    exact cmp_walk a.N a.D b.N b.D _ _ _ hn (product_any _ _ ha.1 hb.2) (product_any _ _ hb.1 ha.2) (compare_any _ _ (mul64_in ha.1 hb.2) (mul64_in hb.1 ha.2)) w
end Go.Proofs.YtmofjkfghidlnaaDoor

/- Variables of two cells through calls. -/
namespace Go.Proofs.YtmofjkfghidlnaaDoor
open Go.RowKit

/-- Two cells that lie in a block. -/
def Two (V : World) (R : Nat) (x y : Value) : Prop := R < V.heap.size ∧ V.cell? ⟨R, 0, none⟩ = some x ∧ V.cell? ⟨R, 1, none⟩ = some y ∧ V.frozen? ⟨R, 0, none⟩ = false ∧ V.frozen? ⟨R, 1, none⟩ = false
theorem Two.new (W : World) (x y : Value) (t : TypeId) : Two (W.alloc (.cells #[x, y] t)) W.heap.size x y :=
  ⟨by simp, by go_simp, by go_simp, by go_simp, by go_simp⟩
theorem Two.keep {V V2 : World} {R : Nat} {x y : Value} (h : Two V R x y) (b : Below V.heap.size V V2) : Two V2 R x y :=
  ⟨Nat.lt_of_lt_of_le h.1 b.size, two_keep b h.1 h.2.1 h.2.2.1 h.2.2.2.1 h.2.2.2.2⟩
theorem Two.alloc {V : World} {R : Nat} {x y : Value} (h : Two V R x y) (o : Obj) : Two (V.alloc o) R x y := h.keep (bel1 V o)
/-- A variable is written over. -/
theorem Two.set {V : World} {R : Nat} {x y x2 y2 : Value} (h : Two V R x y) : Two ((V.setCell ⟨R, 0, none⟩ x2).setCell ⟨R, 1, none⟩ y2) R x2 y2 := by
  obtain ⟨z, c0, c1, f0, f1⟩ := h
  exact ⟨by simpa using z, by go_simp, by go_simp, by go_simp, by go_simp⟩
theorem Two.other {V : World} {R S : Nat} {x y x2 y2 : Value} (h : Two V R x y) (n : S ≠ R) : Two ((V.setCell ⟨S, 0, none⟩ x2).setCell ⟨S, 1, none⟩ y2) R x y := by
  obtain ⟨z, c0, c1, f0, f1⟩ := h
  have n2 : R ≠ S := fun e => n e.symm
  exact ⟨by simpa using z, by go_simp, by go_simp, by go_simp, by go_simp⟩
/-- Three ratios that were handed in, each in a block. -/
def Three (B : Nat) (an ad bn bd cn cd : Int) (V : World) : Prop := Two V B (.int .i64 an) (.int .i64 ad) ∧ Two V (B + 1) (.int .i64 bn) (.int .i64 bd) ∧ Two V (B + 1 + 1) (.int .i64 cn) (.int .i64 cd)
theorem Three.new (w : World) (an ad bn bd cn cd : Int) (t : TypeId) : Three w.heap.size an ad bn bd cn cd (((w.alloc (.cells #[.int .i64 an, .int .i64 ad] t)).alloc (.cells #[.int .i64 bn, .int .i64 bd] t)).alloc (.cells #[.int .i64 cn, .int .i64 cd] t)) := by
  have h1 := ((Two.new w (.int .i64 an) (.int .i64 ad) t).alloc (.cells #[.int .i64 bn, .int .i64 bd] t)).alloc (.cells #[.int .i64 cn, .int .i64 cd] t)
  have h2 := (Two.new (w.alloc (.cells #[.int .i64 an, .int .i64 ad] t)) (.int .i64 bn) (.int .i64 bd) t).alloc (.cells #[.int .i64 cn, .int .i64 cd] t)
  have h3 := Two.new ((w.alloc (.cells #[.int .i64 an, .int .i64 ad] t)).alloc (.cells #[.int .i64 bn, .int .i64 bd] t)) (.int .i64 cn) (.int .i64 cd) t
  rw [show ((w.alloc (.cells #[.int .i64 an, .int .i64 ad] t)).alloc (.cells #[.int .i64 bn, .int .i64 bd] t)).heap.size = w.heap.size + 1 + 1 by simp] at h3
  rw [show (w.alloc (.cells #[.int .i64 an, .int .i64 ad] t)).heap.size = w.heap.size + 1 by simp] at h2
  exact ⟨h1, h2, h3⟩
theorem Three.keep {B : Nat} {an ad bn bd cn cd : Int} {V V2 : World} (h : Three B an ad bn bd cn cd V) (b : Below V.heap.size V V2) : Three B an ad bn bd cn cd V2 := ⟨h.1.keep b, h.2.1.keep b, h.2.2.keep b⟩
theorem Three.alloc {B : Nat} {an ad bn bd cn cd : Int} {V : World} (h : Three B an ad bn bd cn cd V) (o : Obj) : Three B an ad bn bd cn cd (V.alloc o) := h.keep (bel1 V o)
theorem Two.drew {V : World} {R : Nat} {x y : Value} (h : Two V R x y) : Two V.drew R x y := h
theorem Three.drew {B : Nat} {an ad bn bd cn cd : Int} {V : World} (h : Three B an ad bn bd cn cd V) : Three B an ad bn bd cn cd V.drew := h
end Go.Proofs.YtmofjkfghidlnaaDoor
