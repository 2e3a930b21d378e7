/- The walk of CellLong: long texts of one make (kinds 0, 1, 2). -/
import Derived.Test.YtgjkholmoamblaaDoorCLgL
namespace Go.Proofs.YtgjkholmoamblaaDoor
open Go.RowKit

set_option maxRecDepth 100000 in
set_option maxHeartbeats 4000000 in
theorem long0_any (kd : Int) (k1 : -9223372036854775808 ≤ kd) (k2 : kd ≤ 9223372036854775807) (m : Int) (m1 : -9223372036854775808 ≤ m) (m2 : m ≤ 9223372036854775807) (ct : Int) (c1 : -9223372036854775808 ≤ ct) (c2 : ct ≤ 9223372036854775807)
    (n : Nat) (hn : withinI m 40000 = n) (hn4 : n < 40000) (hk : withinI kd 6 = 0) (N : Nat) (w : World) (hT : Tabs N w) :
    Calls Tryd.prog 8 #[.int .i64 kd, .int .i64 m, .int .i64 ct] w fun e w' => e = .returned (.bool true) ∧ Below w.heap.size w w' := by
  obtain ⟨i0, hi, hz0, hz1, hz2⟩ := info_partsC infoB
  have hml := fun j => made_len 0 j
  have HK := hideC (fun W hW => known_any N W hW)
  have HW1 := hideC (fun W => within_any m 40000 m1 m2 (by omega) (by omega) W)
  have HW2 := hideC (fun W => within_any kd 6 k1 k2 (by omega) (by omega) W)
  rw [hn] at HW1
  rw [hk] at HW2
  go_enter Tryd.func8, Tryd.ntmps8
  go_wp2_with fail
  refine (HK.out _ hT).mono ?_
  rintro e w1 ⟨rfl, b1⟩
  have s1 := b1.size
  go_wp2_with fail
  refine (HW1.out _).mono ?_
  rintro e w1 ⟨rfl, rfl⟩
  go_wp2_with fail
  refine (HW2.out _).mono ?_
  rintro e w1 ⟨rfl, rfl⟩
  clear HK HW1 HW2
  obtain ⟨q, hq⟩ : ∃ q : Nat, n + 1 = q := ⟨_, rfl⟩
  obtain ⟨C, hC⟩ : ∃ C : Nat, q / 2 = C := ⟨_, rfl⟩
  have hqi : (n : Int) + 1 = (q : Int) := by omega
  have hqc : (q : Int) / 2 = (C : Int) := by omega
  have hqb : q ≤ 40000 := by omega
  have hCb : C ≤ 40000 := by omega
  have HQ : Hid (n + 1 = q ∧ q / 2 = C) := ⟨hq, hC⟩
  clear hq hC
  go_wp2
  go_loopw [7, 10] (fun b i wr => ∃ j : Nat, i = .int .i64 j ∧ j ≤ n ∧ wr.ownsRow w1.heap.size 5 1 b (made 0 j).length (byteW (made 0 j)) ∧ Below w1.heap.size w1 wr) (fun _ i _ => n - (intOf i).toNat)
  case atStart => exact ⟨0, rfl, by omega, World.ownsRow_nil _ _ _ _, Below.refl _ _⟩
  case round =>
    obtain ⟨j, rfl, hj, hown, hB⟩ := hrel
    have sB := hB.size
    have hmlj := hml j
    by_cases hjn : j < n
    · have hji : (j : Int) < (n : Int) := by omega
      go_wp2_with (at_builtin; refine Lib.wpList_append_own_string _ rfl _ _ 43 9 rfl w1.heap.size 5 i0 Tryd.underlying43 Tryd.underlying9 hi hz0 hz1 hz2 _ _ _ rfl hown (tx [240, 159, 135, 166]) rfl (by rw [tx_size]; unfold maxLen; simp only [List.length_cons, List.length_nil]; omega) (by rw [tx_size]; simp only [List.length_cons, List.length_nil]; omega) (by omega) ?_; intro v' w3 hown' hgrow _)
      have hB3 := Below.grown hB hgrow (by omega) (fun i hj => (hown.lt i hj).1)
      go_roundw
      case rel => exact ⟨j + 1, by go_num, by omega, by rw [made0_len j, made0_bytes j]; exact hown', hB3⟩
      case measure => simp [intOf]; omega
    · obtain rfl : n = j := by omega
      have hcv := row_string hown
      have hsz : (tx (made 0 n)).size ≤ 280001 := by rw [tx_size]; omega
      obtain ⟨e1, e2⟩ := made_all 0 n (by omega)
      have E1 : (clusters (tx (made 0 n))).length = C := by rw [e1]; simp only [madeC]; (try (have hq := HQ.out; omega))
      have E2 : ofI (tx (made 0 n)) = (n : Int) := by rw [e2]; simp only [madeW]; (try (have hq := HQ.out; omega))
      clear e1 e2 hown hml hmlj
      generalize tx (made 0 n) = s at *
      have HA := hideC (fun W hW => allC_any s (by omega) (C : Nat) (by omega) N W hW)
      have HO := hideC (fun W hW => of_any s (by omega) N W hW)
      rw [E1] at HA
      rw [E2] at HO
      have hyb := withinI_bd ct ((n : Int) + 2) (by omega)
      have HW := hideC (fun W => within_any ct ((n : Int) + 2) c1 c2 (by omega) (by omega) W)
      obtain ⟨y, hy⟩ : ∃ y : Nat, withinI ct ((n : Int) + 2) = y := ⟨(withinI ct ((n : Int) + 2)).toNat, by omega⟩
      rw [hy] at HW hyb
      have hEb := cutI_bd s y
      obtain ⟨E, hEq⟩ : ∃ E : Nat, cutI s y = E := ⟨(cutI s y).toNat, by omega⟩
      have HC := hideC (fun W hW => cut_any s (by omega) y N W hW)
      have HR := hideC (fun W => refCut_any s (by omega) y (by omega) (by omega) W)
      rw [show cutR s y = .tuple #[.string (s.extract 0 E), .string (s.extract E s.size), .int .i64 0] from by unfold cutR; rw [if_neg (by omega), hEq]; rfl] at HC
      rw [hEq] at HR hEb
      have za : (s.extract 0 E).size = E := by rw [ByteArray.size_extract]; omega
      have zc : (s.extract E s.size).size = s.size - E := by rw [ByteArray.size_extract]; omega
      generalize s.extract 0 E = sa at *
      generalize s.extract E s.size = sc at *
      have hsum : (E : Int) + ((s.size - E : Nat) : Int) = (s.size : Int) := by omega
      have bB := b1.trans (hB.mono s1)
      clear E1 E2 hy hEq
      have HZ := hideC (And.intro za (And.intro zc (And.intro hsum (And.intro hEb hyb))))
      clear za zc hsum hEb hyb
      go_wp2_with fail
      refine (HA.out _ (hT.below bB)).mono ?_
      rintro e w2 ⟨v2, rfl, o2, b2⟩
      obtain ⟨po, cc, rfl⟩ := row_len o2
      have bB2 := bB.trans (b2.mono bB.size)
      clear o2 b2 HA
      go_wp2_with fail
      refine (HO.out _ (hT.below bB2)).mono ?_
      rintro e w3 ⟨rfl, b3⟩
      have bB3 := bB2.trans (b3.mono bB2.size)
      clear HO
      go_wp2_with fail
      refine (HW.out _).mono ?_
      rintro e w3 ⟨rfl, rfl⟩
      go_wp2_with fail
      refine (HC.out _ (hT.below bB3)).mono ?_
      rintro e w4 ⟨rfl, b4⟩
      have bB4 := bB3.trans (b4.mono bB3.size)
      go_wp2_with fail
      refine (HR.out _).mono ?_
      rintro e w5 ⟨rfl, b5⟩
      have bB5 := bB4.trans (b5.mono bB4.size)
      clear HW HC HR
      obtain ⟨za, zc, hsum, hEb, hyb⟩ := HZ.out
      go_wp2
      go_ret
      exact ⟨rfl, bB5⟩

set_option maxRecDepth 100000 in
set_option maxHeartbeats 4000000 in
theorem long1_any (kd : Int) (k1 : -9223372036854775808 ≤ kd) (k2 : kd ≤ 9223372036854775807) (m : Int) (m1 : -9223372036854775808 ≤ m) (m2 : m ≤ 9223372036854775807) (ct : Int) (c1 : -9223372036854775808 ≤ ct) (c2 : ct ≤ 9223372036854775807)
    (n : Nat) (hn : withinI m 40000 = n) (hn4 : n < 40000) (hk : withinI kd 6 = 1) (N : Nat) (w : World) (hT : Tabs N w) :
    Calls Tryd.prog 8 #[.int .i64 kd, .int .i64 m, .int .i64 ct] w fun e w' => e = .returned (.bool true) ∧ Below w.heap.size w w' := by
  obtain ⟨i0, hi, hz0, hz1, hz2⟩ := info_partsC infoB
  have hml := fun j => made_len 1 j
  have HK := hideC (fun W hW => known_any N W hW)
  have HW1 := hideC (fun W => within_any m 40000 m1 m2 (by omega) (by omega) W)
  have HW2 := hideC (fun W => within_any kd 6 k1 k2 (by omega) (by omega) W)
  rw [hn] at HW1
  rw [hk] at HW2
  go_enter Tryd.func8, Tryd.ntmps8
  go_wp2_with fail
  refine (HK.out _ hT).mono ?_
  rintro e w1 ⟨rfl, b1⟩
  have s1 := b1.size
  go_wp2_with fail
  refine (HW1.out _).mono ?_
  rintro e w1 ⟨rfl, rfl⟩
  go_wp2_with fail
  refine (HW2.out _).mono ?_
  rintro e w1 ⟨rfl, rfl⟩
  clear HK HW1 HW2
  go_wp2_with (at_builtin; refine wpList_append_own _ rfl _ _ 43 rfl w1.heap.size 5 i0 (.int .u8 0) 1 1 Tryd.underlying43 hi hz0 hz1 hz2 rfl (by decide) _ _ _ rfl ((World.ownsRow_nil w1 w1.heap.size 5 1).alloc _) ⟨w1.heap.size, 0, none⟩ 1 1 [.int .u8 97] rfl rfl (cell_one_new _ _ _) (fun u hu => by simp at hu; subst hu; rfl) (by unfold maxLen; omega) (by omega) (by rw [World.size_alloc]; omega) ?_; intro v0 wa hown0 hgrow0 _)
  have hBa := Below.grown ((Below.refl w1.heap.size w1).alloc (Nat.le_refl _) (.cells #[.int .u8 97] 5)) hgrow0 (by simp) (fun j hj => by cases hj)
  go_loopw [7, 10] (fun b i wr => ∃ j : Nat, i = .int .i64 j ∧ j ≤ n ∧ wr.ownsRow w1.heap.size 5 1 b (made 1 j).length (byteW (made 1 j)) ∧ Below w1.heap.size w1 wr) (fun _ i _ => n - (intOf i).toNat)
  case atStart => exact ⟨0, rfl, by omega, hown0, hBa⟩
  case round =>
    obtain ⟨j, rfl, hj, hown, hB⟩ := hrel
    have sB := hB.size
    have hmlj := hml j
    by_cases hjn : j < n
    · have hji : (j : Int) < (n : Int) := by omega
      go_wp2_with (at_builtin; refine Lib.wpList_append_own_string _ rfl _ _ 43 9 rfl w1.heap.size 5 i0 Tryd.underlying43 Tryd.underlying9 hi hz0 hz1 hz2 _ _ _ rfl hown (tx [204, 129]) rfl (by rw [tx_size]; unfold maxLen; simp only [List.length_cons, List.length_nil]; omega) (by rw [tx_size]; simp only [List.length_cons, List.length_nil]; omega) (by omega) ?_; intro v' w3 hown' hgrow _)
      have hB3 := Below.grown hB hgrow (by omega) (fun i hj => (hown.lt i hj).1)
      go_roundw
      case rel => exact ⟨j + 1, by go_num, by omega, by rw [made1_len j, made1_bytes j]; exact hown', hB3⟩
      case measure => simp [intOf]; omega
    · obtain rfl : n = j := by omega
      have hcv := row_string hown
      have hsz : (tx (made 1 n)).size ≤ 280001 := by rw [tx_size]; omega
      obtain ⟨e1, e2⟩ := made_all 1 n (by omega)
      have E1 : (clusters (tx (made 1 n))).length = 1 := by rw [e1]; simp only [madeC]; (try omega)
      have E2 : ofI (tx (made 1 n)) = 1 := by rw [e2]; simp only [madeW]; (try omega)
      clear e1 e2 hown hml hmlj
      generalize tx (made 1 n) = s at *
      have HA := hideC (fun W hW => allC_any s (by omega) (1 : Nat) (by omega) N W hW)
      have HO := hideC (fun W hW => of_any s (by omega) N W hW)
      rw [E1] at HA
      rw [E2] at HO
      have hyb := withinI_bd ct (1 + 2) (by omega)
      have HW := hideC (fun W => within_any ct (1 + 2) c1 c2 (by omega) (by omega) W)
      obtain ⟨y, hy⟩ : ∃ y : Nat, withinI ct (1 + 2) = y := ⟨(withinI ct (1 + 2)).toNat, by omega⟩
      rw [hy] at HW hyb
      have hEb := cutI_bd s y
      obtain ⟨E, hEq⟩ : ∃ E : Nat, cutI s y = E := ⟨(cutI s y).toNat, by omega⟩
      have HC := hideC (fun W hW => cut_any s (by omega) y N W hW)
      have HR := hideC (fun W => refCut_any s (by omega) y (by omega) (by omega) W)
      rw [show cutR s y = .tuple #[.string (s.extract 0 E), .string (s.extract E s.size), .int .i64 0] from by unfold cutR; rw [if_neg (by omega), hEq]; rfl] at HC
      rw [hEq] at HR hEb
      have za : (s.extract 0 E).size = E := by rw [ByteArray.size_extract]; omega
      have zc : (s.extract E s.size).size = s.size - E := by rw [ByteArray.size_extract]; omega
      generalize s.extract 0 E = sa at *
      generalize s.extract E s.size = sc at *
      have hsum : (E : Int) + ((s.size - E : Nat) : Int) = (s.size : Int) := by omega
      have bB := b1.trans (hB.mono s1)
      clear E1 E2 hy hEq
      have HZ := hideC (And.intro za (And.intro zc (And.intro hsum (And.intro hEb hyb))))
      clear za zc hsum hEb hyb
      go_wp2_with fail
      refine (HA.out _ (hT.below bB)).mono ?_
      rintro e w2 ⟨v2, rfl, o2, b2⟩
      obtain ⟨po, cc, rfl⟩ := row_len o2
      have bB2 := bB.trans (b2.mono bB.size)
      clear o2 b2 HA
      go_wp2_with fail
      refine (HO.out _ (hT.below bB2)).mono ?_
      rintro e w3 ⟨rfl, b3⟩
      have bB3 := bB2.trans (b3.mono bB2.size)
      clear HO
      go_wp2_with fail
      refine (HW.out _).mono ?_
      rintro e w3 ⟨rfl, rfl⟩
      go_wp2_with fail
      refine (HC.out _ (hT.below bB3)).mono ?_
      rintro e w4 ⟨rfl, b4⟩
      have bB4 := bB3.trans (b4.mono bB3.size)
      go_wp2_with fail
      refine (HR.out _).mono ?_
      rintro e w5 ⟨rfl, b5⟩
      have bB5 := bB4.trans (b5.mono bB4.size)
      clear HW HC HR
      obtain ⟨za, zc, hsum, hEb, hyb⟩ := HZ.out
      go_wp2
      go_ret
      exact ⟨rfl, bB5⟩

set_option maxRecDepth 100000 in
set_option maxHeartbeats 4000000 in
theorem long2_any (kd : Int) (k1 : -9223372036854775808 ≤ kd) (k2 : kd ≤ 9223372036854775807) (m : Int) (m1 : -9223372036854775808 ≤ m) (m2 : m ≤ 9223372036854775807) (ct : Int) (c1 : -9223372036854775808 ≤ ct) (c2 : ct ≤ 9223372036854775807)
    (n : Nat) (hn : withinI m 40000 = n) (hn4 : n < 40000) (hk : withinI kd 6 = 2) (N : Nat) (w : World) (hT : Tabs N w) :
    Calls Tryd.prog 8 #[.int .i64 kd, .int .i64 m, .int .i64 ct] w fun e w' => e = .returned (.bool true) ∧ Below w.heap.size w w' := by
  obtain ⟨i0, hi, hz0, hz1, hz2⟩ := info_partsC infoB
  have hml := fun j => made_len 2 j
  have HK := hideC (fun W hW => known_any N W hW)
  have HW1 := hideC (fun W => within_any m 40000 m1 m2 (by omega) (by omega) W)
  have HW2 := hideC (fun W => within_any kd 6 k1 k2 (by omega) (by omega) W)
  rw [hn] at HW1
  rw [hk] at HW2
  go_enter Tryd.func8, Tryd.ntmps8
  go_wp2_with fail
  refine (HK.out _ hT).mono ?_
  rintro e w1 ⟨rfl, b1⟩
  have s1 := b1.size
  go_wp2_with fail
  refine (HW1.out _).mono ?_
  rintro e w1 ⟨rfl, rfl⟩
  go_wp2_with fail
  refine (HW2.out _).mono ?_
  rintro e w1 ⟨rfl, rfl⟩
  clear HK HW1 HW2
  obtain ⟨C, hC⟩ : ∃ C : Nat, min n 1 = C := ⟨_, rfl⟩
  obtain ⟨Z, hZ⟩ : ∃ Z : Nat, min (2 * n) 2 = Z := ⟨_, rfl⟩
  have hC1 : min (n : Int) 1 = (C : Int) := by omega
  have hZ1 : min (2 * (n : Int)) 2 = (Z : Int) := by omega
  have hCb : C ≤ 1 := by omega
  have hZb : Z ≤ 2 := by omega
  have HQ : Hid (min n 1 = C ∧ min (2 * n) 2 = Z) := ⟨hC, hZ⟩
  clear hC hZ
  go_wp2
  go_loopw [7, 10] (fun b i wr => ∃ j : Nat, i = .int .i64 j ∧ j ≤ n ∧ wr.ownsRow w1.heap.size 5 1 b (made 2 j).length (byteW (made 2 j)) ∧ Below w1.heap.size w1 wr) (fun _ i _ => n - (intOf i).toNat)
  case atStart => exact ⟨0, rfl, by omega, World.ownsRow_nil _ _ _ _, Below.refl _ _⟩
  case round =>
    obtain ⟨j, rfl, hj, hown, hB⟩ := hrel
    have sB := hB.size
    have hmlj := hml j
    by_cases hjn : j < n
    · have hji : (j : Int) < (n : Int) := by omega
      by_cases hj0 : j = 0
      · have tj : ¬ (0 : Int) < (j : Int) := by omega
        have tj' : ¬ 0 < j := by omega
        have HJ := hideC hj0
        clear hj0
        go_wp2_with (at_builtin; refine Lib.wpList_append_own_string _ rfl _ _ 43 9 rfl w1.heap.size 5 i0 Tryd.underlying43 Tryd.underlying9 hi hz0 hz1 hz2 _ _ _ rfl hown (tx [240, 159, 145, 169]) rfl (by rw [tx_size]; unfold maxLen; simp only [List.length_cons, List.length_nil]; omega) (by rw [tx_size]; simp only [List.length_cons, List.length_nil]; omega) (by omega) ?_; intro v' w3 hown' hgrow _)
        have hB3 := Below.grown hB hgrow (by omega) (fun i hj => (hown.lt i hj).1)
        go_roundw
        case rel => exact ⟨j + 1, by go_num, by omega, by rw [HJ.out] at hown' ⊢; exact hown', hB3⟩
        case measure => simp [intOf]; omega
      · have tj : (0 : Int) < (j : Int) := by omega
        have tj' : 0 < j := by omega
        have HJ := hideC hj0
        clear hj0
        go_wp2_with (at_builtin; first | (refine Lib.wpList_append_own_string _ rfl _ _ 43 9 rfl w1.heap.size 5 i0 Tryd.underlying43 Tryd.underlying9 hi hz0 hz1 hz2 _ _ _ rfl hown (tx [226, 128, 141]) rfl (by rw [tx_size]; unfold maxLen; simp only [List.length_cons, List.length_nil]; omega) (by rw [tx_size]; simp only [List.length_cons, List.length_nil]; omega) (by omega) ?_; intro v2 w2 hown2 hgrow2 _; have hB2 := Below.grown hB hgrow2 (by omega) (fun i hj => (hown.lt i hj).1); have sB2 := hB2.size) | (refine Lib.wpList_append_own_string _ rfl _ _ 43 9 rfl w1.heap.size 5 i0 Tryd.underlying43 Tryd.underlying9 hi hz0 hz1 hz2 _ _ _ rfl hown2 (tx [240, 159, 145, 169]) rfl (by rw [tx_size, tx_size]; unfold maxLen; simp only [List.length_cons, List.length_nil]; omega) (by rw [tx_size, tx_size]; simp only [List.length_cons, List.length_nil]; omega) (by omega) ?_; intro v' w3 hown' hgrow _))
        have hB3 := Below.grown hB2 hgrow (by omega) (fun i hj => (hown2.lt i hj).1)
        go_roundw
        case rel => exact ⟨j + 1, by go_num, by omega, by rw [made2_len j HJ.out, made2_bytes j HJ.out]; exact hown', hB3⟩
        case measure => simp [intOf]; omega
    · obtain rfl : n = j := by omega
      have hcv := row_string hown
      have hsz : (tx (made 2 n)).size ≤ 280001 := by rw [tx_size]; omega
      obtain ⟨e1, e2⟩ := made_all 2 n (by omega)
      have E1 : (clusters (tx (made 2 n))).length = C := by rw [e1]; simp only [madeC]; (try (have hq := HQ.out; omega))
      have E2 : ofI (tx (made 2 n)) = (Z : Int) := by rw [e2]; simp only [madeW]; (try (have hq := HQ.out; omega))
      clear e1 e2 hown hml hmlj
      generalize tx (made 2 n) = s at *
      have HA := hideC (fun W hW => allC_any s (by omega) (C : Nat) (by omega) N W hW)
      have HO := hideC (fun W hW => of_any s (by omega) N W hW)
      rw [E1] at HA
      rw [E2] at HO
      have hyb := withinI_bd ct ((Z : Int) + 2) (by omega)
      have HW := hideC (fun W => within_any ct ((Z : Int) + 2) c1 c2 (by omega) (by omega) W)
      obtain ⟨y, hy⟩ : ∃ y : Nat, withinI ct ((Z : Int) + 2) = y := ⟨(withinI ct ((Z : Int) + 2)).toNat, by omega⟩
      rw [hy] at HW hyb
      have hEb := cutI_bd s y
      obtain ⟨E, hEq⟩ : ∃ E : Nat, cutI s y = E := ⟨(cutI s y).toNat, by omega⟩
      have HC := hideC (fun W hW => cut_any s (by omega) y N W hW)
      have HR := hideC (fun W => refCut_any s (by omega) y (by omega) (by omega) W)
      rw [show cutR s y = .tuple #[.string (s.extract 0 E), .string (s.extract E s.size), .int .i64 0] from by unfold cutR; rw [if_neg (by omega), hEq]; rfl] at HC
      rw [hEq] at HR hEb
      have za : (s.extract 0 E).size = E := by rw [ByteArray.size_extract]; omega
      have zc : (s.extract E s.size).size = s.size - E := by rw [ByteArray.size_extract]; omega
      generalize s.extract 0 E = sa at *
      generalize s.extract E s.size = sc at *
      have hsum : (E : Int) + ((s.size - E : Nat) : Int) = (s.size : Int) := by omega
      have bB := b1.trans (hB.mono s1)
      clear E1 E2 hy hEq
      have HZ := hideC (And.intro za (And.intro zc (And.intro hsum (And.intro hEb hyb))))
      clear za zc hsum hEb hyb
      go_wp2_with fail
      refine (HA.out _ (hT.below bB)).mono ?_
      rintro e w2 ⟨v2, rfl, o2, b2⟩
      obtain ⟨po, cc, rfl⟩ := row_len o2
      have bB2 := bB.trans (b2.mono bB.size)
      clear o2 b2 HA
      go_wp2_with fail
      refine (HO.out _ (hT.below bB2)).mono ?_
      rintro e w3 ⟨rfl, b3⟩
      have bB3 := bB2.trans (b3.mono bB2.size)
      clear HO
      go_wp2_with fail
      refine (HW.out _).mono ?_
      rintro e w3 ⟨rfl, rfl⟩
      go_wp2_with fail
      refine (HC.out _ (hT.below bB3)).mono ?_
      rintro e w4 ⟨rfl, b4⟩
      have bB4 := bB3.trans (b4.mono bB3.size)
      go_wp2_with fail
      refine (HR.out _).mono ?_
      rintro e w5 ⟨rfl, b5⟩
      have bB5 := bB4.trans (b5.mono bB4.size)
      clear HW HC HR
      obtain ⟨za, zc, hsum, hEb, hyb⟩ := HZ.out
      go_wp2
      go_ret
      exact ⟨rfl, bB5⟩

end Go.Proofs.YtgjkholmoamblaaDoor
