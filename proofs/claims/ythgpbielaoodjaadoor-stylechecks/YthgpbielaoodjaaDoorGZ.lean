/- Several texts, one behind the other. -/
import Derived.Lib.SmallJoins
import Derived.Deep.Slices
import Derived.ChangeOld
import Derived.ShutString
import Derived.DataShut
import Derived.Test.YthgpbielaoodjaaDoorCutR
import Derived.Test.YthgpbielaoodjaaDoorSoO
import Derived.Test.YthgpbielaoodjaaDoorSpA
import Derived.Test.YthgpbielaoodjaaDoorSpL
/- The reference of chapter 7: fits, within, cross, Check. -/
namespace Go.Proofs.YthgpbielaoodjaaDoor
open Go.RowKit Go.Shelf
attribute [local go_sem] Oper.semAt_some

set_option maxRecDepth 100000 in
set_option maxHeartbeats 1000000 in
theorem rfits_any (x : Sp) (n : Int) (w : World) : Calls Tryd.prog 27 #[x.val, .int .i64 n] w fun e w' => e = .returned (.bool (fitB x n)) ∧ Below w.heap.size w w' := by
  obtain ⟨f, t, k, v⟩ := x
  unfold fitB Sp.val
  simp only
  by_cases h0 : f < 0
  · rw [decide_eq_false (by omega)]
    go_enter Tryd.func27, Tryd.ntmps27
    go_wp2_with fail
    go_ret
    exact ⟨rfl, bel1S w _⟩
  by_cases h1 : n < t
  · rw [decide_eq_false (by omega)]
    go_enter Tryd.func27, Tryd.ntmps27
    go_wp2_with fail
    go_ret
    exact ⟨rfl, bel1S w _⟩
  by_cases h2 : t ≤ f
  · rw [decide_eq_false (by omega)]
    go_enter Tryd.func27, Tryd.ntmps27
    go_wp2_with fail
    go_ret
    exact ⟨rfl, bel1S w _⟩
  by_cases h3 : k < 1
  · rw [decide_eq_false (by omega)]
    go_enter Tryd.func27, Tryd.ntmps27
    go_wp2_with fail
    go_ret
    exact ⟨rfl, bel1S w _⟩
  by_cases h4 : 5 < k
  · rw [decide_eq_false (by omega)]
    go_enter Tryd.func27, Tryd.ntmps27
    go_wp2_with fail
    go_ret
    exact ⟨rfl, bel1S w _⟩
  by_cases hk : k = 5
  · subst hk
    rw [if_pos rfl]
    by_cases h5 : 0 ≤ v
    · by_cases h6 : v ≤ 16777215
      · rw [decide_eq_true (by omega)]
        go_enter Tryd.func27, Tryd.ntmps27
        go_wp2_with fail
        go_ret
        exact ⟨rfl, bel1S w _⟩
      · rw [decide_eq_false (by omega)]
        go_enter Tryd.func27, Tryd.ntmps27
        go_wp2_with fail
        go_ret
        exact ⟨rfl, bel1S w _⟩
    · rw [decide_eq_false (by omega)]
      go_enter Tryd.func27, Tryd.ntmps27
      go_wp2_with fail
      go_ret
      exact ⟨rfl, bel1S w _⟩
  · have hke : (k == 5) = false := by simpa using hk
    rw [if_neg hk]
    by_cases h5 : v = 0
    · subst h5
      rw [decide_eq_true (by omega)]
      go_enter Tryd.func27, Tryd.ntmps27
      go_wp2_with fail
      go_ret
      exact ⟨rfl, bel1S w _⟩
    · have hv : (v == 0) = false := by simpa using h5
      rw [decide_eq_false (by omega)]
      go_enter Tryd.func27, Tryd.ntmps27
      go_wp2_with fail
      go_ret
      exact ⟨rfl, bel1S w _⟩
def inB (a b : Sp) : Bool := decide (b.fr ≤ a.fr ∧ a.tt ≤ b.tt)
set_option maxRecDepth 100000 in
set_option maxHeartbeats 1000000 in
theorem rwithin_any (a b : Sp) (w : World) : Calls Tryd.prog 41 #[a.val, b.val] w fun e w' => e = .returned (.bool (inB a b)) ∧ Below w.heap.size w w' := by
  obtain ⟨f, t, k, v⟩ := a
  obtain ⟨f2, t2, k2, v2⟩ := b
  unfold inB Sp.val
  simp only
  by_cases h1 : f2 ≤ f
  · by_cases h2 : t ≤ t2
    · rw [decide_eq_true (by omega)]
      go_enter Tryd.func41, Tryd.ntmps41
      go_wp2_with fail
      go_ret
      exact ⟨rfl, bupS (bel1S _ _) (bel1S _ _)⟩
    · rw [decide_eq_false (by omega)]
      go_enter Tryd.func41, Tryd.ntmps41
      go_wp2_with fail
      go_ret
      exact ⟨rfl, bupS (bel1S _ _) (bel1S _ _)⟩
  · rw [decide_eq_false (by omega)]
    go_enter Tryd.func41, Tryd.ntmps41
    go_wp2_with fail
    go_ret
    exact ⟨rfl, bupS (bel1S _ _) (bel1S _ _)⟩
instance (a b : Sp) : Decidable (crS a b) := by unfold crS; infer_instance
theorem crS_in (a b : Sp) : crS a b ↔ a.fr < b.tt ∧ b.fr < a.tt ∧ inB a b = false ∧ inB b a = false := by
  unfold crS inB
  simp only [decide_eq_false_iff_not]
set_option maxRecDepth 100000 in
set_option maxHeartbeats 2000000 in
theorem rcross_any (a b : Sp) (w : World) : Calls Tryd.prog 28 #[a.val, b.val] w fun e w' => e = .returned (.bool (decide (crS a b))) ∧ Below w.heap.size w w' := by
  obtain ⟨R, hR⟩ : ∃ R, decide (crS a b) = R := ⟨_, rfl⟩
  have hcr := crS_in a b
  rw [hR]
  have H1 := hideS (rwithin_any a b)
  have H2 := hideS (rwithin_any b a)
  obtain ⟨i1, hi1⟩ : ∃ i1, inB a b = i1 := ⟨_, rfl⟩
  obtain ⟨i2, hi2⟩ : ∃ i2, inB b a = i2 := ⟨_, rfl⟩
  rw [hi1] at H1 hcr
  rw [hi2] at H2 hcr
  obtain ⟨f, t, k, v⟩ := a
  obtain ⟨f2, t2, k2, v2⟩ := b
  unfold Sp.val at H1 H2 ⊢
  simp only at hcr H1 H2 ⊢
  have HB : ∀ W : World, Hid (Below W.heap.size W ((W.alloc (.cells #[.int .i64 f, .int .i64 t, .int .i64 k, .int .i64 v] 39)).alloc (.cells #[.int .i64 f2, .int .i64 t2, .int .i64 k2, .int .i64 v2] 39))) := fun W => hideS (bupS (bel1S _ _) (bel1S _ _))
  have HR : Hid (R = decide (f < t2 ∧ f2 < t ∧ i1 = false ∧ i2 = false)) := hideS (by rw [← hR]; exact decide_eq_decide.2 hcr)
  clear hR hcr hi1 hi2
  by_cases h1 : f < t2
  · by_cases h2 : f2 < t
    · cases i1 with
      | true =>
        obtain rfl : R = false := by rw [HR.out]; simp
        go_enter Tryd.func28, Tryd.ntmps28
        go_wp2_with fail
        refine (H1.out _).mono ?_
        rintro e w1 ⟨rfl, b1⟩
        have Hb := hideS (bupS (HB w).out b1)
        clear b1
        go_wp2_with fail
        go_ret
        exact ⟨rfl, Hb.out⟩
      | false =>
        have hR2 : R = !i2 := by rw [HR.out]; cases i2 <;> simp [h1, h2]
        obtain ⟨V, hV⟩ : ∃ V, ((w.alloc (.cells #[.int .i64 f, .int .i64 t, .int .i64 k, .int .i64 v] 39)).alloc (.cells #[.int .i64 f2, .int .i64 t2, .int .i64 k2, .int .i64 v2] 39)) = V := ⟨_, rfl⟩
        have n0 : V.heap[w.heap.size]? = some (.cells #[.int .i64 f, .int .i64 t, .int .i64 k, .int .i64 v] 39 (0, 0)) := by rw [← hV]; exact (Below.heap_alloc _ _ _ (by simp)).trans (World.alloc_heap_new w _)
        have n1 : V.heap[w.heap.size + 1]? = some (.cells #[.int .i64 f2, .int .i64 t2, .int .i64 k2, .int .i64 v2] 39 (0, 0)) := by
          rw [← hV]
          have h9 := World.alloc_heap_new (w.alloc (.cells #[.int .i64 f, .int .i64 t, .int .i64 k, .int .i64 v] 39)) (.cells #[.int .i64 f2, .int .i64 t2, .int .i64 k2, .int .i64 v2] 39 (0, 0))
          rw [World.size_alloc] at h9
          exact h9
        have l1 : w.heap.size + 1 < V.heap.size := (Array.getElem?_eq_some_iff.1 n1).1
        have hBV : Hid (Below w.heap.size w V) := hideS (by rw [← hV]; exact (HB w).out)
        have HN := hideS (And.intro n0 n1)
        have p0 : V.cell? ⟨w.heap.size, 0, none⟩ = some (.int .i64 f) := by simp [World.cell?, n0]
        have p1 : V.cell? ⟨w.heap.size, 1, none⟩ = some (.int .i64 t) := by simp [World.cell?, n0]
        have p2 : V.cell? ⟨w.heap.size, 2, none⟩ = some (.int .i64 k) := by simp [World.cell?, n0]
        have p3 : V.cell? ⟨w.heap.size, 3, none⟩ = some (.int .i64 v) := by simp [World.cell?, n0]
        have q0 : V.cell? ⟨w.heap.size + 1, 0, none⟩ = some (.int .i64 f2) := by simp [World.cell?, n1]
        have q1 : V.cell? ⟨w.heap.size + 1, 1, none⟩ = some (.int .i64 t2) := by simp [World.cell?, n1]
        have q2 : V.cell? ⟨w.heap.size + 1, 2, none⟩ = some (.int .i64 k2) := by simp [World.cell?, n1]
        have q3 : V.cell? ⟨w.heap.size + 1, 3, none⟩ = some (.int .i64 v2) := by simp [World.cell?, n1]
        clear n0 n1
        go_enter Tryd.func28, Tryd.ntmps28
        go_wp2_with fail
        try rw [hV]
        clear hV p0 p1 p2 p3 q0 q1 q2 q3
        refine (H1.out _).mono ?_
        rintro e w1 ⟨rfl, b1⟩
        have m0 := (b1.block w.heap.size (by omega)).trans HN.out.1
        have m1 := (b1.block (w.heap.size + 1) l1).trans HN.out.2
        have x0 : w1.cell? ⟨w.heap.size, 0, none⟩ = some (.int .i64 f) := by simp [World.cell?, m0]
        have x1 : w1.cell? ⟨w.heap.size, 1, none⟩ = some (.int .i64 t) := by simp [World.cell?, m0]
        have x2 : w1.cell? ⟨w.heap.size, 2, none⟩ = some (.int .i64 k) := by simp [World.cell?, m0]
        have x3 : w1.cell? ⟨w.heap.size, 3, none⟩ = some (.int .i64 v) := by simp [World.cell?, m0]
        have y0 : w1.cell? ⟨w.heap.size + 1, 0, none⟩ = some (.int .i64 f2) := by simp [World.cell?, m1]
        have y1 : w1.cell? ⟨w.heap.size + 1, 1, none⟩ = some (.int .i64 t2) := by simp [World.cell?, m1]
        have y2 : w1.cell? ⟨w.heap.size + 1, 2, none⟩ = some (.int .i64 k2) := by simp [World.cell?, m1]
        have y3 : w1.cell? ⟨w.heap.size + 1, 3, none⟩ = some (.int .i64 v2) := by simp [World.cell?, m1]
        have Hb := hideS (bupS hBV.out b1)
        clear b1 m0 m1
        go_wp2_with fail
        refine (H2.out _).mono ?_
        rintro e w2 ⟨rfl, b2⟩
        have Hb2 := hideS (bupS Hb.out b2)
        clear b2 x0 x1 x2 x3 y0 y1 y2 y3
        subst hR2
        cases i2 with
        | true =>
          go_wp2_with fail
          go_ret
          exact ⟨rfl, Hb2.out⟩
        | false =>
          go_wp2_with fail
          go_ret
          exact ⟨rfl, Hb2.out⟩
    · obtain rfl : R = false := by rw [HR.out]; simp [h2]
      go_enter Tryd.func28, Tryd.ntmps28
      go_wp2_with fail
      go_ret
      exact ⟨rfl, (HB w).out⟩
  · obtain rfl : R = false := by rw [HR.out]; simp [h1]
    go_enter Tryd.func28, Tryd.ntmps28
    go_wp2_with fail
    go_ret
    exact ⟨rfl, (HB w).out⟩
theorem tx_text {W : World} {P : Nat} {a b : Value} (h : W.heap[P]? = some (.cells #[a, b] 27 (0, 0))) : W.cell? ⟨P, 0, none⟩ = some a ∧ W.cell? ⟨P, 1, none⟩ = some b := by simp [World.cell?, h]
/-- No two of the spans up to the i-th one cross. -/
def NoCr (D : List Sp) (i : Nat) : Prop := ∀ j k x y, j < i → k < j → D[j]? = some x → D[k]? = some y → ¬ crS x y
theorem noCr_all {D : List Sp} (h : NoCr D D.length) (hf : ∀ x ∈ D, x.fr < x.tt) : crB D = false := by
  rw [← Bool.not_eq_true, crB_iff D hf]
  rintro ⟨x, hx, y, hy, hc⟩
  obtain ⟨i, hi, rfl⟩ := List.getElem_of_mem hx
  obtain ⟨j, hj, rfl⟩ := List.getElem_of_mem hy
  rcases Nat.lt_trichotomy i j with l | l | l
  · exact h j i _ _ hj l (List.getElem?_eq_getElem hj) (List.getElem?_eq_getElem hi) hc
  · subst l
    exact crS_irr _ hc
  · exact h i j _ _ hi l (List.getElem?_eq_getElem hi) (List.getElem?_eq_getElem hj) (crS_symm hc)
theorem cr_some {D : List Sp} {x y : Sp} (hx : x ∈ D) (hy : y ∈ D) (h : crS x y) (hf : ∀ x ∈ D, x.fr < x.tt) : crB D = true := (crB_iff D hf).2 ⟨y, hy, x, hx, h⟩
theorem fit_lt {D : List Sp} {n : Int} (h : allB D n = true) : ∀ x ∈ D, x.fr < x.tt := fun x hx => by
  have h1 := List.all_eq_true.1 h x hx
  have h2 := of_decide_eq_true h1
  omega
set_option maxRecDepth 100000 in
set_option maxHeartbeats 4000000 in
theorem rcheck_any (s : ByteArray) (D : List Sp) (oa : Option Addr) (cap : Nat) (w : World) (hR : SpO w oa D) :
    Calls Tryd.prog 12 #[.agg #[.string s, .slice oa D.length cap]] w fun e w' => e = .returned (.int .i64 (chkT s D)) ∧ Below w.heap.size w w' := by
  obtain ⟨N, hN⟩ : ∃ N, D.length = N := ⟨_, rfl⟩
  have hmx : maxLen ≤ 9223372036854775807 := by decide
  obtain ⟨V, hV⟩ : ∃ V, w.alloc (.cells #[.string s, .slice oa N cap] 27) = V := ⟨_, rfl⟩
  have nV : V.heap[w.heap.size]? = some (.cells #[.string s, .slice oa N cap] 27 (0, 0)) := by rw [← hV]; exact World.alloc_heap_new w _
  have bV : Below w.heap.size w V := by rw [← hV]; exact bel1S _ _
  obtain ⟨t0, t1⟩ := tx_text nV
  have HV := hideS (And.intro nV bV)
  have hlV : w.heap.size < V.heap.size := (Array.getElem?_eq_some_iff.1 nV).1
  clear nV bV
  unfold chkT
  by_cases h1 : 4096 < s.size
  · rw [if_pos h1, hN]
    have d1 : (4096 : Int) < (s.size : Int) := by omega
    go_enter Tryd.func12, Tryd.ntmps12
    go_wp2_with fail
    go_ret
    exact ⟨rfl, HV.out.2⟩
  · rw [if_neg h1]
    have d1 : ¬ (4096 : Int) < (s.size : Int) := by omega
    by_cases h2 : 256 < D.length
    · rw [if_pos h2, hN]
      have d2 : (256 : Int) < (N : Int) := by omega
      go_enter Tryd.func12, Tryd.ntmps12
      go_wp2_with fail
      go_ret
      exact ⟨rfl, HV.out.2⟩
    · rw [if_neg h2]
      rw [hN] at h2
      have d2 : ¬ (256 : Int) < (N : Int) := by omega
      obtain ⟨K, hK⟩ : ∃ K : Nat, (signs s).length = K := ⟨_, rfl⟩
      have HCt := hideS (rcountR s (by omega) V)
      rw [hK] at HCt
      obtain ⟨R, hRd⟩ : ∃ R : Int, (if allB D (signs s).length = true ∧ crB D = false then 0 else 23) = R := ⟨_, rfl⟩
      rw [hK] at hRd
      rw [hK, hRd, hN]
      have HX := hideS (And.intro hRd (And.intro hN hR))
      clear hRd hR hK hN
      go_enter Tryd.func12, Tryd.ntmps12
      go_wp2_with fail
      refine HCt.out.mono ?_
      rintro e w1 ⟨rfl, b1⟩
      have H1 := hideS (And.intro ((b1.block w.heap.size hlV).trans HV.out.1) (bupS HV.out.2 b1))
      clear hV t0 t1 b1 HCt HV
      go_wp2_with fail
      go_loopw [4] (fun iv wq => ∃ i : Nat, iv = .int .i64 (i : Nat) ∧ i ≤ N ∧ (D.take i).all (fun x => fitB x K) = true ∧ wq.heap[w.heap.size]? = some (.cells #[.string s, .slice oa N cap] 27 (0, 0)) ∧ Below w.heap.size w wq) (fun iv _ => N - (intOf iv).toNat)
      case atStart => exact ⟨0, rfl, Nat.zero_le _, rfl, H1.out.1, H1.out.2⟩
      case round =>
        obtain ⟨i, rfl, hiN, hall, hnq, hb⟩ := hrel
        obtain ⟨wq, rfl⟩ : ∃ wq, wq = wr := ⟨_, rfl⟩
        clear H1
        obtain ⟨t0, t1⟩ := tx_text hnq
        have hlq : w.heap.size < wq.heap.size := (Array.getElem?_eq_some_iff.1 hnq).1
        by_cases hlt : i < N
        · obtain ⟨x, hx⟩ : ∃ x, D[i]? = some x := ⟨_, List.getElem?_eq_getElem (by rw [HX.out.2.1]; exact hlt)⟩
          obtain ⟨a, rfl, hab, c0, c1, c2, c3⟩ := HX.out.2.2.keep hb i x hx
          have d3 : (i : Int) < (N : Int) := by omega
          have wi : IntKind.i64.wrap ((i : Int) + 1) = ((i + 1 : Nat) : Int) := by rw [show ((i + 1 : Nat) : Int) = (i : Int) + 1 by omega]; exact IntWalk.i64_in _ ⟨by omega, by omega⟩
          have HF := hideS (rfits_any x K wq)
          unfold Sp.val at HF
          obtain ⟨g, hg⟩ : ∃ g, fitB x K = g := ⟨_, rfl⟩
          rw [hg] at HF
          have HA := hideS (And.intro (And.intro hall hg) (And.intro hnq (And.intro hb hx)))
          clear hall hg hnq hb hx
          go_wp2_with fail
          refine HF.out.mono ?_
          rintro e w5 ⟨rfl, b5⟩
          have H5 := hideS (And.intro ((b5.block w.heap.size hlq).trans HA.out.2.1) (bupS HA.out.2.2.1 b5))
          clear b5 HF c0 c1 c2 c3 t0 t1
          cases g with
          | true =>
            go_wp2_with fail
            go_roundw
            case rel =>
              refine ⟨i + 1, by first | rfl | simp, by omega, ?_, H5.out.1, H5.out.2⟩
              rw [List.take_add_one, HA.out.2.2.2, List.all_append, HA.out.1.1]
              simp [HA.out.1.2]
            case measure => simp [intOf]; omega
          | false =>
            go_wp2_with fail
            go_ret
            refine ⟨?_, H5.out.2⟩
            have hm : x ∈ D := List.mem_of_getElem? HA.out.2.2.2
            have h0 : allB D K = false := List.all_eq_false.2 ⟨x, hm, by rw [HA.out.1.2]; simp⟩
            have e9 := HX.out.1
            rw [if_neg (by rw [h0]; simp)] at e9
            rw [← e9]
            rfl
        · have d3 : ¬ (i : Int) < (N : Int) := by omega
          have hAll : allB D K = true := by
            rw [List.take_of_length_le (by rw [HX.out.2.1]; omega)] at hall
            exact hall
          have hlt2 := fit_lt hAll
          have HA := hideS (And.intro hAll (And.intro hnq (And.intro hb hlt2)))
          clear hall hAll hnq hb hlt2
          go_wp2_with fail
          go_loopw [5] (fun iv wz => ∃ i : Nat, iv = .int .i64 (i : Nat) ∧ i ≤ N ∧ NoCr D i ∧ wz.heap[w.heap.size]? = some (.cells #[.string s, .slice oa N cap] 27 (0, 0)) ∧ Below w.heap.size w wz) (fun iv _ => N - (intOf iv).toNat)
          case atStart => exact ⟨0, rfl, Nat.zero_le _, fun j k x y hj => absurd hj (by omega), HA.out.2.1, HA.out.2.2.1⟩
          case round =>
            clear t0 t1 hlq d3
            obtain ⟨i, rfl, hiN, hno, hnz, hbz⟩ := hrel
            obtain ⟨wz, rfl⟩ : ∃ wz, wz = wr := ⟨_, rfl⟩
            obtain ⟨t0, t1⟩ := tx_text hnz
            by_cases hlt : i < N
            · obtain ⟨x, hx⟩ : ∃ x, D[i]? = some x := ⟨_, List.getElem?_eq_getElem (by rw [HX.out.2.1]; exact hlt)⟩
              have d3 : (i : Int) < (N : Int) := by omega
              have wi : IntKind.i64.wrap ((i : Int) + 1) = ((i + 1 : Nat) : Int) := by rw [show ((i + 1 : Nat) : Int) = (i : Int) + 1 by omega]; exact IntWalk.i64_in _ ⟨by omega, by omega⟩
              have HZ := hideS (And.intro hno (And.intro hnz (And.intro hbz hx)))
              clear hno hnz hbz hx
              go_wp2_with fail
              go_loopw [6] (fun kv wx => ∃ k : Nat, kv = .int .i64 (k : Nat) ∧ k ≤ i ∧ (∀ j y, j < k → D[j]? = some y → ¬ crS x y) ∧ wx.heap[w.heap.size]? = some (.cells #[.string s, .slice oa N cap] 27 (0, 0)) ∧ Below w.heap.size w wx) (fun kv _ => i - (intOf kv).toNat)
              case atStart => exact ⟨0, rfl, Nat.zero_le _, fun j y hj => absurd hj (by omega), HZ.out.2.1, HZ.out.2.2.1⟩
              case round =>
                clear t0 t1
                obtain ⟨k, rfl, hki, hnk, hnx, hbx⟩ := hrel
                obtain ⟨wx, rfl⟩ : ∃ wx, wx = wr := ⟨_, rfl⟩
                by_cases hkl : k < i
                · obtain ⟨y, hy⟩ : ∃ y, D[k]? = some y := ⟨_, List.getElem?_eq_getElem (by rw [HX.out.2.1]; omega)⟩
                  obtain ⟨a, rfl, hab, c0, c1, c2, c3⟩ := HX.out.2.2.keep hbx i x HZ.out.2.2.2
                  obtain ⟨a2, ha2, _, e0, e1, e2, e3⟩ := HX.out.2.2.keep hbx k y hy
                  obtain rfl : a = a2 := by simpa using ha2
                  obtain ⟨t0, t1⟩ := tx_text hnx
                  have hlx : w.heap.size < wx.heap.size := (Array.getElem?_eq_some_iff.1 hnx).1
                  have hai : (a.add (i * 4)).block < wx.heap.size := by rw [addrS_block]; exact hab
                  have hak : (a.add (k * 4)).block < wx.heap.size := by rw [addrS_block]; exact hab
                  have d4 : (k : Int) < (i : Int) := by omega
                  have d5 : (k : Int) < (N : Int) := by omega
                  have wk : IntKind.i64.wrap ((k : Int) + 1) = ((k + 1 : Nat) : Int) := by rw [show ((k + 1 : Nat) : Int) = (k : Int) + 1 by omega]; exact IntWalk.i64_in _ ⟨by omega, by omega⟩
                  have HF := hideS (fun W => rcross_any x y W)
                  unfold Sp.val at HF
                  obtain ⟨g, hg⟩ : ∃ g, decide (crS x y) = g := ⟨_, rfl⟩
                  rw [hg] at HF
                  have HQ := hideS (And.intro (And.intro hnk hg) (And.intro hnx (And.intro hbx hy)))
                  have z1 : ∀ q : GrownQ wx, q.V.cell? ⟨w.heap.size, 1, none⟩ = some (.slice (some a) N cap) := fun q => (q.h.cell (p := ⟨w.heap.size, 1, none⟩) hlx).trans t1
                  have u0 : ∀ q : GrownQ wx, q.V.cell? (a.add (i * 4)) = some (.int .i64 x.fr) := fun q => (q.h.cell hai).trans c0
                  have u1 : ∀ q : GrownQ wx, q.V.cell? ⟨(a.add (i * 4)).block, (a.add (i * 4)).off + 1, none⟩ = some (.int .i64 x.tt) := fun q => (q.h.cell (p := ⟨(a.add (i * 4)).block, _, none⟩) hai).trans c1
                  have u2 : ∀ q : GrownQ wx, q.V.cell? ⟨(a.add (i * 4)).block, (a.add (i * 4)).off + 2, none⟩ = some (.int .i64 x.kd) := fun q => (q.h.cell (p := ⟨(a.add (i * 4)).block, _, none⟩) hai).trans c2
                  have u3 : ∀ q : GrownQ wx, q.V.cell? ⟨(a.add (i * 4)).block, (a.add (i * 4)).off + 3, none⟩ = some (.int .i64 x.vl) := fun q => (q.h.cell (p := ⟨(a.add (i * 4)).block, _, none⟩) hai).trans c3
                  have v0 : ∀ q : GrownQ wx, q.V.cell? (a.add (k * 4)) = some (.int .i64 y.fr) := fun q => (q.h.cell hak).trans e0
                  have v1 : ∀ q : GrownQ wx, q.V.cell? ⟨(a.add (k * 4)).block, (a.add (k * 4)).off + 1, none⟩ = some (.int .i64 y.tt) := fun q => (q.h.cell (p := ⟨(a.add (k * 4)).block, _, none⟩) hak).trans e1
                  have v2 : ∀ q : GrownQ wx, q.V.cell? ⟨(a.add (k * 4)).block, (a.add (k * 4)).off + 2, none⟩ = some (.int .i64 y.kd) := fun q => (q.h.cell (p := ⟨(a.add (k * 4)).block, _, none⟩) hak).trans e2
                  have v3 : ∀ q : GrownQ wx, q.V.cell? ⟨(a.add (k * 4)).block, (a.add (k * 4)).off + 3, none⟩ = some (.int .i64 y.vl) := fun q => (q.h.cell (p := ⟨(a.add (k * 4)).block, _, none⟩) hak).trans e3
                  clear hnk hg hnx hbx hy c0 c1 c2 c3 e0 e1 e2 e3 t0 t1
                  go_upto_region 17 with fail
                  refine region_grown wx wx (by kernel_rfl) (by kernel_rfl) (Below.refl _ _) ?_
                  repeat (go_big_quiet_step (first
                    | (go_at_call 28; rename_i q; (with_reducible refine (HF.out _).mono ?_); rintro e V1 ⟨rfl, h1⟩; exact ⟨rfl, ⟨V1, q.h.trans (h1.mono q.h.size)⟩, rfl⟩)))
                  refine wpQuiet_nil ?_
                  rintro W3 ⟨⟨V3, hb3⟩, hv3⟩
                  have hv3 : W3 = V3 := hv3
                  subst hv3
                  have H5 := hideS (And.intro ((hb3.block w.heap.size hlx).trans HQ.out.2.1) (bupS HQ.out.2.2.1 hb3))
                  clear hv3 hb3 z1 u0 u1 u2 u3 v0 v1 v2 v3 HF
                  cases g with
                  | true =>
                    go_wp2_with fail
                    go_ret
                    refine ⟨?_, H5.out.2⟩
                    have h0 := cr_some (List.mem_of_getElem? HZ.out.2.2.2) (List.mem_of_getElem? HQ.out.2.2.2) (of_decide_eq_true HQ.out.1.2) HA.out.2.2.2
                    have e9 := HX.out.1
                    rw [if_neg (by rw [h0]; simp)] at e9
                    rw [← e9]
                    rfl
                  | false =>
                    go_wp2_with fail
                    go_roundw
                    case rel =>
                      refine ⟨k + 1, by first | rfl | simp, by omega, fun j y2 hj hy2 => ?_, H5.out.1, H5.out.2⟩
                      by_cases hjk : j < k
                      · exact HQ.out.1.1 j y2 hjk hy2
                      · obtain rfl : j = k := by omega
                        have h9 := HQ.out.2.2.2
                        rw [hy2] at h9
                        obtain rfl := Option.some.inj h9
                        exact of_decide_eq_false HQ.out.1.2
                    case measure => simp [intOf]; omega
                · have d4 : ¬ (k : Int) < (i : Int) := by omega
                  have HQ := hideS (And.intro hnk (And.intro hnx hbx))
                  clear hnk hnx hbx
                  go_wp2_with fail
                  go_roundw
                  case rel =>
                    refine ⟨i + 1, by first | rfl | simp, by omega, fun j k2 x2 y2 hj hk2 hx2 hy2 => ?_, HQ.out.2.1, HQ.out.2.2⟩
                    by_cases hji : j < i
                    · exact HZ.out.1 j k2 x2 y2 hji hk2 hx2 hy2
                    · obtain rfl : j = i := by omega
                      have h9 := HZ.out.2.2.2
                      rw [hx2] at h9
                      obtain rfl := Option.some.inj h9
                      exact HQ.out.1 k2 y2 (by omega) hy2
                  case measure => simp [intOf]; omega
            · have d3 : ¬ (i : Int) < (N : Int) := by omega
              obtain rfl : i = N := by omega
              have h0 : crB D = false := noCr_all (by rw [HX.out.2.1]; exact hno) HA.out.2.2.2
              have HZ := hideS (And.intro h0 hbz)
              clear hno hnz hbz h0
              go_wp2_with fail
              go_ret
              refine ⟨?_, HZ.out.2⟩
              have e9 := HX.out.1
              rw [if_pos ⟨HA.out.1, HZ.out.1⟩] at e9
              rw [← e9]
              rfl
end Go.Proofs.YthgpbielaoodjaaDoor

/- surtitlelaw7: SameSpans, SameText, Lend, Back; both Plain (chapter 7). -/
namespace Go.Proofs.YthgpbielaoodjaaDoor
open Go.RowKit Go.Shelf
attribute [local go_sem] Oper.semAt_some

theorem sp_under : Tryd.prog.underlying 39 = some (.struct (Tryd.prog.fieldsOf 39)) := by kernel_rfl
theorem sp_held : Tryd.prog.stoodInHeld 39 = false := by kernel_rfl
theorem sp_guard : Tryd.prog.eqGuardType Tryd.prog.depth 39 = false := by kernel_rfl
theorem sp_fields : (Tryd.prog.fieldsOf 39).toList.map (fun f => (f.name, f.type, f.offset)) = [("From", 3, 0), ("To", 3, 1), ("Kind", 3, 2), ("Value", 3, 3)] := by kernel_rfl
set_option maxRecDepth 100000 in
theorem sp_same (a b c d : Int) (w : World) : (Op.equalIn 10000 39 (.agg #[.int .i64 a, .int .i64 b, .int .i64 c, .int .i64 d]) (.agg #[.int .i64 a, .int .i64 b, .int .i64 c, .int .i64 d])).run Tryd.prog w = .ok true w := by
  rw [run_equalIn_agg _ _ _ _ _ sp_under sp_held]
  have hf := sp_fields
  match h : (Tryd.prog.fieldsOf 39).toList, hf with
  | [f0, f1, f2, f3], hf =>
    clear h
    simp only [List.map_cons, List.map_nil, List.cons.injEq, Prod.mk.injEq, and_true] at hf
    obtain ⟨⟨n0, t0, o0⟩, ⟨n1, t1, o1⟩, ⟨n2, t2, o2⟩, ⟨n3, t3, o3⟩⟩ := hf
    have u3 : Tryd.prog.underlying 3 = some (.int .i64) := Tryd.underlying3
    simp [Op.eqFields, n0, n1, n2, n3, t0, t1, t2, t3, o0, o1, o2, o3, go_sem, u3]
  | [], hf => simp at hf
  | [_], hf => simp at hf
  | [_, _], hf => simp at hf
  | [_, _, _], hf => simp at hf
  | _ :: _ :: _ :: _ :: _ :: _, hf => simp at hf
theorem sp_neq (a b c d : Int) (w : World) : (binOp .neq 39 (.agg #[.int .i64 a, .int .i64 b, .int .i64 c, .int .i64 d]) (.agg #[.int .i64 a, .int .i64 b, .int .i64 c, .int .i64 d])).run Tryd.prog w = .ok (.bool false) w := by
  rw [run_neq_struct, sp_same]; rfl
theorem sp_eql (a b c d : Int) (w : World) : (binOp .eql 39 (.agg #[.int .i64 a, .int .i64 b, .int .i64 c, .int .i64 d]) (.agg #[.int .i64 a, .int .i64 b, .int .i64 c, .int .i64 d])).run Tryd.prog w = .ok (.bool true) w := by
  rw [run_eql_struct, sp_same]; rfl
set_option maxRecDepth 100000 in
set_option maxHeartbeats 2000000 in
theorem samesp_any (D : List Sp) (o1 o2 : Option Addr) (c1 c2 : Nat) (hc1 : D.length ≤ c1 ∧ c1 ≤ maxLen) (w : World) (hR1 : SpO w o1 D) (hR2 : SpO w o2 D) :
    Calls Tryd.prog 25 #[.slice o1 D.length c1, .slice o2 D.length c2] w fun e w' => e = .returned (.bool true) ∧ Below w.heap.size w w' := by
  obtain ⟨N, hN⟩ : ∃ N, D.length = N := ⟨_, rfl⟩
  have HN := hideS (And.intro hN (And.intro hR1 hR2))
  rw [hN] at hc1 ⊢
  have hcm : c1 ≤ 9223372036854775807 := hc1.2
  clear hN hR1 hR2
  have hgd := sp_guard
  have hne := sp_neq
  go_enter Tryd.func25, Tryd.ntmps25
  go_wp2_with fail
  go_loopw [5] (fun iv wq => ∃ i : Nat, iv = .int .i64 (i : Nat) ∧ i ≤ N ∧ Below w.heap.size w wq) (fun iv _ => N - (intOf iv).toNat)
  case atStart => exact ⟨0, rfl, Nat.zero_le _, Below.refl _ _⟩
  case round =>
    obtain ⟨i, rfl, hiN, hb⟩ := hrel
    obtain ⟨wq, rfl⟩ : ∃ wq, wq = wr := ⟨_, rfl⟩
    by_cases hlt : i < N
    · obtain ⟨x, hx⟩ : ∃ x, D[i]? = some x := ⟨_, List.getElem?_eq_getElem (by rw [HN.out.1]; exact hlt)⟩
      obtain ⟨a, rfl, _, k0, k1, k2, k3⟩ := HN.out.2.1.keep hb i x hx
      obtain ⟨b, rfl, _, e0, e1, e2, e3⟩ := HN.out.2.2.keep hb i x hx
      have d1 : (i : Int) < (N : Int) := by omega
      have wi : IntKind.i64.wrap ((i : Int) + 1) = ((i + 1 : Nat) : Int) := by rw [show ((i + 1 : Nat) : Int) = (i : Int) + 1 by omega]; exact IntWalk.i64_in _ ⟨by omega, by omega⟩
      have HB := hideS hb
      clear hb hx
      go_wp2_with fail
      go_quiet (fail)
      go_wp2_with fail
      go_roundw
      case rel => exact ⟨i + 1, by first | rfl | simp, by omega, HB.out.trans ((below_dnS (Below.refl _ _) nq).mono HB.out.size)⟩
      case measure => simp [intOf]; omega
    · have d1 : ¬ (i : Int) < (N : Int) := by omega
      have HB := hideS hb
      clear hb
      go_wp2_with fail
      go_ret
      exact ⟨rfl, HB.out⟩
set_option maxRecDepth 100000 in
set_option maxHeartbeats 1000000 in
theorem sametx_any (s : ByteArray) (w : World) : Calls Tryd.prog 13 #[.agg #[.string s, .slice none 0 0], .agg #[.string s, .slice none 0 0]] w fun e w' => e = .returned (.bool true) ∧ Below w.heap.size w w' := by
  have HS := hideS (fun (W : World) => samesp_any [] none none 0 0 ⟨by simp, by simp⟩ W (SpO.nil _ _) (SpO.nil _ _))
  change Hid (∀ W : World, Calls Tryd.prog 25 #[.slice none 0 0, .slice none 0 0] W fun e w' => e = .returned (.bool true) ∧ Below W.heap.size W w') at HS
  have hss : (s.toList == s.toList) = true := by simp
  have HB := hideS (bupS (bel1S w (.cells #[.string s, .slice none 0 0] 27)) (bel1S _ (.cells #[.string s, .slice none 0 0] 27)))
  go_enter Tryd.func13, Tryd.ntmps13
  go_wp2_with fail
  refine (HS.out _).mono ?_
  rintro e w1 ⟨rfl, b1⟩
  have H1 := hideS (bupS HB.out b1)
  clear b1
  go_wp2_with fail
  go_ret
  exact ⟨rfl, H1.out⟩
/-- What both Plain tell. -/
def plaV (s : ByteArray) : Value := if 4096 < s.size then .tuple #[.agg #[.string ⟨#[]⟩, .slice none 0 0], .int .i64 3] else .tuple #[.agg #[.string s, .slice none 0 0], .int .i64 0]
set_option maxRecDepth 100000 in
set_option maxHeartbeats 1000000 in
theorem rplain_any (s : ByteArray) (w : World) : Calls Tryd.prog 10 #[.string s] w fun e w' => e = .returned (plaV s) ∧ Below w.heap.size w w' := by
  unfold plaV
  by_cases h : 4096 < s.size
  · rw [if_pos h]
    have d : (4096 : Int) < (s.size : Int) := by omega
    have r0 := two_cellsA w (.string ⟨#[]⟩) (.slice none 0 0) 27
    have r1 := two_cellsB w (.string ⟨#[]⟩) (.slice none 0 0) 27
    go_enter Tryd.func10, Tryd.ntmps10
    go_wp2_with fail
    exact bodyPost_ret (v := .tuple #[.agg #[.string ⟨#[]⟩, .slice none 0 0], .int .i64 3]) (by simp [results, Tryd.results10, go_sem, r0, r1]) rfl ⟨rfl, bel1S w _⟩
  · rw [if_neg h]
    have d : ¬ (4096 : Int) < (s.size : Int) := by omega
    have r0 := two_cellsA w (.string s) (.slice none 0 0) 27
    have r1 := two_cellsB w (.string s) (.slice none 0 0) 27
    go_enter Tryd.func10, Tryd.ntmps10
    go_wp2_with fail
    exact bodyPost_ret (v := .tuple #[.agg #[.string s, .slice none 0 0], .int .i64 0]) (by simp [results, Tryd.results10, go_sem, r0, r1]) rfl ⟨rfl, bel1S w _⟩
set_option maxRecDepth 100000 in
set_option maxHeartbeats 1000000 in
theorem plain_any (s : ByteArray) (hs : s.size ≤ 140737488355328) (w : World) : Calls Tryd.prog 9 #[.string s] w fun e w' => e = .returned (plaV s) ∧ Below w.heap.size w w' := by
  unfold plaV
  by_cases h : 4096 < s.size
  · rw [if_pos h]
    have d : (4096 : Int) < (s.size : Int) := by omega
    have r0 := two_cellsA w (.string ⟨#[]⟩) (.slice none 0 0) 27
    have r1 := two_cellsB w (.string ⟨#[]⟩) (.slice none 0 0) 27
    go_enter Tryd.func9, Tryd.ntmps9
    go_wp2_with fail
    exact bodyPost_ret (v := .tuple #[.agg #[.string ⟨#[]⟩, .slice none 0 0], .int .i64 3]) (by simp [results, Tryd.results9, go_sem, r0, r1]) rfl ⟨rfl, bel1S w _⟩
  · rw [if_neg h]
    have d : ¬ (4096 : Int) < (s.size : Int) := by omega
    have HC := hideS (fun W => clone_any s W hs)
    have t0 := Tx.new w (.string ⟨#[]⟩) (.slice none 0 0)
    have HT := hideS t0
    clear t0
    go_enter Tryd.func9, Tryd.ntmps9
    go_wp2_with fail
    refine (HC.out _).mono ?_
    rintro e w1 ⟨rfl, b1⟩
    have t1 := HT.out.keep b1
    obtain ⟨k0, k1, f0, f1⟩ := t1.cells
    have t9 := t1.set (.string s) (.slice none 0 0)
    have H1 := hideS (((bupS (bel1S w _) b1).setCell (p := ⟨w.heap.size, 0, none⟩) (Nat.le_refl _) (.string s)).setCell (p := ⟨w.heap.size, 1, none⟩) (Nat.le_refl _) (.slice none 0 0))
    have H9 := hideS t9
    clear t1 t9 b1
    go_wp2_with fail
    generalize ((w1.setCell ⟨w.heap.size, 0, none⟩ (.string s)).setCell ⟨w.heap.size, 1, none⟩ (.slice none 0 0)) = W9 at *
    obtain ⟨r0, r1, _, _⟩ := H9.out.cells
    exact bodyPost_ret (v := .tuple #[.agg #[.string s, .slice none 0 0], .int .i64 0]) (by simp [results, Tryd.results9, go_sem, r0, r1]) rfl ⟨rfl, H1.out⟩
end Go.Proofs.YthgpbielaoodjaaDoor

/- surtitlelaw7: Lend, Back (chapter 7). -/
namespace Go.Proofs.YthgpbielaoodjaaDoor
open Go.RowKit Go.Shelf
attribute [local go_sem] Oper.semAt_some

def mkS : Sp := ⟨-77, 0, 0, 0⟩
/-- append to a row of one's own, of a slice that may be nil: a step of a region that draws. -/
theorem step_spans {P : Program} (w : World) {ops : Array Oper} {o : Oper} {a : Act} {K : Act → World → Prop} {Q : Exit → Act → World → Prop} {E : Prop} (hg : o.guard = none) (s x : Operand) (t : TypeId)
    (ho : o.op = .call { callee := .builtin .append, args := #[s, x], argTypes := #[t, t] })
    (base : Nat) (e : TypeId) (i : TypeInfo) (z : Value) (size bytes : Nat) (ht : P.underlying t = some (.slice e)) (hi : P.info? e = some i) (hz : i.zero = some z)
    (hsize : i.size = size) (hby : i.bytes = bytes) (hzs : z.cells.size = size) (hsz : 0 < size)
    (v : Value) (n : Nat) (xs : List Value) (hs : a.eval s = v) (hown : w.ownsRow base e size v n xs)
    (oa : Option Addr) (m c : Nat) (news : List Value) (hx : a.eval x = .slice oa m c) (hn : oa = none → m = 0 ∧ c = 0) (hl : news.length = m * size) (hnews : ∀ ad, oa = some ad → ∀ j u, news[j]? = some u → w.cell? (ad.add j) = some u) (h1 : ∀ u ∈ news, u.oneCell' = true)
    (h63 : n + m ≤ maxLen) (hbytes : (n + m) * bytes ≤ 140737488355328) (hbase : base ≤ w.heap.size)
    (hvn : v ≠ .slice none 0 0) (h : ∀ v' w', w'.ownsRow base e size v' (n + m) (xs ++ news) → w.grownBy w' v.ownBlock → v' ≠ .slice none 0 0 → K (a.put o.dst v') w') :
    if Region.wanted o (yielded ops a.tmps) = true then Oper.wp P o a w K Q else E := by
  have hw : Region.wanted o (yielded ops a.tmps) = true := by simp [Region.wanted, hg]
  rw [if_pos hw]
  cases oa with
  | none =>
    obtain ⟨rfl, rfl⟩ := hn rfl
    have hbv : news = [] := List.length_eq_zero_iff.1 (by rw [hl, Nat.zero_mul])
    subst hbv
    have h2 := h v w (by rw [List.append_nil]; exact hown) (World.grownBy.refl w _) hvn
    have hrun := run_append_owned_none (P := P) (w := w) base t o.type e i size ht hi v n xs hown
    unfold Oper.wp
    simp [execOp, ho, resolve, invoke, builtin, hs, hx, hrun, Result.andThen]
    exact h2
  | some ad => exact wp_append_own w s x t ho base e i z size bytes ht hi hz hsize hby hzs hsz v n xs hs hown ad m c news hx hl (hnews ad rfl) h1 h63 hbytes hbase fun v' w' h2 h3 h4 => h v' w' h2 h3 (fun e9 => hvn (h4.1 e9).1)
theorem own_some {W : World} {base n : Nat} {e : TypeId} {size : Nat} {v : Value} {xs : List Value} (h : W.ownsRow base e size v (n + 1) xs) : ∃ g c, v = .slice (some ⟨g, 0, none⟩) (n + 1) c ∧ n + 1 ≤ c := by
  rcases h.2 with ⟨_, e0⟩ | ⟨g, c, cur, e0, _, _, h3, _⟩
  · omega
  · exact ⟨g, c, e0, h3⟩
theorem make_spans (n : Nat) (hn : n ≤ 8796093022208) : ∃ mk : World → World, ∀ W : World, (Instr.makeSlice 25 (.int .i64 0) (.int .i64 (n : Int))).run Tryd.prog W = .ok (.slice (some ⟨W.heap.size, 0, none⟩) 0 n) (mk W) ∧
    (mk W).ownsRow W.heap.size 39 4 (.slice (some ⟨W.heap.size, 0, none⟩) 0 n) 0 [] ∧ W.grownBy (mk W) none := by
  obtain ⟨i0, hi, hz0, hz1, hz2⟩ := info_parts infoSp
  obtain ⟨mk, h⟩ := Classical.axiomOfChoice (fun W : World => run_make_own (P := Tryd.prog) W W.heap.size 25 39 i0 (.agg #[.int .i64 0, .int .i64 0, .int .i64 0, .int .i64 0]) 4 Tryd.underlying25 hi hz0 hz1 .i64 .i64 n (by rw [hz2]; omega) (by unfold maxLen; omega) (Nat.le_refl _))
  exact ⟨mk, h⟩
set_option maxRecDepth 100000 in
set_option maxHeartbeats 4000000 in
theorem lend_any7 (s : ByteArray) (D : List Sp) (oa : Option Addr) (ca : Nat) (hl : D.length ≤ 4398046510976) (hna : oa = none → D = [] ∧ ca = 0) (w : World) (hRa : SpO w oa D) :
    Calls Tryd.prog 7 #[.agg #[.string s, .slice oa D.length ca]] w fun e w' => ∃ g c, e = .returned (.agg #[.string s, .slice (some ⟨g, 0, none⟩) D.length c]) ∧ w'.ownsRow w.heap.size 39 4 (.slice (some ⟨g, 0, none⟩) (D.length + 1) c) (D.length + 1) (flat4 (D ++ [mkS])) ∧ Below w.heap.size w w' := by
  obtain ⟨i0, hi, hz0, hz1, hz2⟩ := info_parts infoSp
  obtain ⟨N, hN⟩ : ∃ N, D.length = N := ⟨_, rfl⟩
  have HX := hideS (And.intro hN (And.intro hRa hna))
  rw [hN] at hl ⊢
  obtain ⟨M, hM⟩ : ∃ M, N + 3 = M := ⟨_, rfl⟩
  obtain ⟨mk, hmk⟩ := make_spans M (by omega)
  have HMR : ∀ W : World, (Instr.makeSlice 25 (.int .i64 0) (.int .i64 (M : Int))).run Tryd.prog W = .ok (.slice (some ⟨W.heap.size, 0, none⟩) 0 M) (mk W) := fun W => (hmk W).1
  have HMO := hideS (fun W => (hmk W).2)
  clear hmk hN hRa hna
  have w1 : (N : Int) + 3 = (M : Int) := by omega
  have w2 : IntKind.i64.wrap (M : Int) = (M : Int) := IntWalk.i64_in _ ⟨by omega, by omega⟩
  obtain ⟨V, hV⟩ : ∃ V, (w.alloc (.cells #[.string s, .slice oa N ca] 27)).alloc (.cells #[.string ⟨#[]⟩, .slice none 0 0] 27) = V := ⟨_, rfl⟩
  have t0 : Tx V w.heap.size (.string s) (.slice oa N ca) := by rw [← hV]; exact (Tx.new w _ _).keep (bel1S _ _)
  have t1 : Tx V (w.heap.size + 1) (.string ⟨#[]⟩) (.slice none 0 0) := by
    rw [← hV]
    have h9 := Tx.new (w.alloc (.cells #[.string s, .slice oa N ca] 27)) (.string ⟨#[]⟩) (.slice none 0 0)
    rw [World.size_alloc] at h9
    exact h9
  have bV : Below w.heap.size w V := by rw [← hV]; exact bupS (bel1S _ _) (bel1S _ _)
  have HV := hideS (And.intro t0 (And.intro t1 bV))
  obtain ⟨k0, k1, _, _⟩ := t0.cells
  have hl0 := t0.lt
  clear t0 t1 bV
  obtain ⟨PO, hPO⟩ : ∃ PO : Ending → World → Prop, PO = fun e w' => ∃ g c, e = .returned (.agg #[.string s, .slice (some ⟨g, 0, none⟩) N c]) ∧ w'.ownsRow w.heap.size 39 4 (.slice (some ⟨g, 0, none⟩) (N + 1) c) (N + 1) (flat4 (D ++ [mkS])) ∧ Below w.heap.size w w' := ⟨_, rfl⟩
  rw [← hPO]
  have HPO := hideS hPO
  clear hPO
  have hFl : (flat4 D).length = N * 4 := by rw [flat4_len, HX.out.1]
  have kK : ∀ W : World, Below V.heap.size V W → W.cell? ⟨w.heap.size, 1, none⟩ = some (.slice oa N ca) := fun W h => (h.cell (p := ⟨w.heap.size, 1, none⟩) hl0).trans k1
  have HKK := hideS kK
  clear kK
  have bM : Below V.heap.size V (mk V.drew) := Below.grown ((Below.refl V.heap.size V).drew) (HMO.out V.drew).2 (Nat.le_refl _) (fun k hk => by cases hk)
  have HM := hideS (And.intro bM (HMO.out V.drew).1)
  clear bM
  go_enter Tryd.func7, Tryd.ntmps7
  go_upto_region 1 with fail
  try rw [hV]
  clear hV
  go_cut [3] (fun o wx => ∃ gg cap, o = .slice (some ⟨gg, 0, none⟩) N cap ∧ wx.ownsRow V.heap.size 39 4 o N (flat4 D) ∧ Below V.heap.size V wx)
  case first =>
    go_region_held3 (fun w' => w'.cell? ⟨w.heap.size, 1, none⟩ = some (.slice oa N ca)) (first | exact HKK.out _ HM.out.1 | exact HKK.out _ bC | go_keep | assumption)
      (first | ((refine step_spans _ (by rfl) _ _ _ (by rfl) V.heap.size 39 i0 (.agg #[.int .i64 0, .int .i64 0, .int .i64 0, .int .i64 0]) 4 32 Tryd.underlying25 hi hz0 hz1 hz2 rfl (by decide) (.slice (some ⟨V.heap.size, 0, none⟩) 0 M) 0 [] (by rfl) HM.out.2 oa N ca (flat4 D) (by rfl) (fun h => by obtain ⟨h1, h2⟩ := HX.out.2.2 h; have h3 := HX.out.1; rw [h1] at h3; exact ⟨h3.symm, h2⟩) hFl (fun ad h j u hj => (SpO.flat (Q := D) (a := ad) (by have h9 := HX.out.2.1.keep (bupS HV.out.2.2 HM.out.1); rw [h] at h9; exact h9)) j u hj) (flat4_one D) (by unfold maxLen; omega) (by omega) (show V.heap.size ≤ (mk V.drew).heap.size from HM.out.1.size) (by simp) ?_); intro vC wC ownC growC hvC; have bC : Below V.heap.size V wC := Below.grown HM.out.1 growC HM.out.1.size (fun k hk => (HM.out.2.lt k hk).1)))
    all_goals first | go_wp2_with fail | skip
    all_goals go_meet
    all_goals
      rw [Nat.zero_add, List.nil_append] at ownC
      obtain ⟨gg, cap, e9⟩ : ∃ gg cap, vC = .slice (some ⟨gg, 0, none⟩) N cap := by
        rcases ownC.2 with ⟨e0, _⟩ | ⟨gg, cap, cur, e0, _⟩
        · exact absurd e0 hvC
        · exact ⟨gg, cap, e0⟩
      exact ⟨gg, cap, e9, ownC, bC⟩
  case rest =>
    obtain ⟨gg, cap, rfl, ownC, bC⟩ := hcut
    have tC := HV.out.1.keep bC
    have tD := HV.out.2.1.keep bC
    have bW := bupS HV.out.2.2 bC
    have HC := hideS (And.intro ownC (And.intro tC (And.intro tD (And.intro bW bC))))
    have sC := bC.size
    have hlV : w.heap.size + 1 < V.heap.size := HV.out.2.1.lt
    have wn : IntKind.i64.wrap (N : Int) = (N : Int) := IntWalk.i64_in _ ⟨by omega, by omega⟩
    clear ownC tC tD bW bC HKK HM HMO HMR k0 k1
    obtain ⟨Z, hZ⟩ : ∃ Z, wc.alloc (.cells #[.int .i64 (-77), .int .i64 0, .int .i64 0, .int .i64 0] 39) = Z := ⟨_, rfl⟩
    have bZ : Below wc.heap.size wc Z := by rw [← hZ]; exact bel1S _ _
    have cZ := cell_fourS wc (.int .i64 (-77)) (.int .i64 0) (.int .i64 0) (.int .i64 0) 39
    rw [hZ] at cZ
    have HZ := hideS (And.intro (own_keepS HC.out.1 bZ) (And.intro bZ cZ))
    clear bZ cZ
    go_wp2_with (at_builtin; refine wpList_append_own _ rfl _ _ 25 rfl V.heap.size 39 i0 (.agg #[.int .i64 0, .int .i64 0, .int .i64 0, .int .i64 0]) 4 32 Tryd.underlying25 hi hz0 hz1 hz2 rfl (by decide) _ N (flat4 D) rfl HZ.out.1 ⟨wc.heap.size, 0, none⟩ 1 1 [.int .i64 (-77), .int .i64 0, .int .i64 0, .int .i64 0] rfl rfl HZ.out.2.2 (fun u hu => by simp at hu; rcases hu with rfl | rfl | rfl | rfl <;> rfl) (by unfold maxLen; omega) (by omega) (Nat.le_trans sC HZ.out.2.1.size) ?_; intro vE wE ownE growE _; obtain ⟨ge, ce, rfl, hce⟩ := own_some ownE; have cN : (N : Int) ≤ (ce : Int) := (by omega); have bE : Below V.heap.size V wE := Below.grown (bupS HC.out.2.2.2.2 HZ.out.2.1) growE (Nat.le_trans sC HZ.out.2.1.size) (fun k hk => (HZ.out.1.lt k hk).1); have tE := HV.out.1.keep bE; obtain ⟨k0, k1, f0, f1⟩ := tE.cells; have tF := HV.out.2.1.keep bE; obtain ⟨m0, m1, g0, g1⟩ := tF.cells; have HE := hideS (And.intro ownE (And.intro tE (And.intro tF bE))); clear ownE tE tF bE growE)
    have bF : Below w.heap.size w wE := bupS HV.out.2.2 HE.out.2.2.2
    have tG : Tx (wE.setCell ⟨w.heap.size, 1, none⟩ (.slice (some ⟨ge, 0, none⟩) N ce)) (w.heap.size + 1) (.string ⟨#[]⟩) (.slice none 0 0) := ((But.set (M := fun k => k = w.heap.size) wE ⟨w.heap.size, 1, none⟩ (.slice (some ⟨ge, 0, none⟩) N ce) rfl).same (w.heap.size + 1) HE.out.2.2.1.lt (by omega)).trans HE.out.2.2.1
    have tH := tG.set (.string s) (.slice (some ⟨ge, 0, none⟩) N ce)
    have HF := hideS (show Tx (((wE.setCell ⟨w.heap.size, 1, none⟩ (.slice (some ⟨ge, 0, none⟩) N ce)).setCell ⟨w.heap.size + 1, 0, none⟩ (.string s)).setCell ⟨w.heap.size + 1, 1, none⟩ (.slice (some ⟨ge, 0, none⟩) N ce)) (w.heap.size + 1) (.string s) (.slice (some ⟨ge, 0, none⟩) N ce) ∧ PO (.returned (.agg #[.string s, .slice (some ⟨ge, 0, none⟩) N ce])) (((wE.setCell ⟨w.heap.size, 1, none⟩ (.slice (some ⟨ge, 0, none⟩) N ce)).setCell ⟨w.heap.size + 1, 0, none⟩ (.string s)).setCell ⟨w.heap.size + 1, 1, none⟩ (.slice (some ⟨ge, 0, none⟩) N ce)) from ⟨tH, by
      rw [HPO.out]
      refine ⟨ge, ce, rfl, ?_, ((bF.setCell (p := ⟨w.heap.size, 1, none⟩) (Nat.le_refl _) _).setCell (p := ⟨w.heap.size + 1, 0, none⟩) (Nat.le_succ _) _).setCell (p := ⟨w.heap.size + 1, 1, none⟩) (Nat.le_succ _) _⟩
      have h9 := HE.out.1
      rw [show flat4 D ++ [.int .i64 (-77), .int .i64 0, .int .i64 0, .int .i64 0] = flat4 (D ++ [mkS]) from (flat4_snoc D mkS).symm] at h9
      exact own_fromS (ownsRow_setCell_below (ownsRow_setCell_below (ownsRow_setCell_below h9 (a := ⟨w.heap.size, 1, none⟩) (show w.heap.size < V.heap.size by omega) _) (a := ⟨w.heap.size + 1, 0, none⟩) hlV _) (a := ⟨w.heap.size + 1, 1, none⟩) hlV _) HV.out.2.2.size⟩)
    clear bF tG tH
    generalize (((wE.setCell ⟨w.heap.size, 1, none⟩ (.slice (some ⟨ge, 0, none⟩) N ce)).setCell ⟨w.heap.size + 1, 0, none⟩ (.string s)).setCell ⟨w.heap.size + 1, 1, none⟩ (.slice (some ⟨ge, 0, none⟩) N ce)) = W9 at *
    obtain ⟨r0, r1, _, _⟩ := HF.out.1.cells
    exact bodyPost_ret (v := .agg #[.string s, .slice (some ⟨ge, 0, none⟩) N ce]) (by simp [results, Tryd.results7, go_sem, r0, r1]) rfl HF.out.2
set_option maxRecDepth 100000 in
set_option maxHeartbeats 4000000 in
theorem back_any7 (s s2 : ByteArray) (D : List Sp) (oa : Option Addr) (ca g c B : Nat) (hl : D.length ≤ 4398046510976) (w : World) (hRa : SpO w oa D) (hO : w.ownsRow B 39 4 (.slice (some ⟨g, 0, none⟩) (D.length + 1) c) (D.length + 1) (flat4 (D ++ [mkS]))) :
    Calls Tryd.prog 11 #[.agg #[.string s, .slice (some ⟨g, 0, none⟩) D.length c], .agg #[.string s2, .slice oa D.length ca]] w fun e w' => e = .returned (.bool true) ∧ But (fun k => k = g) w w' := by
  obtain ⟨N, hN⟩ : ∃ N, D.length = N := ⟨_, rfl⟩
  obtain ⟨M, hM⟩ : ∃ M, N + 1 = M := ⟨_, rfl⟩
  obtain ⟨o9, c9, e9, hc9, _, hsc, _⟩ := own_sc hO (by simp)
  obtain ⟨rfl, rfl⟩ : some (⟨g, 0, none⟩ : Addr) = o9 ∧ c = c9 := by simpa using e9
  obtain ⟨g9, e8, hBg, hSC⟩ := hsc _ rfl
  obtain rfl : g = g9 := by simpa using e8
  have hcl : N ≤ c ∧ c ≤ maxLen := by rw [hN] at hc9; exact ⟨by omega, hc9.2⟩
  have hcm : c ≤ 9223372036854775807 := hcl.2
  have hMc : M ≤ c := by rw [hN, hM] at hc9; exact hc9.1
  have hsp1 : SpO w (some ⟨g, 0, none⟩) D := fun i p hp => hSC.spo i p (by rw [List.getElem?_append_left (List.getElem?_eq_some_iff.1 hp).1]; exact hp)
  have hmk : (D ++ [mkS])[N]? = some mkS := by rw [← hN]; simp
  have hDM : (D ++ [mkS]).length = M := by rw [List.length_append, hN]; exact hM
  obtain ⟨V, hV⟩ : ∃ V, (w.alloc (.cells #[.string s, .slice (some ⟨g, 0, none⟩) N c] 27)).alloc (.cells #[.string s2, .slice oa N ca] 27) = V := ⟨_, rfl⟩
  have bV : Below w.heap.size w V := by rw [← hV]; exact bupS (bel1S _ _) (bel1S _ _)
  have t0 : Tx V w.heap.size (.string s) (.slice (some ⟨g, 0, none⟩) N c) := by rw [← hV]; exact (Tx.new w _ _).keep (bel1S _ _)
  have t1 : Tx V (w.heap.size + 1) (.string s2) (.slice oa N ca) := by
    rw [← hV]
    have h9 := Tx.new (w.alloc (.cells #[.string s, .slice (some ⟨g, 0, none⟩) N c] 27)) (.string s2) (.slice oa N ca)
    rw [World.size_alloc] at h9
    exact h9
  have HS := hideS (samesp_any D (some ⟨g, 0, none⟩) oa c ca (by rw [hN]; exact hcl) V (hsp1.keep bV) (hRa.keep bV))
  rw [hN] at HS hl ⊢
  have hgw := hSC.lt
  have HX := hideS (And.intro hSC (And.intro bV (And.intro hmk hDM)))
  have HT := hideS (And.intro t0 t1)
  obtain ⟨k0, k1, _, _⟩ := t0.cells
  obtain ⟨k2, k3, _, _⟩ := t1.cells
  clear hsp1 bV hRa hO hSC hmk hDM t0 t1 hsc hN hc9 e9
  have w1 : (N : Int) + 1 = (M : Int) := by omega
  have w2 : IntKind.i64.wrap (M : Int) = (M : Int) := IntWalk.i64_in _ ⟨by omega, by omega⟩
  have w3 : (M : Int) ≤ (c : Int) := by omega
  have w4 : (N : Int) < (M : Int) := by omega
  have hgd := sp_guard
  have heq := sp_eql
  go_enter Tryd.func11, Tryd.ntmps11
  go_wp2_with fail
  refine HS.out.mono ?_
  rintro e w5 ⟨rfl, b5⟩
  have hS5 := (HX.out.1.keep (bupS HX.out.2.1 b5))
  obtain ⟨⟨m0, m1, m2, m3⟩, _⟩ := hS5.at HX.out.2.2.1
  change w5.cell? ⟨g, N * 4, none⟩ = some (.int .i64 (-77)) at m0
  change w5.cell? ⟨g, N * 4 + 1, none⟩ = some (.int .i64 0) at m1
  change w5.cell? ⟨g, N * 4 + 2, none⟩ = some (.int .i64 0) at m2
  change w5.cell? ⟨g, N * 4 + 3, none⟩ = some (.int .i64 0) at m3
  have q3 := (HT.out.2.keep b5).cells.2.1
  have H5 := hideS (And.intro hS5 (bupS HX.out.2.1 b5))
  clear hS5 b5 k0 k1 k2 k3 HS hV
  go_wp2_with fail
  go_loopw [7] (fun iv wz => ∃ (i : Nat) (Q : List Sp), iv = .int .i64 (i : Nat) ∧ i ≤ M ∧ Q.length = M ∧ SC wz g Q ∧ But (fun k => k = g) w wz) (fun iv _ => M - (intOf iv).toNat)
  case atStart => exact ⟨0, D ++ [mkS], rfl, Nat.zero_le _, HX.out.2.2.2, H5.out.1, But.grown H5.out.2⟩
  case round =>
    obtain ⟨i, Q, rfl, hiM, hQ, hSC, hBt⟩ := hrel
    obtain ⟨wz, rfl⟩ : ∃ wz, wz = wr := ⟨_, rfl⟩
    clear H5 m0 m1 m2 m3 q3
    by_cases hlt : i < M
    · obtain ⟨x, hx⟩ : ∃ x, Q[i]? = some x := ⟨_, List.getElem?_eq_getElem (by omega)⟩
      obtain ⟨⟨c0, c1, c2, c3⟩, f0, f1, f2, f3⟩ := hSC.at hx
      have d1 : (i : Int) < (M : Int) := by omega
      have wi : IntKind.i64.wrap ((i : Int) + 1) = ((i + 1 : Nat) : Int) := by rw [show ((i + 1 : Nat) : Int) = (i : Int) + 1 by omega]; exact IntWalk.i64_in _ ⟨by omega, by omega⟩
      have HZ : Hid (SC (put4 wz g i ⟨7, 9, 1, 0⟩) g (Q.set i ⟨7, 9, 1, 0⟩) ∧ But (fun k => k = g) w (put4 wz g i ⟨7, 9, 1, 0⟩)) := hideS ⟨hSC.set i _, hBt.trans (put4_but _ _ _ _)⟩
      unfold put4 at HZ
      have HQl := hideS hQ
      clear hSC hBt hx hQ
      go_wp2_with fail
      go_roundw
      case rel => exact ⟨i + 1, Q.set i ⟨7, 9, 1, 0⟩, by first | rfl | simp, by omega, by rw [List.length_set]; exact HQl.out, HZ.out.1, HZ.out.2⟩
      case measure => simp [intOf]; omega
    · have d1 : ¬ (i : Int) < (M : Int) := by omega
      have HZ := hideS hBt
      clear hBt hSC hQ
      go_wp2_with fail
      go_ret
      exact ⟨rfl, HZ.out⟩
end Go.Proofs.YthgpbielaoodjaaDoor

/- The walk of surtitlelaw7.StyleChecks. -/
namespace Go.Proofs.YthgpbielaoodjaaDoor
open Go.RowKit Go.Shelf
attribute [local go_sem] Oper.semAt_some

theorem front_spo {W : World} {B g c n : Nat} {D : List Sp} (h : W.ownsRow B 39 4 (.slice (some ⟨g, 0, none⟩) (n + 1) c) (n + 1) (flat4 (D ++ [mkS]))) (hn : D.length = n) : SpO W (some ⟨g, 0, none⟩) D ∧ B ≤ g ∧ (n ≤ c ∧ c ≤ maxLen) := by
  obtain ⟨o9, c9, e9, hc9, _, hsc, _⟩ := own_sc h (by simp [hn])
  obtain ⟨rfl, rfl⟩ : some (⟨g, 0, none⟩ : Addr) = o9 ∧ c = c9 := by simpa using e9
  obtain ⟨g9, e8, hBg, hSC⟩ := hsc _ rfl
  obtain rfl : g = g9 := by simpa using e8
  exact ⟨fun i p hp => hSC.spo i p (by rw [List.getElem?_append_left (List.getElem?_eq_some_iff.1 hp).1]; exact hp), hBg, by omega, hc9.2⟩
theorem own_lt {W : World} {base g n c : Nat} {e : TypeId} {size : Nat} {xs : List Value} (h : W.ownsRow base e size (.slice (some ⟨g, 0, none⟩) n c) n xs) : g < W.heap.size := by
  rcases h.2 with ⟨e0, _⟩ | ⟨g2, c2, cur, e0, _, hg, _⟩
  · simp at e0
  · obtain ⟨rfl, rfl⟩ : g = g2 ∧ c = c2 := by simpa using e0
    exact (Array.getElem?_eq_some_iff.1 hg).1
theorem Tx.but {W V : World} {P g : Nat} {a b : Value} (h : Tx W P a b) (k : But (fun k => k = g) W V) (hne : P ≠ g) : Tx V P a b := (k.same P h.lt hne).trans h
set_option maxRecDepth 100000 in
set_option maxHeartbeats 4000000 in
theorem schecks_walk (s : ByteArray) (D : List Sp) (oa : Option Addr) (ca : Nat) (hs : s.size ≤ 140737488355328) (hl : D.length ≤ 4398046510976) (hna : oa = none → D = [] ∧ ca = 0) (w : World) (hw : 2 ≤ w.heap.size) (hT : Lib.Utf8Tabs 0 1 w) (hRa : SpO w oa D) :
    Calls Tryd.prog 4 #[.agg #[.string s, .slice oa D.length ca]] w fun e w' => e = .returned (.bool true) ∧ Below w.heap.size w w' := by
  have HLd := hideS (fun (W : World) (h : Below w.heap.size w W) => lend_any7 s D oa ca hl hna W (hRa.keep h))
  have HCk := hideS (fun (W : World) (g c : Nat) (hc : D.length ≤ c ∧ c ≤ maxLen) (hR : SpO W (some ⟨g, 0, none⟩) D) => check7_any s D (some ⟨g, 0, none⟩) c hs hc (fun e => nomatch e) W hR)
  have HRc := hideS (fun (W : World) (hR : SpO W oa D) => rcheck_any s D oa ca W hR)
  have HBk := hideS (fun (W : World) (g c B : Nat) (hR : SpO W oa D) (hO : W.ownsRow B 39 4 (.slice (some ⟨g, 0, none⟩) (D.length + 1) c) (D.length + 1) (flat4 (D ++ [mkS]))) => back_any7 s s D oa ca g c B hl W hR hO)
  have HFs := hideS (fun (W : World) (B g c : Nat) (h : W.ownsRow B 39 4 (.slice (some ⟨g, 0, none⟩) (D.length + 1) c) (D.length + 1) (flat4 (D ++ [mkS]))) => front_spo h rfl)
  have HPl := hideS (fun W => plain_any s hs W)
  have HRp := hideS (fun W => rplain_any s W)
  obtain ⟨N, hN⟩ : ∃ N, D.length = N := ⟨_, rfl⟩
  obtain ⟨ck, hck⟩ : ∃ ck, chkT s D = ck := ⟨_, rfl⟩
  rw [hN] at HLd HCk HRc HBk HFs hl ⊢
  rw [hck] at HCk HRc
  obtain ⟨ps, pe, hpv⟩ : ∃ ps pe, plaV s = .tuple #[.agg #[.string ps, .slice none 0 0], .int .i64 pe] := by
    unfold plaV
    split
    · exact ⟨_, _, rfl⟩
    · exact ⟨_, _, rfl⟩
  rw [hpv] at HPl HRp
  have HX := hideS (And.intro hRa hT)
  clear hRa hT hN hck hpv hna
  obtain ⟨V, hV⟩ : ∃ V, w.alloc (.cells #[.string s, .slice oa N ca] 27) = V := ⟨_, rfl⟩
  have t0 : Tx V w.heap.size (.string s) (.slice oa N ca) := by rw [← hV]; exact Tx.new w _ _
  have bV : Below w.heap.size w V := by rw [← hV]; exact bel1S _ _
  have HV := hideS (And.intro t0 bV)
  obtain ⟨k0, k1, _, _⟩ := t0.cells
  clear t0 bV
  go_enter Tryd.func4, Tryd.ntmps4
  go_wp2_with fail
  try rw [hV]
  clear hV k0 k1
  refine (HLd.out V HV.out.2).mono ?_
  rintro e w1 ⟨g, c, rfl, own1, b1⟩
  have h1f := HFs.out w1 _ g c own1
  -- mine lies in a block of its own
  obtain ⟨W2, hW2⟩ : ∃ W2, w1.alloc (.cells #[.string s, .slice (some ⟨g, 0, none⟩) N c] 27) = W2 := ⟨_, rfl⟩
  have b12 : Below w1.heap.size w1 W2 := by rw [← hW2]; exact bel1S _ _
  have tm : Tx W2 w1.heap.size (.string s) (.slice (some ⟨g, 0, none⟩) N c) := by rw [← hW2]; exact Tx.new w1 _ _
  have H2 := hideS (show Tx W2 w1.heap.size (.string s) (.slice (some ⟨g, 0, none⟩) N c) ∧ Tx W2 w.heap.size (.string s) (.slice oa N ca) ∧ W2.ownsRow V.heap.size 39 4 (.slice (some ⟨g, 0, none⟩) (N + 1) c) (N + 1) (flat4 (D ++ [mkS])) ∧ Below w.heap.size w W2 from ⟨tm, (HV.out.1.keep b1).keep b12, own_keepS own1 b12, bupS (bupS HV.out.2 b1) b12⟩)
  have hgV : V.heap.size ≤ g := h1f.2.1
  have hg1 : g < w1.heap.size := own_lt own1
  have s12 := b12.size
  have HC2 := hideS (HCk.out W2 g c h1f.2.2 (h1f.1.keep b12))
  obtain ⟨m0, m1, _, _⟩ := tm.cells
  have hlm : w1.heap.size < W2.heap.size := tm.lt
  clear tm b12 own1 b1 h1f HLd HCk HFs
  go_wp2_with fail
  try rw [hW2]
  clear hW2 m0 m1
  refine HC2.out.mono ?_
  rintro e w3 ⟨rfl, b3⟩
  have H3 := hideS (show Tx w3 w1.heap.size (.string s) (.slice (some ⟨g, 0, none⟩) N c) ∧ Tx w3 w.heap.size (.string s) (.slice oa N ca) ∧ w3.ownsRow V.heap.size 39 4 (.slice (some ⟨g, 0, none⟩) (N + 1) c) (N + 1) (flat4 (D ++ [mkS])) ∧ Below w.heap.size w w3 from ⟨H2.out.1.keep b3, H2.out.2.1.keep b3, own_keepS H2.out.2.2.1 b3, bupS H2.out.2.2.2 b3⟩)
  have s13 : w1.heap.size ≤ w3.heap.size := Nat.le_trans s12 b3.size
  clear H2 b3 HC2 hlm s12
  obtain ⟨k0, k1, _, _⟩ := H3.out.2.1.cells
  go_wp2_with fail
  refine (HPl.out w3).mono ?_
  rintro e w4 ⟨rfl, b4⟩
  have s14 : w1.heap.size ≤ w4.heap.size := Nat.le_trans s13 b4.size
  clear k0 k1
  go_upto_region 4 with fail
  obtain ⟨W5, hW5⟩ : ∃ W5, w4.alloc (.cells #[.string ps, .slice none 0 0] 27) = W5 := ⟨_, rfl⟩
  have b45 : Below w4.heap.size w4 W5 := by rw [← hW5]; exact bel1S _ _
  have tp : Tx W5 w4.heap.size (.string ps) (.slice none 0 0) := by rw [← hW5]; exact Tx.new w4 _ _
  have H5 := hideS (show Tx W5 w1.heap.size (.string s) (.slice (some ⟨g, 0, none⟩) N c) ∧ Tx W5 w.heap.size (.string s) (.slice oa N ca) ∧ W5.ownsRow V.heap.size 39 4 (.slice (some ⟨g, 0, none⟩) (N + 1) c) (N + 1) (flat4 (D ++ [mkS])) ∧ Tx W5 w4.heap.size (.string ps) (.slice none 0 0) ∧ Below w.heap.size w W5 from ⟨(H3.out.1.keep b4).keep b45, (H3.out.2.1.keep b4).keep b45, own_keepS (own_keepS H3.out.2.2.1 b4) b45, tp, bupS (bupS H3.out.2.2.2 b4) b45⟩)
  rw [hW5]
  have s15 : w1.heap.size ≤ W5.heap.size := Nat.le_trans s14 b45.size
  clear H3 b4 b45 tp HPl hW5 s13
  obtain ⟨k0, k1, _, _⟩ := H5.out.2.1.cells
  go_wp2_with fail
  refine (HRp.out W5).mono ?_
  rintro e w6 ⟨rfl, b6⟩
  have s16 : w1.heap.size ≤ w6.heap.size := Nat.le_trans s15 b6.size
  clear k0 k1 s15
  go_upto_region 5 with fail
  obtain ⟨W7, hW7⟩ : ∃ W7, w6.alloc (.cells #[.string ps, .slice none 0 0] 27) = W7 := ⟨_, rfl⟩
  have b67 : Below w6.heap.size w6 W7 := by rw [← hW7]; exact bel1S _ _
  have tq : Tx W7 w6.heap.size (.string ps) (.slice none 0 0) := by rw [← hW7]; exact Tx.new w6 _ _
  have H7 := hideS (show Tx W7 w1.heap.size (.string s) (.slice (some ⟨g, 0, none⟩) N c) ∧ Tx W7 w.heap.size (.string s) (.slice oa N ca) ∧ W7.ownsRow V.heap.size 39 4 (.slice (some ⟨g, 0, none⟩) (N + 1) c) (N + 1) (flat4 (D ++ [mkS])) ∧ Tx W7 w4.heap.size (.string ps) (.slice none 0 0) ∧ Tx W7 w6.heap.size (.string ps) (.slice none 0 0) ∧ Below w.heap.size w W7 from ⟨(H5.out.1.keep b6).keep b67, (H5.out.2.1.keep b6).keep b67, own_keepS (own_keepS H5.out.2.2.1 b6) b67, (H5.out.2.2.2.1.keep b6).keep b67, tq, bupS (bupS H5.out.2.2.2.2 b6) b67⟩)
  rw [hW7]
  clear H5 b6 b67 tq HRp hW7
  obtain ⟨k0, k1, _, _⟩ := H7.out.1.cells
  obtain ⟨k2, k3, _, _⟩ := H7.out.2.1.cells
  have HB7 := hideS (HBk.out W7 g c V.heap.size (HX.out.1.keep H7.out.2.2.2.2.2) H7.out.2.2.1)
  go_wp2_with fail
  refine HB7.out.mono ?_
  rintro e w8 ⟨rfl, b8⟩
  have hgw : w.heap.size < g := by have := HV.out.1.lt; omega
  have H8 := hideS (show Tx w8 w.heap.size (.string s) (.slice oa N ca) ∧ Tx w8 w4.heap.size (.string ps) (.slice none 0 0) ∧ Tx w8 w6.heap.size (.string ps) (.slice none 0 0) ∧ Below w.heap.size w w8 from ⟨H7.out.2.1.but b8 (by omega), H7.out.2.2.2.1.but b8 (by omega), H7.out.2.2.2.2.1.but b8 (by omega), H7.out.2.2.2.2.2.trans (b8.below H7.out.2.2.2.2.2.size (fun k e => by omega))⟩)
  clear H7 b8 HB7 HBk k0 k1 k2 k3
  have HR8 := hideS (HRc.out w8 (HX.out.1.keep H8.out.2.2.2))
  obtain ⟨k0, k1, _, _⟩ := H8.out.1.cells
  go_wp2_with fail
  refine HR8.out.mono ?_
  rintro e w9 ⟨rfl, b9⟩
  have H9 := hideS (show Tx w9 w4.heap.size (.string ps) (.slice none 0 0) ∧ Tx w9 w6.heap.size (.string ps) (.slice none 0 0) ∧ Below w.heap.size w w9 from ⟨H8.out.2.1.keep b9, H8.out.2.2.1.keep b9, bupS H8.out.2.2.2 b9⟩)
  clear H8 b9 HR8 HRc k0 k1
  obtain ⟨k0, k1, _, _⟩ := H9.out.1.cells
  obtain ⟨k2, k3, _, _⟩ := H9.out.2.1.cells
  have HSt := hideS (sametx_any ps w9)
  have hcc : (ck == ck) = true := by simp
  have hpp : (pe == pe) = true := by simp
  go_wp2_with fail
  refine HSt.out.mono ?_
  rintro e w10 ⟨rfl, b10⟩
  have H10 := hideS (bupS H9.out.2.2 b10)
  clear b10 HSt k0 k1 k2 k3 H9
  have HH := hideS (head7 w10 (Nat.le_trans hw H10.out.size) (tabs_below hw HX.out.2 H10.out))
  go_wp2_with fail
  refine HH.out.mono ?_
  rintro e w11 ⟨rfl, b11⟩
  have H11 := hideS (bupS H10.out b11)
  clear b11
  go_wp2_with fail
  go_ret
  exact ⟨rfl, H11.out⟩
end Go.Proofs.YthgpbielaoodjaaDoor

/- A text with spans that is handed in, opened (chapter 7). -/
namespace Go.Proofs.YthgpbielaoodjaaDoor
open Go.ChangeShapes Go.WideShapes Go.ChangeAt Go.RowKit Go.Joins

instance : Inhabited Sp := ⟨⟨0, 0, 0, 0⟩⟩
theorem cellsTx : Tryd.prog.cellsOf 27 = 2 := by kernel_rfl
theorem cellsSp : Tryd.prog.cellsOf 39 = 4 := by kernel_rfl
theorem bytesSp : Tryd.prog.bytesOf 39 = 32 := by kernel_rfl
theorem addrS_zero (a : Addr) : a.add 0 = a := by unfold Addr.add; rw [if_pos rfl]
theorem addrS_succ (a : Addr) (j : Nat) : a.add (j + 1) = ⟨a.block, a.off + (j + 1), none⟩ := by unfold Addr.add; rw [if_neg (by omega)]
set_option maxRecDepth 100000 in
theorem open_sp {H : Type} {enc : TypeId × Value → H} {W : World} {base : Nat} {spare : Nat → Bool} {held : Bool} {fuel : Nat} {v : Value} {x : DataW H × List MemPlace}
    (h : DataW.trod enc Tryd.prog W base spare held fuel 25 [v] = some x) :
    ∃ (D : List Sp) (o : Option Addr) (cap : Nat), v = .slice o D.length cap ∧ (D.length ≤ cap ∧ cap ≤ maxLen) ∧ (o = none → D = [] ∧ cap = 0) ∧ SpO W o D ∧
      ((x.1 = .nil ∧ D = []) ∨ ∃ el sp, x.1 = .slice el sp ∧ el.length = D.length) := by
  rcases Deep.open_slice Tryd.underlying25 h with ⟨hcs, hx⟩ | ⟨a, len, cap, m, n, E, Pl, hcs, hb, hl, hm, hmm, hx, hel⟩
  · simp at hcs
    subst hcs
    exact ⟨[], none, 0, rfl, ⟨by simp, by decide⟩, fun _ => ⟨rfl, rfl⟩, SpO.nil W none, .inl ⟨by rw [hx], rfl⟩⟩
  · simp at hcs
    subst hcs
    have hlm : len ≤ m := by rw [hmm]; split <;> omega
    have key : ∀ i, i < len → ∃ q : Sp, a.block < W.heap.size ∧
        W.cell? (a.add (i * 4)) = some (.int .i64 q.fr) ∧ W.cell? ⟨(a.add (i * 4)).block, (a.add (i * 4)).off + 1, none⟩ = some (.int .i64 q.tt) ∧ W.cell? ⟨(a.add (i * 4)).block, (a.add (i * 4)).off + 2, none⟩ = some (.int .i64 q.kd) ∧ W.cell? ⟨(a.add (i * 4)).block, (a.add (i * 4)).off + 3, none⟩ = some (.int .i64 q.vl) := by
      intro i hi
      obtain ⟨cs', h1, h2⟩ := hel i (by omega)
      rw [cellsSp] at h1
      have hbl := World.cells?_block h1 (by decide)
      rw [addrS_block] at hbl
      obtain ⟨_, hlen, hcell⟩ := World.cells?_some h1
      match cs', hlen with
      | [v0, v1, v2, v3], _ =>
        obtain ⟨y0, y1, y2, y3, k, _, _, t0, t1, t2, t3⟩ := trod_struct4 Tryd.underlying39 h2
        obtain ⟨k0, a0, _, w0⟩ := DataW.trod_int Tryd.underlying3 t0
        obtain ⟨k1, a1, _, w1⟩ := DataW.trod_int Tryd.underlying3 t1
        obtain ⟨k2, a2, _, w2⟩ := DataW.trod_int Tryd.underlying3 t2
        obtain ⟨k3, a3, _, w3⟩ := DataW.trod_int Tryd.underlying3 t3
        have c3 : Tryd.prog.cellsOf 3 = 1 := by kernel_rfl
        simp [c3] at a0 a1 a2 a3
        subst a0 a1 a2 a3
        have e0 := hcell 0 (by omega)
        have e1 := hcell 1 (by omega)
        have e2 := hcell 2 (by omega)
        have e3 := hcell 3 (by omega)
        rw [addrS_zero] at e0
        rw [addrS_succ] at e1 e2 e3
        exact ⟨⟨k0, k1, k2, k3⟩, hbl, e0, e1, e2, e3⟩
    obtain ⟨q, hq⟩ := Deep.choose_lt key
    refine ⟨(List.range len).map q, some a, cap, by simp, ⟨by simpa using hl, hm⟩, (fun e => nomatch e), fun i r hr => ?_, .inr ⟨_, _, by rw [hx], by simp⟩⟩
    have hi : i < len := by
      have := (List.getElem?_eq_some_iff.1 hr).1
      simpa using this
    have er : r = q i := by
      rw [List.getElem?_map, List.getElem?_range hi] at hr
      simpa using hr.symm
    rw [er]
    exact ⟨a, rfl, hq i hi⟩
set_option maxRecDepth 100000 in
theorem open_text {H : Type} {enc : TypeId × Value → H} {W : World} {r : Reach} {b0 base : Nat} {spare : Nat → Bool} {held : Bool} {v : Value} {d : DataW H} {p : List MemPlace}
    (hv : Value.okWide Tryd.prog W r b0 27 v) (h : DataW.Trod enc Tryd.prog W base spare held 27 v d p)
    (hsz : (DataW.weights Tryd.prog 27 d).all (· ≤ reachBytes) = true) :
    ∃ (s : ByteArray) (D : List Sp) (o : Option Addr) (cap : Nat), v = .agg #[.string s, .slice o D.length cap] ∧ (D.length ≤ cap ∧ cap ≤ maxLen) ∧ (o = none → D = [] ∧ cap = 0) ∧ SpO W o D ∧ s.size ≤ 140737488355328 ∧ D.length ≤ 4398046510976 := by
  obtain ⟨c0, c1, y0, y1, m, rfl, rfl, rfl, hy0, hy1⟩ := open_agg2 Tryd.underlying27 (by kernel_rfl) cellsTx hv h
  obtain ⟨s, e0, rfl, _⟩ := DataW.trod_string Tryd.underlying9 hy0
  simp at e0
  subst e0
  obtain ⟨D, o, cap, rfl, hc, hn, hR, hd⟩ := open_sp hy1
  have hu : Tryd.prog.underlying 27 = _ := Tryd.underlying27
  unfold DataW.weights at hsz
  rw [hu] at hsz
  simp only [List.map_cons, List.map_nil, DataW.weightsEach, List.all_append, Bool.and_eq_true, List.append_nil, reachBytes] at hsz
  obtain ⟨hs0, hs1⟩ := hsz
  refine ⟨s, D, o, cap, rfl, hc, hn, hR, ?_, ?_⟩
  · simp only [DataW.weights, List.all_cons, Bool.and_eq_true] at hs0
    have h1 := of_decide_eq_true (by first | exact hs0 | exact hs0.1 : decide _ = true)
    rw [Lib.size_eq]
    omega
  · rcases hd with ⟨_, rfl⟩ | ⟨el, sp, e, hl⟩
    · simp
    · rw [e] at hs1
      unfold DataW.weights at hs1
      have hv2 : Tryd.prog.underlying 25 = _ := Tryd.underlying25
      rw [hv2] at hs1
      simp only [List.all_cons, Bool.and_eq_true, bytesSp] at hs1
      have h1 := of_decide_eq_true hs1.1
      omega
end Go.Proofs.YthgpbielaoodjaaDoor
