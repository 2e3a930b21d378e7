/- The reference of chapter 7: fits, within, cross, Check. -/
import Derived.Test.YtdikfcnbkckinaaGreatDoorGS
import Derived.Test.YtdikfcnbkckinaaGreatDoorCutR
namespace Go.Proofs.YtdikfcnbkckinaaGreatDoor
open Go.RowKit Go.Shelf
attribute [local go_sem] Oper.semAt_some

set_option maxRecDepth 100000 in
set_option maxHeartbeats 1000000 in
theorem sfits_any (x : Sp) (n : Int) (w : World) : Calls Tryz.prog 54 #[x.val, .int .i64 n] w fun e w' => e = .returned (.bool (fitB x n)) ∧ Below w.heap.size w w' := by
  obtain ⟨f, t, k, v⟩ := x
  unfold fitB Sp.val
  simp only
  by_cases h0 : f < 0
  · rw [decide_eq_false (by omega)]
    go_enter Tryz.func54, Tryz.ntmps54
    go_wp2_with fail
    go_ret
    exact ⟨rfl, bel1S w _⟩
  by_cases h1 : n < t
  · rw [decide_eq_false (by omega)]
    go_enter Tryz.func54, Tryz.ntmps54
    go_wp2_with fail
    go_ret
    exact ⟨rfl, bel1S w _⟩
  by_cases h2 : t ≤ f
  · rw [decide_eq_false (by omega)]
    go_enter Tryz.func54, Tryz.ntmps54
    go_wp2_with fail
    go_ret
    exact ⟨rfl, bel1S w _⟩
  by_cases h3 : k < 1
  · rw [decide_eq_false (by omega)]
    go_enter Tryz.func54, Tryz.ntmps54
    go_wp2_with fail
    go_ret
    exact ⟨rfl, bel1S w _⟩
  by_cases h4 : 5 < k
  · rw [decide_eq_false (by omega)]
    go_enter Tryz.func54, Tryz.ntmps54
    go_wp2_with fail
    go_ret
    exact ⟨rfl, bel1S w _⟩
  by_cases hk : k = 5
  · subst hk
    rw [if_pos rfl]
    by_cases h5 : 0 ≤ v
    · by_cases h6 : v ≤ 16777215
      · rw [decide_eq_true (by omega)]
        go_enter Tryz.func54, Tryz.ntmps54
        go_wp2_with fail
        go_ret
        exact ⟨rfl, bel1S w _⟩
      · rw [decide_eq_false (by omega)]
        go_enter Tryz.func54, Tryz.ntmps54
        go_wp2_with fail
        go_ret
        exact ⟨rfl, bel1S w _⟩
    · rw [decide_eq_false (by omega)]
      go_enter Tryz.func54, Tryz.ntmps54
      go_wp2_with fail
      go_ret
      exact ⟨rfl, bel1S w _⟩
  · have hke : (k == 5) = false := by simpa using hk
    rw [if_neg hk]
    by_cases h5 : v = 0
    · subst h5
      rw [decide_eq_true (by omega)]
      go_enter Tryz.func54, Tryz.ntmps54
      go_wp2_with fail
      go_ret
      exact ⟨rfl, bel1S w _⟩
    · have hv : (v == 0) = false := by simpa using h5
      rw [decide_eq_false (by omega)]
      go_enter Tryz.func54, Tryz.ntmps54
      go_wp2_with fail
      go_ret
      exact ⟨rfl, bel1S w _⟩
def inB (a b : Sp) : Bool := decide (b.fr ≤ a.fr ∧ a.tt ≤ b.tt)
set_option maxRecDepth 100000 in
set_option maxHeartbeats 1000000 in
theorem rwithin_any (a b : Sp) (w : World) : Calls Tryz.prog 72 #[a.val, b.val] w fun e w' => e = .returned (.bool (inB a b)) ∧ Below w.heap.size w w' := by
  obtain ⟨f, t, k, v⟩ := a
  obtain ⟨f2, t2, k2, v2⟩ := b
  unfold inB Sp.val
  simp only
  by_cases h1 : f2 ≤ f
  · by_cases h2 : t ≤ t2
    · rw [decide_eq_true (by omega)]
      go_enter Tryz.func72, Tryz.ntmps72
      go_wp2_with fail
      go_ret
      exact ⟨rfl, bupS (bel1S _ _) (bel1S _ _)⟩
    · rw [decide_eq_false (by omega)]
      go_enter Tryz.func72, Tryz.ntmps72
      go_wp2_with fail
      go_ret
      exact ⟨rfl, bupS (bel1S _ _) (bel1S _ _)⟩
  · rw [decide_eq_false (by omega)]
    go_enter Tryz.func72, Tryz.ntmps72
    go_wp2_with fail
    go_ret
    exact ⟨rfl, bupS (bel1S _ _) (bel1S _ _)⟩
instance (a b : Sp) : Decidable (crS a b) := by unfold crS; infer_instance
theorem crS_in (a b : Sp) : crS a b ↔ a.fr < b.tt ∧ b.fr < a.tt ∧ inB a b = false ∧ inB b a = false := by
  unfold crS inB
  simp only [decide_eq_false_iff_not]
set_option maxRecDepth 100000 in
set_option maxHeartbeats 2000000 in
theorem rcross_any (a b : Sp) (w : World) : Calls Tryz.prog 55 #[a.val, b.val] w fun e w' => e = .returned (.bool (decide (crS a b))) ∧ Below w.heap.size w w' := by
  obtain ⟨R, hR⟩ : ∃ R, decide (crS a b) = R := ⟨_, rfl⟩
  have hcr := crS_in a b
  rw [hR]
  have H1 := hideS (rwithin_any a b)
  have H2 := hideS (rwithin_any b a)
  obtain ⟨i1, hi1⟩ : ∃ i1, inB a b = i1 := ⟨_, rfl⟩
  obtain ⟨i2, hi2⟩ : ∃ i2, inB b a = i2 := ⟨_, rfl⟩
  rw [hi1] at H1 hcr
  rw [hi2] at H2 hcr
  obtain ⟨f, t, k, v⟩ := a
  obtain ⟨f2, t2, k2, v2⟩ := b
  unfold Sp.val at H1 H2 ⊢
  simp only at hcr H1 H2 ⊢
  have HB : ∀ W : World, Hid (Below W.heap.size W ((W.alloc (.cells #[.int .i64 f, .int .i64 t, .int .i64 k, .int .i64 v] 115)).alloc (.cells #[.int .i64 f2, .int .i64 t2, .int .i64 k2, .int .i64 v2] 115))) := fun W => hideS (bupS (bel1S _ _) (bel1S _ _))
  have HR : Hid (R = decide (f < t2 ∧ f2 < t ∧ i1 = false ∧ i2 = false)) := hideS (by rw [← hR]; exact decide_eq_decide.2 hcr)
  clear hR hcr hi1 hi2
  by_cases h1 : f < t2
  · by_cases h2 : f2 < t
    · cases i1 with
      | true =>
        obtain rfl : R = false := by rw [HR.out]; simp
        go_enter Tryz.func55, Tryz.ntmps55
        go_wp2_with fail
        refine (H1.out _).mono ?_
        rintro e w1 ⟨rfl, b1⟩
        have Hb := hideS (bupS (HB w).out b1)
        clear b1
        go_wp2_with fail
        go_ret
        exact ⟨rfl, Hb.out⟩
      | false =>
        have hR2 : R = !i2 := by rw [HR.out]; cases i2 <;> simp [h1, h2]
        obtain ⟨V, hV⟩ : ∃ V, ((w.alloc (.cells #[.int .i64 f, .int .i64 t, .int .i64 k, .int .i64 v] 115)).alloc (.cells #[.int .i64 f2, .int .i64 t2, .int .i64 k2, .int .i64 v2] 115)) = V := ⟨_, rfl⟩
        have n0 : V.heap[w.heap.size]? = some (.cells #[.int .i64 f, .int .i64 t, .int .i64 k, .int .i64 v] 115 (0, 0)) := by rw [← hV]; exact (Below.heap_alloc _ _ _ (by simp)).trans (World.alloc_heap_new w _)
        have n1 : V.heap[w.heap.size + 1]? = some (.cells #[.int .i64 f2, .int .i64 t2, .int .i64 k2, .int .i64 v2] 115 (0, 0)) := by
          rw [← hV]
          have h9 := World.alloc_heap_new (w.alloc (.cells #[.int .i64 f, .int .i64 t, .int .i64 k, .int .i64 v] 115)) (.cells #[.int .i64 f2, .int .i64 t2, .int .i64 k2, .int .i64 v2] 115 (0, 0))
          rw [World.size_alloc] at h9
          exact h9
        have l1 : w.heap.size + 1 < V.heap.size := (Array.getElem?_eq_some_iff.1 n1).1
        have hBV : Hid (Below w.heap.size w V) := hideS (by rw [← hV]; exact (HB w).out)
        have HN := hideS (And.intro n0 n1)
        have p0 : V.cell? ⟨w.heap.size, 0, none⟩ = some (.int .i64 f) := by simp [World.cell?, n0]
        have p1 : V.cell? ⟨w.heap.size, 1, none⟩ = some (.int .i64 t) := by simp [World.cell?, n0]
        have p2 : V.cell? ⟨w.heap.size, 2, none⟩ = some (.int .i64 k) := by simp [World.cell?, n0]
        have p3 : V.cell? ⟨w.heap.size, 3, none⟩ = some (.int .i64 v) := by simp [World.cell?, n0]
        have q0 : V.cell? ⟨w.heap.size + 1, 0, none⟩ = some (.int .i64 f2) := by simp [World.cell?, n1]
        have q1 : V.cell? ⟨w.heap.size + 1, 1, none⟩ = some (.int .i64 t2) := by simp [World.cell?, n1]
        have q2 : V.cell? ⟨w.heap.size + 1, 2, none⟩ = some (.int .i64 k2) := by simp [World.cell?, n1]
        have q3 : V.cell? ⟨w.heap.size + 1, 3, none⟩ = some (.int .i64 v2) := by simp [World.cell?, n1]
        clear n0 n1
        go_enter Tryz.func55, Tryz.ntmps55
        go_wp2_with fail
        try rw [hV]
        clear hV p0 p1 p2 p3 q0 q1 q2 q3
        refine (H1.out _).mono ?_
        rintro e w1 ⟨rfl, b1⟩
        have m0 := (b1.block w.heap.size (by omega)).trans HN.out.1
        have m1 := (b1.block (w.heap.size + 1) l1).trans HN.out.2
        have x0 : w1.cell? ⟨w.heap.size, 0, none⟩ = some (.int .i64 f) := by simp [World.cell?, m0]
        have x1 : w1.cell? ⟨w.heap.size, 1, none⟩ = some (.int .i64 t) := by simp [World.cell?, m0]
        have x2 : w1.cell? ⟨w.heap.size, 2, none⟩ = some (.int .i64 k) := by simp [World.cell?, m0]
        have x3 : w1.cell? ⟨w.heap.size, 3, none⟩ = some (.int .i64 v) := by simp [World.cell?, m0]
        have y0 : w1.cell? ⟨w.heap.size + 1, 0, none⟩ = some (.int .i64 f2) := by simp [World.cell?, m1]
        have y1 : w1.cell? ⟨w.heap.size + 1, 1, none⟩ = some (.int .i64 t2) := by simp [World.cell?, m1]
        have y2 : w1.cell? ⟨w.heap.size + 1, 2, none⟩ = some (.int .i64 k2) := by simp [World.cell?, m1]
        have y3 : w1.cell? ⟨w.heap.size + 1, 3, none⟩ = some (.int .i64 v2) := by simp [World.cell?, m1]
        have Hb := hideS (bupS hBV.out b1)
        clear b1 m0 m1
        go_wp2_with fail
        refine (H2.out _).mono ?_
        rintro e w2 ⟨rfl, b2⟩
        have Hb2 := hideS (bupS Hb.out b2)
        clear b2 x0 x1 x2 x3 y0 y1 y2 y3
        subst hR2
        cases i2 with
        | true =>
          go_wp2_with fail
          go_ret
          exact ⟨rfl, Hb2.out⟩
        | false =>
          go_wp2_with fail
          go_ret
          exact ⟨rfl, Hb2.out⟩
    · obtain rfl : R = false := by rw [HR.out]; simp [h2]
      go_enter Tryz.func55, Tryz.ntmps55
      go_wp2_with fail
      go_ret
      exact ⟨rfl, (HB w).out⟩
  · obtain rfl : R = false := by rw [HR.out]; simp [h1]
    go_enter Tryz.func55, Tryz.ntmps55
    go_wp2_with fail
    go_ret
    exact ⟨rfl, (HB w).out⟩
theorem tx_text {W : World} {P : Nat} {a b : Value} (h : W.heap[P]? = some (.cells #[a, b] 26 (0, 0))) : W.cell? ⟨P, 0, none⟩ = some a ∧ W.cell? ⟨P, 1, none⟩ = some b := by simp [World.cell?, h]
/-- No two of the spans up to the i-th one cross. -/
def NoCr (D : List Sp) (i : Nat) : Prop := ∀ j k x y, j < i → k < j → D[j]? = some x → D[k]? = some y → ¬ crS x y
theorem noCr_all {D : List Sp} (h : NoCr D D.length) (hf : ∀ x ∈ D, x.fr < x.tt) : crB D = false := by
  rw [← Bool.not_eq_true, crB_iff D hf]
  rintro ⟨x, hx, y, hy, hc⟩
  obtain ⟨i, hi, rfl⟩ := List.getElem_of_mem hx
  obtain ⟨j, hj, rfl⟩ := List.getElem_of_mem hy
  rcases Nat.lt_trichotomy i j with l | l | l
  · exact h j i _ _ hj l (List.getElem?_eq_getElem hj) (List.getElem?_eq_getElem hi) hc
  · subst l
    exact crS_irr _ hc
  · exact h i j _ _ hi l (List.getElem?_eq_getElem hi) (List.getElem?_eq_getElem hj) (crS_symm hc)
theorem cr_some {D : List Sp} {x y : Sp} (hx : x ∈ D) (hy : y ∈ D) (h : crS x y) (hf : ∀ x ∈ D, x.fr < x.tt) : crB D = true := (crB_iff D hf).2 ⟨y, hy, x, hx, h⟩
theorem fit_lt {D : List Sp} {n : Int} (h : allB D n = true) : ∀ x ∈ D, x.fr < x.tt := fun x hx => by
  have h1 := List.all_eq_true.1 h x hx
  have h2 := of_decide_eq_true h1
  omega
set_option maxRecDepth 100000 in
set_option maxHeartbeats 4000000 in
theorem rcheck_any (s : ByteArray) (D : List Sp) (oa : Option Addr) (cap : Nat) (w : World) (hR : SpO w oa D) :
    Calls Tryz.prog 33 #[.agg #[.string s, .slice oa D.length cap]] w fun e w' => e = .returned (.int .i64 (chkT s D)) ∧ Below w.heap.size w w' := by
  obtain ⟨N, hN⟩ : ∃ N, D.length = N := ⟨_, rfl⟩
  have hmx : maxLen ≤ 9223372036854775807 := by decide
  obtain ⟨V, hV⟩ : ∃ V, w.alloc (.cells #[.string s, .slice oa N cap] 26) = V := ⟨_, rfl⟩
  have nV : V.heap[w.heap.size]? = some (.cells #[.string s, .slice oa N cap] 26 (0, 0)) := by rw [← hV]; exact World.alloc_heap_new w _
  have bV : Below w.heap.size w V := by rw [← hV]; exact bel1S _ _
  obtain ⟨t0, t1⟩ := tx_text nV
  have HV := hideS (And.intro nV bV)
  have hlV : w.heap.size < V.heap.size := (Array.getElem?_eq_some_iff.1 nV).1
  clear nV bV
  unfold chkT
  by_cases h1 : 4096 < s.size
  · rw [if_pos h1, hN]
    have d1 : (4096 : Int) < (s.size : Int) := by omega
    go_enter Tryz.func33, Tryz.ntmps33
    go_wp2_with fail
    go_ret
    exact ⟨rfl, HV.out.2⟩
  · rw [if_neg h1]
    have d1 : ¬ (4096 : Int) < (s.size : Int) := by omega
    by_cases h2 : 256 < D.length
    · rw [if_pos h2, hN]
      have d2 : (256 : Int) < (N : Int) := by omega
      go_enter Tryz.func33, Tryz.ntmps33
      go_wp2_with fail
      go_ret
      exact ⟨rfl, HV.out.2⟩
    · rw [if_neg h2]
      rw [hN] at h2
      have d2 : ¬ (256 : Int) < (N : Int) := by omega
      obtain ⟨K, hK⟩ : ∃ K : Nat, (signs s).length = K := ⟨_, rfl⟩
      have HCt := hideS (rcountR s (by omega) V)
      rw [hK] at HCt
      obtain ⟨R, hRd⟩ : ∃ R : Int, (if allB D (signs s).length = true ∧ crB D = false then 0 else 23) = R := ⟨_, rfl⟩
      rw [hK] at hRd
      rw [hK, hRd, hN]
      have HX := hideS (And.intro hRd (And.intro hN hR))
      clear hRd hR hK hN
      go_enter Tryz.func33, Tryz.ntmps33
      go_wp2_with fail
      refine HCt.out.mono ?_
      rintro e w1 ⟨rfl, b1⟩
      have H1 := hideS (And.intro ((b1.block w.heap.size hlV).trans HV.out.1) (bupS HV.out.2 b1))
      clear hV t0 t1 b1 HCt HV
      go_wp2_with fail
      go_loopw [4] (fun iv wq => ∃ i : Nat, iv = .int .i64 (i : Nat) ∧ i ≤ N ∧ (D.take i).all (fun x => fitB x K) = true ∧ wq.heap[w.heap.size]? = some (.cells #[.string s, .slice oa N cap] 26 (0, 0)) ∧ Below w.heap.size w wq) (fun iv _ => N - (intOf iv).toNat)
      case atStart => exact ⟨0, rfl, Nat.zero_le _, rfl, H1.out.1, H1.out.2⟩
      case round =>
        obtain ⟨i, rfl, hiN, hall, hnq, hb⟩ := hrel
        obtain ⟨wq, rfl⟩ : ∃ wq, wq = wr := ⟨_, rfl⟩
        clear H1
        obtain ⟨t0, t1⟩ := tx_text hnq
        have hlq : w.heap.size < wq.heap.size := (Array.getElem?_eq_some_iff.1 hnq).1
        by_cases hlt : i < N
        · obtain ⟨x, hx⟩ : ∃ x, D[i]? = some x := ⟨_, List.getElem?_eq_getElem (by rw [HX.out.2.1]; exact hlt)⟩
          obtain ⟨a, rfl, hab, c0, c1, c2, c3⟩ := HX.out.2.2.keep hb i x hx
          have d3 : (i : Int) < (N : Int) := by omega
          have wi : IntKind.i64.wrap ((i : Int) + 1) = ((i + 1 : Nat) : Int) := by rw [show ((i + 1 : Nat) : Int) = (i : Int) + 1 by omega]; exact IntWalk.i64_in _ ⟨by omega, by omega⟩
          have HF := hideS (sfits_any x K wq)
          unfold Sp.val at HF
          obtain ⟨g, hg⟩ : ∃ g, fitB x K = g := ⟨_, rfl⟩
          rw [hg] at HF
          have HA := hideS (And.intro (And.intro hall hg) (And.intro hnq (And.intro hb hx)))
          clear hall hg hnq hb hx
          go_wp2_with fail
          refine HF.out.mono ?_
          rintro e w5 ⟨rfl, b5⟩
          have H5 := hideS (And.intro ((b5.block w.heap.size hlq).trans HA.out.2.1) (bupS HA.out.2.2.1 b5))
          clear b5 HF c0 c1 c2 c3 t0 t1
          cases g with
          | true =>
            go_wp2_with fail
            go_roundw
            case rel =>
              refine ⟨i + 1, by first | rfl | simp, by omega, ?_, H5.out.1, H5.out.2⟩
              rw [List.take_add_one, HA.out.2.2.2, List.all_append, HA.out.1.1]
              simp [HA.out.1.2]
            case measure => simp [intOf]; omega
          | false =>
            go_wp2_with fail
            go_ret
            refine ⟨?_, H5.out.2⟩
            have hm : x ∈ D := List.mem_of_getElem? HA.out.2.2.2
            have h0 : allB D K = false := List.all_eq_false.2 ⟨x, hm, by rw [HA.out.1.2]; simp⟩
            have e9 := HX.out.1
            rw [if_neg (by rw [h0]; simp)] at e9
            rw [← e9]
            rfl
        · have d3 : ¬ (i : Int) < (N : Int) := by omega
          have hAll : allB D K = true := by
            rw [List.take_of_length_le (by rw [HX.out.2.1]; omega)] at hall
            exact hall
          have hlt2 := fit_lt hAll
          have HA := hideS (And.intro hAll (And.intro hnq (And.intro hb hlt2)))
          clear hall hAll hnq hb hlt2
          go_wp2_with fail
          go_loopw [5] (fun iv wz => ∃ i : Nat, iv = .int .i64 (i : Nat) ∧ i ≤ N ∧ NoCr D i ∧ wz.heap[w.heap.size]? = some (.cells #[.string s, .slice oa N cap] 26 (0, 0)) ∧ Below w.heap.size w wz) (fun iv _ => N - (intOf iv).toNat)
          case atStart => exact ⟨0, rfl, Nat.zero_le _, fun j k x y hj => absurd hj (by omega), HA.out.2.1, HA.out.2.2.1⟩
          case round =>
            clear t0 t1 hlq d3
            obtain ⟨i, rfl, hiN, hno, hnz, hbz⟩ := hrel
            obtain ⟨wz, rfl⟩ : ∃ wz, wz = wr := ⟨_, rfl⟩
            obtain ⟨t0, t1⟩ := tx_text hnz
            by_cases hlt : i < N
            · obtain ⟨x, hx⟩ : ∃ x, D[i]? = some x := ⟨_, List.getElem?_eq_getElem (by rw [HX.out.2.1]; exact hlt)⟩
              have d3 : (i : Int) < (N : Int) := by omega
              have wi : IntKind.i64.wrap ((i : Int) + 1) = ((i + 1 : Nat) : Int) := by rw [show ((i + 1 : Nat) : Int) = (i : Int) + 1 by omega]; exact IntWalk.i64_in _ ⟨by omega, by omega⟩
              have HZ := hideS (And.intro hno (And.intro hnz (And.intro hbz hx)))
              clear hno hnz hbz hx
              go_wp2_with fail
              go_loopw [6] (fun kv wx => ∃ k : Nat, kv = .int .i64 (k : Nat) ∧ k ≤ i ∧ (∀ j y, j < k → D[j]? = some y → ¬ crS x y) ∧ wx.heap[w.heap.size]? = some (.cells #[.string s, .slice oa N cap] 26 (0, 0)) ∧ Below w.heap.size w wx) (fun kv _ => i - (intOf kv).toNat)
              case atStart => exact ⟨0, rfl, Nat.zero_le _, fun j y hj => absurd hj (by omega), HZ.out.2.1, HZ.out.2.2.1⟩
              case round =>
                clear t0 t1
                obtain ⟨k, rfl, hki, hnk, hnx, hbx⟩ := hrel
                obtain ⟨wx, rfl⟩ : ∃ wx, wx = wr := ⟨_, rfl⟩
                by_cases hkl : k < i
                · obtain ⟨y, hy⟩ : ∃ y, D[k]? = some y := ⟨_, List.getElem?_eq_getElem (by rw [HX.out.2.1]; omega)⟩
                  obtain ⟨a, rfl, hab, c0, c1, c2, c3⟩ := HX.out.2.2.keep hbx i x HZ.out.2.2.2
                  obtain ⟨a2, ha2, _, e0, e1, e2, e3⟩ := HX.out.2.2.keep hbx k y hy
                  obtain rfl : a = a2 := by simpa using ha2
                  obtain ⟨t0, t1⟩ := tx_text hnx
                  have hlx : w.heap.size < wx.heap.size := (Array.getElem?_eq_some_iff.1 hnx).1
                  have hai : (a.add (i * 4)).block < wx.heap.size := by rw [addrS_block]; exact hab
                  have hak : (a.add (k * 4)).block < wx.heap.size := by rw [addrS_block]; exact hab
                  have d4 : (k : Int) < (i : Int) := by omega
                  have d5 : (k : Int) < (N : Int) := by omega
                  have wk : IntKind.i64.wrap ((k : Int) + 1) = ((k + 1 : Nat) : Int) := by rw [show ((k + 1 : Nat) : Int) = (k : Int) + 1 by omega]; exact IntWalk.i64_in _ ⟨by omega, by omega⟩
                  have HF := hideS (fun W => rcross_any x y W)
                  unfold Sp.val at HF
                  obtain ⟨g, hg⟩ : ∃ g, decide (crS x y) = g := ⟨_, rfl⟩
                  rw [hg] at HF
                  have HQ := hideS (And.intro (And.intro hnk hg) (And.intro hnx (And.intro hbx hy)))
                  have z1 : ∀ q : GrownQ wx, q.V.cell? ⟨w.heap.size, 1, none⟩ = some (.slice (some a) N cap) := fun q => (q.h.cell (p := ⟨w.heap.size, 1, none⟩) hlx).trans t1
                  have u0 : ∀ q : GrownQ wx, q.V.cell? (a.add (i * 4)) = some (.int .i64 x.fr) := fun q => (q.h.cell hai).trans c0
                  have u1 : ∀ q : GrownQ wx, q.V.cell? ⟨(a.add (i * 4)).block, (a.add (i * 4)).off + 1, none⟩ = some (.int .i64 x.tt) := fun q => (q.h.cell (p := ⟨(a.add (i * 4)).block, _, none⟩) hai).trans c1
                  have u2 : ∀ q : GrownQ wx, q.V.cell? ⟨(a.add (i * 4)).block, (a.add (i * 4)).off + 2, none⟩ = some (.int .i64 x.kd) := fun q => (q.h.cell (p := ⟨(a.add (i * 4)).block, _, none⟩) hai).trans c2
                  have u3 : ∀ q : GrownQ wx, q.V.cell? ⟨(a.add (i * 4)).block, (a.add (i * 4)).off + 3, none⟩ = some (.int .i64 x.vl) := fun q => (q.h.cell (p := ⟨(a.add (i * 4)).block, _, none⟩) hai).trans c3
                  have v0 : ∀ q : GrownQ wx, q.V.cell? (a.add (k * 4)) = some (.int .i64 y.fr) := fun q => (q.h.cell hak).trans e0
                  have v1 : ∀ q : GrownQ wx, q.V.cell? ⟨(a.add (k * 4)).block, (a.add (k * 4)).off + 1, none⟩ = some (.int .i64 y.tt) := fun q => (q.h.cell (p := ⟨(a.add (k * 4)).block, _, none⟩) hak).trans e1
                  have v2 : ∀ q : GrownQ wx, q.V.cell? ⟨(a.add (k * 4)).block, (a.add (k * 4)).off + 2, none⟩ = some (.int .i64 y.kd) := fun q => (q.h.cell (p := ⟨(a.add (k * 4)).block, _, none⟩) hak).trans e2
                  have v3 : ∀ q : GrownQ wx, q.V.cell? ⟨(a.add (k * 4)).block, (a.add (k * 4)).off + 3, none⟩ = some (.int .i64 y.vl) := fun q => (q.h.cell (p := ⟨(a.add (k * 4)).block, _, none⟩) hak).trans e3
                  clear hnk hg hnx hbx hy c0 c1 c2 c3 e0 e1 e2 e3 t0 t1
                  go_upto_region 17 with fail
                  refine region_grown wx wx (by kernel_rfl) (by kernel_rfl) (Below.refl _ _) ?_
                  repeat (go_big_quiet_step (first
                    | (go_at_call 55; rename_i q; (with_reducible refine (HF.out _).mono ?_); rintro e V1 ⟨rfl, h1⟩; exact ⟨rfl, ⟨V1, q.h.trans (h1.mono q.h.size)⟩, rfl⟩)))
                  refine wpQuiet_nil ?_
                  rintro W3 ⟨⟨V3, hb3⟩, hv3⟩
                  have hv3 : W3 = V3 := hv3
                  subst hv3
                  have H5 := hideS (And.intro ((hb3.block w.heap.size hlx).trans HQ.out.2.1) (bupS HQ.out.2.2.1 hb3))
                  clear hv3 hb3 z1 u0 u1 u2 u3 v0 v1 v2 v3 HF
                  cases g with
                  | true =>
                    go_wp2_with fail
                    go_ret
                    refine ⟨?_, H5.out.2⟩
                    have h0 := cr_some (List.mem_of_getElem? HZ.out.2.2.2) (List.mem_of_getElem? HQ.out.2.2.2) (of_decide_eq_true HQ.out.1.2) HA.out.2.2.2
                    have e9 := HX.out.1
                    rw [if_neg (by rw [h0]; simp)] at e9
                    rw [← e9]
                    rfl
                  | false =>
                    go_wp2_with fail
                    go_roundw
                    case rel =>
                      refine ⟨k + 1, by first | rfl | simp, by omega, fun j y2 hj hy2 => ?_, H5.out.1, H5.out.2⟩
                      by_cases hjk : j < k
                      · exact HQ.out.1.1 j y2 hjk hy2
                      · obtain rfl : j = k := by omega
                        have h9 := HQ.out.2.2.2
                        rw [hy2] at h9
                        obtain rfl := Option.some.inj h9
                        exact of_decide_eq_false HQ.out.1.2
                    case measure => simp [intOf]; omega
                · have d4 : ¬ (k : Int) < (i : Int) := by omega
                  have HQ := hideS (And.intro hnk (And.intro hnx hbx))
                  clear hnk hnx hbx
                  go_wp2_with fail
                  go_roundw
                  case rel =>
                    refine ⟨i + 1, by first | rfl | simp, by omega, fun j k2 x2 y2 hj hk2 hx2 hy2 => ?_, HQ.out.2.1, HQ.out.2.2⟩
                    by_cases hji : j < i
                    · exact HZ.out.1 j k2 x2 y2 hji hk2 hx2 hy2
                    · obtain rfl : j = i := by omega
                      have h9 := HZ.out.2.2.2
                      rw [hx2] at h9
                      obtain rfl := Option.some.inj h9
                      exact HQ.out.1 k2 y2 (by omega) hy2
                  case measure => simp [intOf]; omega
            · have d3 : ¬ (i : Int) < (N : Int) := by omega
              obtain rfl : i = N := by omega
              have h0 : crB D = false := noCr_all (by rw [HX.out.2.1]; exact hno) HA.out.2.2.2
              have HZ := hideS (And.intro h0 hbz)
              clear hno hnz hbz h0
              go_wp2_with fail
              go_ret
              refine ⟨?_, HZ.out.2⟩
              have e9 := HX.out.1
              rw [if_pos ⟨HA.out.1, HZ.out.1⟩] at e9
              rw [← e9]
              rfl
end Go.Proofs.YtdikfcnbkckinaaGreatDoor
