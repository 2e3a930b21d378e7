import Derived.Deep.CutBlock
import Derived.Laws.OwnMore
import Derived.Lib.SmallJoins
import Derived.Deep.Slices
import Derived.ChangeOld
import Derived.ShutString
import Derived.DataShut
import Derived.Test.YtlkgnheccoodpaaGreatDoorGD
import Derived.Test.YtlkgnheccoodpaaGreatDoorGH
import Derived.Test.YtlkgnheccoodpaaGreatDoorGR
import Derived.Test.YtlkgnheccoodpaaGreatDoorGS
import Derived.Test.YtlkgnheccoodpaaGreatDoorSpI
import Derived.Test.YtlkgnheccoodpaaGreatDoorSpJ
namespace Go.Proofs.YtlkgnheccoodpaaGreatDoor
open Go.RowKit Go.Shelf
attribute [local go_sem] Oper.semAt_some
end Go.Proofs.YtlkgnheccoodpaaGreatDoor
namespace Go.Proofs.YtlkgnheccoodpaaGreatDoor
open Go.RowKit Go.Shelf
attribute [local go_sem] Oper.semAt_some
set_option maxRecDepth 100000 in
set_option maxHeartbeats 1000000 in
theorem sfits_any (x : Sp) (n : Int) (w : World) : Calls Tryz.prog 41 #[x.val, .int .i64 n] w fun e w' => e = .returned (.bool (fitB x n)) ∧ Below w.heap.size w w' := by
 obtain ⟨f, t, k, v⟩ := x
 unfold fitB Sp.val
 simp only
 by_cases h0 : f < 0
 ·rw [decide_eq_false (by omega)]
  go_enter Tryz.func41, Tryz.ntmps41
  go_wp2_with fail
  go_ret
  exact ⟨rfl, bel1S w _⟩
 by_cases h1 : n < t
 ·rw [decide_eq_false (by omega)]
  go_enter Tryz.func41, Tryz.ntmps41
  go_wp2_with fail
  go_ret
  exact ⟨rfl, bel1S w _⟩
 by_cases h2 : t ≤ f
 ·rw [decide_eq_false (by omega)]
  go_enter Tryz.func41, Tryz.ntmps41
  go_wp2_with fail
  go_ret
  exact ⟨rfl, bel1S w _⟩
 by_cases h3 : k < 1
 ·rw [decide_eq_false (by omega)]
  go_enter Tryz.func41, Tryz.ntmps41
  go_wp2_with fail
  go_ret
  exact ⟨rfl, bel1S w _⟩
 by_cases h4 : 5 < k
 ·rw [decide_eq_false (by omega)]
  go_enter Tryz.func41, Tryz.ntmps41
  go_wp2_with fail
  go_ret
  exact ⟨rfl, bel1S w _⟩
 by_cases hk : k = 5
 ·subst hk
  rw [if_pos rfl]
  by_cases h5 : 0 ≤ v
  ·by_cases h6 : v ≤ 16777215
   ·rw [decide_eq_true (by omega)]
    go_enter Tryz.func41, Tryz.ntmps41
    go_wp2_with fail
    go_ret
    exact ⟨rfl, bel1S w _⟩
   ·rw [decide_eq_false (by omega)]
    go_enter Tryz.func41, Tryz.ntmps41
    go_wp2_with fail
    go_ret
    exact ⟨rfl, bel1S w _⟩
  ·rw [decide_eq_false (by omega)]
   go_enter Tryz.func41, Tryz.ntmps41
   go_wp2_with fail
   go_ret
   exact ⟨rfl, bel1S w _⟩
 ·have hke : (k == 5) = false := by simpa using hk
  rw [if_neg hk]
  by_cases h5 : v = 0
  ·subst h5
   rw [decide_eq_true (by omega)]
   go_enter Tryz.func41, Tryz.ntmps41
   go_wp2_with fail
   go_ret
   exact ⟨rfl, bel1S w _⟩
  ·have hv : (v == 0) = false := by simpa using h5
   rw [decide_eq_false (by omega)]
   go_enter Tryz.func41, Tryz.ntmps41
   go_wp2_with fail
   go_ret
   exact ⟨rfl, bel1S w _⟩
def inB (a b : Sp) : Bool := decide (b.fr ≤ a.fr ∧ a.tt ≤ b.tt)
set_option maxRecDepth 100000 in
set_option maxHeartbeats 1000000 in
theorem rwithin_any (a b : Sp) (w : World) : Calls Tryz.prog 74 #[a.val, b.val] w fun e w' => e = .returned (.bool (inB a b)) ∧ Below w.heap.size w w' := by
 obtain ⟨f, t, k, v⟩ := a
 obtain ⟨f2, t2, k2, v2⟩ := b
 unfold inB Sp.val
 simp only
 by_cases h1 : f2 ≤ f
 ·by_cases h2 : t ≤ t2
  ·rw [decide_eq_true (by omega)]
   go_enter Tryz.func74, Tryz.ntmps74
   go_wp2_with fail
   go_ret
   exact ⟨rfl, bupS (bel1S _ _) (bel1S _ _)⟩
  ·rw [decide_eq_false (by omega)]
   go_enter Tryz.func74, Tryz.ntmps74
   go_wp2_with fail
   go_ret
   exact ⟨rfl, bupS (bel1S _ _) (bel1S _ _)⟩
 ·rw [decide_eq_false (by omega)]
  go_enter Tryz.func74, Tryz.ntmps74
  go_wp2_with fail
  go_ret
  exact ⟨rfl, bupS (bel1S _ _) (bel1S _ _)⟩
instance (a b : Sp) : Decidable (crS a b) := by unfold crS; infer_instance
theorem crS_in (a b : Sp) : crS a b ↔ a.fr < b.tt ∧ b.fr < a.tt ∧ inB a b = false ∧ inB b a = false := by
 unfold crS inB
 simp only [decide_eq_false_iff_not]
set_option maxRecDepth 100000 in
set_option maxHeartbeats 2000000 in
theorem rcross_any (a b : Sp) (w : World) : Calls Tryz.prog 42 #[a.val, b.val] w fun e w' => e = .returned (.bool (decide (crS a b))) ∧ Below w.heap.size w w' := by
 obtain ⟨R, hR⟩ : ∃ R, decide (crS a b) = R := ⟨_, rfl⟩
 have hcr := crS_in a b
 rw [hR]
 have H1 := hideS (rwithin_any a b)
 have H2 := hideS (rwithin_any b a)
 obtain ⟨i1, hi1⟩ : ∃ i1, inB a b = i1 := ⟨_, rfl⟩
 obtain ⟨i2, hi2⟩ : ∃ i2, inB b a = i2 := ⟨_, rfl⟩
 rw [hi1] at H1 hcr
 rw [hi2] at H2 hcr
 obtain ⟨f, t, k, v⟩ := a
 obtain ⟨f2, t2, k2, v2⟩ := b
 unfold Sp.val at H1 H2 ⊢
 simp only at hcr H1 H2 ⊢
 have HB : ∀ W : World, Hid (Below W.heap.size W ((W.alloc (.cells #[.int .i64 f, .int .i64 t, .int .i64 k, .int .i64 v] 42)).alloc (.cells #[.int .i64 f2, .int .i64 t2, .int .i64 k2, .int .i64 v2] 42))) := fun W => hideS (bupS (bel1S _ _) (bel1S _ _))
 have HR : Hid (R = decide (f < t2 ∧ f2 < t ∧ i1 = false ∧ i2 = false)) := hideS (by rw [← hR]; exact decide_eq_decide.2 hcr)
 clear hR hcr hi1 hi2
 by_cases h1 : f < t2
 ·by_cases h2 : f2 < t
  ·cases i1 with
   | true =>
    obtain rfl : R = false := by rw [HR.out]; simp
    go_enter Tryz.func42, Tryz.ntmps42
    go_wp2_with fail
    refine (H1.out _).mono ?_
    rintro e w1 ⟨rfl, b1⟩
    have Hb := hideS (bupS (HB w).out b1)
    clear b1
    go_wp2_with fail
    go_ret
    exact ⟨rfl, Hb.out⟩
   | false =>
    have hR2 : R = !i2 := by rw [HR.out]; cases i2 <;> simp [h1, h2]
    obtain ⟨V, hV⟩ : ∃ V, ((w.alloc (.cells #[.int .i64 f, .int .i64 t, .int .i64 k, .int .i64 v] 42)).alloc (.cells #[.int .i64 f2, .int .i64 t2, .int .i64 k2, .int .i64 v2] 42)) = V := ⟨_, rfl⟩
    have n0 : V.heap[w.heap.size]? = some (.cells #[.int .i64 f, .int .i64 t, .int .i64 k, .int .i64 v] 42 (0, 0)) := by rw [← hV]; exact (Below.heap_alloc _ _ _ (by simp)).trans (World.alloc_heap_new w _)
    have n1 : V.heap[w.heap.size + 1]? = some (.cells #[.int .i64 f2, .int .i64 t2, .int .i64 k2, .int .i64 v2] 42 (0, 0)) := by
     rw [← hV]
     have h9 := World.alloc_heap_new (w.alloc (.cells #[.int .i64 f, .int .i64 t, .int .i64 k, .int .i64 v] 42)) (.cells #[.int .i64 f2, .int .i64 t2, .int .i64 k2, .int .i64 v2] 42 (0, 0))
     rw [World.size_alloc] at h9
     exact h9
    have l1 : w.heap.size + 1 < V.heap.size := (Array.getElem?_eq_some_iff.1 n1).1
    have hBV : Hid (Below w.heap.size w V) := hideS (by rw [← hV]; exact (HB w).out)
    have HN := hideS (And.intro n0 n1)
    have p0 : V.cell? ⟨w.heap.size, 0, none⟩ = some (.int .i64 f) := by simp [World.cell?, n0]
    have p1 : V.cell? ⟨w.heap.size, 1, none⟩ = some (.int .i64 t) := by simp [World.cell?, n0]
    have p2 : V.cell? ⟨w.heap.size, 2, none⟩ = some (.int .i64 k) := by simp [World.cell?, n0]
    have p3 : V.cell? ⟨w.heap.size, 3, none⟩ = some (.int .i64 v) := by simp [World.cell?, n0]
    have q0 : V.cell? ⟨w.heap.size + 1, 0, none⟩ = some (.int .i64 f2) := by simp [World.cell?, n1]
    have q1 : V.cell? ⟨w.heap.size + 1, 1, none⟩ = some (.int .i64 t2) := by simp [World.cell?, n1]
    have q2 : V.cell? ⟨w.heap.size + 1, 2, none⟩ = some (.int .i64 k2) := by simp [World.cell?, n1]
    have q3 : V.cell? ⟨w.heap.size + 1, 3, none⟩ = some (.int .i64 v2) := by simp [World.cell?, n1]
    clear n0 n1
    go_enter Tryz.func42, Tryz.ntmps42
    go_wp2_with fail
    try rw [hV]
    clear hV p0 p1 p2 p3 q0 q1 q2 q3
    refine (H1.out _).mono ?_
    rintro e w1 ⟨rfl, b1⟩
    have m0 := (b1.block w.heap.size (by omega)).trans HN.out.1
    have m1 := (b1.block (w.heap.size + 1) l1).trans HN.out.2
    have x0 : w1.cell? ⟨w.heap.size, 0, none⟩ = some (.int .i64 f) := by simp [World.cell?, m0]
    have x1 : w1.cell? ⟨w.heap.size, 1, none⟩ = some (.int .i64 t) := by simp [World.cell?, m0]
    have x2 : w1.cell? ⟨w.heap.size, 2, none⟩ = some (.int .i64 k) := by simp [World.cell?, m0]
    have x3 : w1.cell? ⟨w.heap.size, 3, none⟩ = some (.int .i64 v) := by simp [World.cell?, m0]
    have y0 : w1.cell? ⟨w.heap.size + 1, 0, none⟩ = some (.int .i64 f2) := by simp [World.cell?, m1]
    have y1 : w1.cell? ⟨w.heap.size + 1, 1, none⟩ = some (.int .i64 t2) := by simp [World.cell?, m1]
    have y2 : w1.cell? ⟨w.heap.size + 1, 2, none⟩ = some (.int .i64 k2) := by simp [World.cell?, m1]
    have y3 : w1.cell? ⟨w.heap.size + 1, 3, none⟩ = some (.int .i64 v2) := by simp [World.cell?, m1]
    have Hb := hideS (bupS hBV.out b1)
    clear b1 m0 m1
    go_wp2_with fail
    refine (H2.out _).mono ?_
    rintro e w2 ⟨rfl, b2⟩
    have Hb2 := hideS (bupS Hb.out b2)
    clear b2 x0 x1 x2 x3 y0 y1 y2 y3
    subst hR2
    cases i2 with
    | true =>
     go_wp2_with fail
     go_ret
     exact ⟨rfl, Hb2.out⟩
    | false =>
     go_wp2_with fail
     go_ret
     exact ⟨rfl, Hb2.out⟩
  ·obtain rfl : R = false := by rw [HR.out]; simp [h2]
   go_enter Tryz.func42, Tryz.ntmps42
   go_wp2_with fail
   go_ret
   exact ⟨rfl, (HB w).out⟩
 ·obtain rfl : R = false := by rw [HR.out]; simp [h1]
  go_enter Tryz.func42, Tryz.ntmps42
  go_wp2_with fail
  go_ret
  exact ⟨rfl, (HB w).out⟩
theorem tx_text {W : World} {P : Nat} {a b : Value} (h : W.heap[P]? = some (.cells #[a, b] 24 (0, 0))) : W.cell? ⟨P, 0, none⟩ = some a ∧ W.cell? ⟨P, 1, none⟩ = some b := by simp [World.cell?, h]
def NoCr (D : List Sp) (i : Nat) : Prop := ∀ j k x y, j < i → k < j → D[j]? = some x → D[k]? = some y → ¬ crS x y
theorem noCr_all {D : List Sp} (h : NoCr D D.length) (hf : ∀ x ∈ D, x.fr < x.tt) : crB D = false := by
 rw [← Bool.not_eq_true, crB_iff D hf]
 rintro ⟨x, hx, y, hy, hc⟩
 obtain ⟨i, hi, rfl⟩ := List.getElem_of_mem hx
 obtain ⟨j, hj, rfl⟩ := List.getElem_of_mem hy
 rcases Nat.lt_trichotomy i j with l | l | l
 ·exact h j i _ _ hj l (List.getElem?_eq_getElem hj) (List.getElem?_eq_getElem hi) hc
 ·subst l
  exact crS_irr _ hc
 ·exact h i j _ _ hi l (List.getElem?_eq_getElem hi) (List.getElem?_eq_getElem hj) (crS_symm hc)
theorem cr_some {D : List Sp} {x y : Sp} (hx : x ∈ D) (hy : y ∈ D) (h : crS x y) (hf : ∀ x ∈ D, x.fr < x.tt) : crB D = true := (crB_iff D hf).2 ⟨y, hy, x, hx, h⟩
theorem fit_lt {D : List Sp} {n : Int} (h : allB D n = true) : ∀ x ∈ D, x.fr < x.tt := fun x hx => by
 have h1 := List.all_eq_true.1 h x hx
 have h2 := of_decide_eq_true h1
 omega
set_option maxRecDepth 100000 in
set_option maxHeartbeats 4000000 in
theorem rcheck_any (s : ByteArray) (D : List Sp) (oa : Option Addr) (cap : Nat) (w : World) (hR : SpO w oa D) :
  Calls Tryz.prog 18 #[.agg #[.string s, .slice oa D.length cap]] w fun e w' => e = .returned (.int .i64 (chkT s D)) ∧ Below w.heap.size w w' := by
 obtain ⟨N, hN⟩ : ∃ N, D.length = N := ⟨_, rfl⟩
 have hmx : maxLen ≤ 9223372036854775807 := by decide
 obtain ⟨V, hV⟩ : ∃ V, w.alloc (.cells #[.string s, .slice oa N cap] 24) = V := ⟨_, rfl⟩
 have nV : V.heap[w.heap.size]? = some (.cells #[.string s, .slice oa N cap] 24 (0, 0)) := by rw [← hV]; exact World.alloc_heap_new w _
 have bV : Below w.heap.size w V := by rw [← hV]; exact bel1S _ _
 obtain ⟨t0, t1⟩ := tx_text nV
 have HV := hideS (And.intro nV bV)
 have hlV : w.heap.size < V.heap.size := (Array.getElem?_eq_some_iff.1 nV).1
 clear nV bV
 unfold chkT
 by_cases h1 : 4096 < s.size
 ·rw [if_pos h1, hN]
  have d1 : (4096 : Int) < (s.size : Int) := by omega
  go_enter Tryz.func18, Tryz.ntmps18
  go_wp2_with fail
  go_ret
  exact ⟨rfl, HV.out.2⟩
 ·rw [if_neg h1]
  have d1 : ¬ (4096 : Int) < (s.size : Int) := by omega
  by_cases h2 : 256 < D.length
  ·rw [if_pos h2, hN]
   have d2 : (256 : Int) < (N : Int) := by omega
   go_enter Tryz.func18, Tryz.ntmps18
   go_wp2_with fail
   go_ret
   exact ⟨rfl, HV.out.2⟩
  ·rw [if_neg h2]
   rw [hN] at h2
   have d2 : ¬ (256 : Int) < (N : Int) := by omega
   obtain ⟨K, hK⟩ : ∃ K : Nat, (signs s).length = K := ⟨_, rfl⟩
   have HCt := hideS (rcountR s (by omega) V)
   rw [hK] at HCt
   obtain ⟨R, hRd⟩ : ∃ R : Int, (if allB D (signs s).length = true ∧ crB D = false then 0 else 23) = R := ⟨_, rfl⟩
   rw [hK] at hRd
   rw [hK, hRd, hN]
   have HX := hideS (And.intro hRd (And.intro hN hR))
   clear hRd hR hK hN
   go_enter Tryz.func18, Tryz.ntmps18
   go_wp2_with fail
   refine HCt.out.mono ?_
   rintro e w1 ⟨rfl, b1⟩
   have H1 := hideS (And.intro ((b1.block w.heap.size hlV).trans HV.out.1) (bupS HV.out.2 b1))
   clear hV t0 t1 b1 HCt HV
   go_wp2_with fail
   go_loopw [4] (fun iv wq => ∃ i : Nat, iv = .int .i64 (i : Nat) ∧ i ≤ N ∧ (D.take i).all (fun x => fitB x K) = true ∧ wq.heap[w.heap.size]? = some (.cells #[.string s, .slice oa N cap] 24 (0, 0)) ∧ Below w.heap.size w wq) (fun iv _ => N - (intOf iv).toNat)
   case atStart => exact ⟨0, rfl, Nat.zero_le _, rfl, H1.out.1, H1.out.2⟩
   case round =>
    obtain ⟨i, rfl, hiN, hall, hnq, hb⟩ := hrel
    obtain ⟨wq, rfl⟩ : ∃ wq, wq = wr := ⟨_, rfl⟩
    clear H1
    obtain ⟨t0, t1⟩ := tx_text hnq
    have hlq : w.heap.size < wq.heap.size := (Array.getElem?_eq_some_iff.1 hnq).1
    by_cases hlt : i < N
    ·obtain ⟨x, hx⟩ : ∃ x, D[i]? = some x := ⟨_, List.getElem?_eq_getElem (by rw [HX.out.2.1]; exact hlt)⟩
     obtain ⟨a, rfl, hab, c0, c1, c2, c3⟩ := HX.out.2.2.keep hb i x hx
     have d3 : (i : Int) < (N : Int) := by omega
     have wi : IntKind.i64.wrap ((i : Int) + 1) = ((i + 1 : Nat) : Int) := by rw [show ((i + 1 : Nat) : Int) = (i : Int) + 1 by omega]; exact IntWalk.i64_in _ ⟨by omega, by omega⟩
     have HF := hideS (sfits_any x K wq)
     unfold Sp.val at HF
     obtain ⟨g, hg⟩ : ∃ g, fitB x K = g := ⟨_, rfl⟩
     rw [hg] at HF
     have HA := hideS (And.intro (And.intro hall hg) (And.intro hnq (And.intro hb hx)))
     clear hall hg hnq hb hx
     go_wp2_with fail
     refine HF.out.mono ?_
     rintro e w5 ⟨rfl, b5⟩
     have H5 := hideS (And.intro ((b5.block w.heap.size hlq).trans HA.out.2.1) (bupS HA.out.2.2.1 b5))
     clear b5 HF c0 c1 c2 c3 t0 t1
     cases g with
     | true =>
      go_wp2_with fail
      go_roundw
      case rel =>
       refine ⟨i + 1, by first | rfl | simp, by omega, ?_, H5.out.1, H5.out.2⟩
       rw [List.take_add_one, HA.out.2.2.2, List.all_append, HA.out.1.1]
       simp [HA.out.1.2]
      case measure => simp [intOf]; omega
     | false =>
      go_wp2_with fail
      go_ret
      refine ⟨?_, H5.out.2⟩
      have hm : x ∈ D := List.mem_of_getElem? HA.out.2.2.2
      have h0 : allB D K = false := List.all_eq_false.2 ⟨x, hm, by rw [HA.out.1.2]; simp⟩
      have e9 := HX.out.1
      rw [if_neg (by rw [h0]; simp)] at e9
      rw [← e9]
      rfl
    ·have d3 : ¬ (i : Int) < (N : Int) := by omega
     have hAll : allB D K = true := by
      rw [List.take_of_length_le (by rw [HX.out.2.1]; omega)] at hall
      exact hall
     have hlt2 := fit_lt hAll
     have HA := hideS (And.intro hAll (And.intro hnq (And.intro hb hlt2)))
     clear hall hAll hnq hb hlt2
     go_wp2_with fail
     go_loopw [5] (fun iv wz => ∃ i : Nat, iv = .int .i64 (i : Nat) ∧ i ≤ N ∧ NoCr D i ∧ wz.heap[w.heap.size]? = some (.cells #[.string s, .slice oa N cap] 24 (0, 0)) ∧ Below w.heap.size w wz) (fun iv _ => N - (intOf iv).toNat)
     case atStart => exact ⟨0, rfl, Nat.zero_le _, fun j k x y hj => absurd hj (by omega), HA.out.2.1, HA.out.2.2.1⟩
     case round =>
      clear t0 t1 hlq d3
      obtain ⟨i, rfl, hiN, hno, hnz, hbz⟩ := hrel
      obtain ⟨wz, rfl⟩ : ∃ wz, wz = wr := ⟨_, rfl⟩
      obtain ⟨t0, t1⟩ := tx_text hnz
      by_cases hlt : i < N
      ·obtain ⟨x, hx⟩ : ∃ x, D[i]? = some x := ⟨_, List.getElem?_eq_getElem (by rw [HX.out.2.1]; exact hlt)⟩
       have d3 : (i : Int) < (N : Int) := by omega
       have wi : IntKind.i64.wrap ((i : Int) + 1) = ((i + 1 : Nat) : Int) := by rw [show ((i + 1 : Nat) : Int) = (i : Int) + 1 by omega]; exact IntWalk.i64_in _ ⟨by omega, by omega⟩
       have HZ := hideS (And.intro hno (And.intro hnz (And.intro hbz hx)))
       clear hno hnz hbz hx
       go_wp2_with fail
       go_loopw [6] (fun kv wx => ∃ k : Nat, kv = .int .i64 (k : Nat) ∧ k ≤ i ∧ (∀ j y, j < k → D[j]? = some y → ¬ crS x y) ∧ wx.heap[w.heap.size]? = some (.cells #[.string s, .slice oa N cap] 24 (0, 0)) ∧ Below w.heap.size w wx) (fun kv _ => i - (intOf kv).toNat)
       case atStart => exact ⟨0, rfl, Nat.zero_le _, fun j y hj => absurd hj (by omega), HZ.out.2.1, HZ.out.2.2.1⟩
       case round =>
        clear t0 t1
        obtain ⟨k, rfl, hki, hnk, hnx, hbx⟩ := hrel
        obtain ⟨wx, rfl⟩ : ∃ wx, wx = wr := ⟨_, rfl⟩
        by_cases hkl : k < i
        ·obtain ⟨y, hy⟩ : ∃ y, D[k]? = some y := ⟨_, List.getElem?_eq_getElem (by rw [HX.out.2.1]; omega)⟩
         obtain ⟨a, rfl, hab, c0, c1, c2, c3⟩ := HX.out.2.2.keep hbx i x HZ.out.2.2.2
         obtain ⟨a2, ha2, _, e0, e1, e2, e3⟩ := HX.out.2.2.keep hbx k y hy
         obtain rfl : a = a2 := by simpa using ha2
         obtain ⟨t0, t1⟩ := tx_text hnx
         have hlx : w.heap.size < wx.heap.size := (Array.getElem?_eq_some_iff.1 hnx).1
         have hai : (a.add (i * 4)).block < wx.heap.size := by rw [addrS_block]; exact hab
         have hak : (a.add (k * 4)).block < wx.heap.size := by rw [addrS_block]; exact hab
         have d4 : (k : Int) < (i : Int) := by omega
         have d5 : (k : Int) < (N : Int) := by omega
         have wk : IntKind.i64.wrap ((k : Int) + 1) = ((k + 1 : Nat) : Int) := by rw [show ((k + 1 : Nat) : Int) = (k : Int) + 1 by omega]; exact IntWalk.i64_in _ ⟨by omega, by omega⟩
         have HF := hideS (fun W => rcross_any x y W)
         unfold Sp.val at HF
         obtain ⟨g, hg⟩ : ∃ g, decide (crS x y) = g := ⟨_, rfl⟩
         rw [hg] at HF
         have HQ := hideS (And.intro (And.intro hnk hg) (And.intro hnx (And.intro hbx hy)))
         have z1 : ∀ q : GrownQ wx, q.V.cell? ⟨w.heap.size, 1, none⟩ = some (.slice (some a) N cap) := fun q => (q.h.cell (p := ⟨w.heap.size, 1, none⟩) hlx).trans t1
         have u0 : ∀ q : GrownQ wx, q.V.cell? (a.add (i * 4)) = some (.int .i64 x.fr) := fun q => (q.h.cell hai).trans c0
         have u1 : ∀ q : GrownQ wx, q.V.cell? ⟨(a.add (i * 4)).block, (a.add (i * 4)).off + 1, none⟩ = some (.int .i64 x.tt) := fun q => (q.h.cell (p := ⟨(a.add (i * 4)).block, _, none⟩) hai).trans c1
         have u2 : ∀ q : GrownQ wx, q.V.cell? ⟨(a.add (i * 4)).block, (a.add (i * 4)).off + 2, none⟩ = some (.int .i64 x.kd) := fun q => (q.h.cell (p := ⟨(a.add (i * 4)).block, _, none⟩) hai).trans c2
         have u3 : ∀ q : GrownQ wx, q.V.cell? ⟨(a.add (i * 4)).block, (a.add (i * 4)).off + 3, none⟩ = some (.int .i64 x.vl) := fun q => (q.h.cell (p := ⟨(a.add (i * 4)).block, _, none⟩) hai).trans c3
         have v0 : ∀ q : GrownQ wx, q.V.cell? (a.add (k * 4)) = some (.int .i64 y.fr) := fun q => (q.h.cell hak).trans e0
         have v1 : ∀ q : GrownQ wx, q.V.cell? ⟨(a.add (k * 4)).block, (a.add (k * 4)).off + 1, none⟩ = some (.int .i64 y.tt) := fun q => (q.h.cell (p := ⟨(a.add (k * 4)).block, _, none⟩) hak).trans e1
         have v2 : ∀ q : GrownQ wx, q.V.cell? ⟨(a.add (k * 4)).block, (a.add (k * 4)).off + 2, none⟩ = some (.int .i64 y.kd) := fun q => (q.h.cell (p := ⟨(a.add (k * 4)).block, _, none⟩) hak).trans e2
         have v3 : ∀ q : GrownQ wx, q.V.cell? ⟨(a.add (k * 4)).block, (a.add (k * 4)).off + 3, none⟩ = some (.int .i64 y.vl) := fun q => (q.h.cell (p := ⟨(a.add (k * 4)).block, _, none⟩) hak).trans e3
         clear hnk hg hnx hbx hy c0 c1 c2 c3 e0 e1 e2 e3 t0 t1
         go_upto_region 17 with fail
         refine region_grown wx wx (by kernel_rfl) (by kernel_rfl) (Below.refl _ _) ?_
         repeat (go_big_quiet_step (first
          | (go_at_call 42; rename_i q; (with_reducible refine (HF.out _).mono ?_); rintro e V1 ⟨rfl, h1⟩; exact ⟨rfl, ⟨V1, q.h.trans (h1.mono q.h.size)⟩, rfl⟩)))
         refine wpQuiet_nil ?_
         rintro W3 ⟨⟨V3, hb3⟩, hv3⟩
         have hv3 : W3 = V3 := hv3
         subst hv3
         have H5 := hideS (And.intro ((hb3.block w.heap.size hlx).trans HQ.out.2.1) (bupS HQ.out.2.2.1 hb3))
         clear hv3 hb3 z1 u0 u1 u2 u3 v0 v1 v2 v3 HF
         cases g with
         | true =>
          go_wp2_with fail
          go_ret
          refine ⟨?_, H5.out.2⟩
          have h0 := cr_some (List.mem_of_getElem? HZ.out.2.2.2) (List.mem_of_getElem? HQ.out.2.2.2) (of_decide_eq_true HQ.out.1.2) HA.out.2.2.2
          have e9 := HX.out.1
          rw [if_neg (by rw [h0]; simp)] at e9
          rw [← e9]
          rfl
         | false =>
          go_wp2_with fail
          go_roundw
          case rel =>
           refine ⟨k + 1, by first | rfl | simp, by omega, fun j y2 hj hy2 => ?_, H5.out.1, H5.out.2⟩
           by_cases hjk : j < k
           ·exact HQ.out.1.1 j y2 hjk hy2
           ·obtain rfl : j = k := by omega
            have h9 := HQ.out.2.2.2
            rw [hy2] at h9
            obtain rfl := Option.some.inj h9
            exact of_decide_eq_false HQ.out.1.2
          case measure => simp [intOf]; omega
        ·have d4 : ¬ (k : Int) < (i : Int) := by omega
         have HQ := hideS (And.intro hnk (And.intro hnx hbx))
         clear hnk hnx hbx
         go_wp2_with fail
         go_roundw
         case rel =>
          refine ⟨i + 1, by first | rfl | simp, by omega, fun j k2 x2 y2 hj hk2 hx2 hy2 => ?_, HQ.out.2.1, HQ.out.2.2⟩
          by_cases hji : j < i
          ·exact HZ.out.1 j k2 x2 y2 hji hk2 hx2 hy2
          ·obtain rfl : j = i := by omega
           have h9 := HZ.out.2.2.2
           rw [hx2] at h9
           obtain rfl := Option.some.inj h9
           exact HQ.out.1 k2 y2 (by omega) hy2
         case measure => simp [intOf]; omega
      ·have d3 : ¬ (i : Int) < (N : Int) := by omega
       obtain rfl : i = N := by omega
       have h0 : crB D = false := noCr_all (by rw [HX.out.2.1]; exact hno) HA.out.2.2.2
       have HZ := hideS (And.intro h0 hbz)
       clear hno hnz hbz h0
       go_wp2_with fail
       go_ret
       refine ⟨?_, HZ.out.2⟩
       have e9 := HX.out.1
       rw [if_pos ⟨HA.out.1, HZ.out.1⟩] at e9
       rw [← e9]
       rfl
end Go.Proofs.YtlkgnheccoodpaaGreatDoor
namespace Go.Proofs.YtlkgnheccoodpaaGreatDoor
open Go.RowKit Go.Shelf
attribute [local go_sem] Oper.semAt_some
theorem sp_under : Tryz.prog.underlying 42 = some (.struct (Tryz.prog.fieldsOf 42)) := by kernel_rfl
theorem sp_held : Tryz.prog.stoodInHeld 42 = false := by kernel_rfl
theorem sp_guard : Tryz.prog.eqGuardType Tryz.prog.depth 42 = false := by kernel_rfl
theorem sp_fields : (Tryz.prog.fieldsOf 42).toList.map (fun f => (f.name, f.type, f.offset)) = [("From", 3, 0), ("To", 3, 1), ("Kind", 3, 2), ("Value", 3, 3)] := by kernel_rfl
set_option maxRecDepth 100000 in
theorem sp_same (a b c d : Int) (w : World) : (Op.equalIn 10000 42 (.agg #[.int .i64 a, .int .i64 b, .int .i64 c, .int .i64 d]) (.agg #[.int .i64 a, .int .i64 b, .int .i64 c, .int .i64 d])).run Tryz.prog w = .ok true w := by
 rw [run_equalIn_agg _ _ _ _ _ sp_under sp_held]
 have hf := sp_fields
 match h : (Tryz.prog.fieldsOf 42).toList, hf with
 | [f0, f1, f2, f3], hf =>
  clear h
  simp only [List.map_cons, List.map_nil, List.cons.injEq, Prod.mk.injEq, and_true] at hf
  obtain ⟨⟨n0, t0, o0⟩, ⟨n1, t1, o1⟩, ⟨n2, t2, o2⟩, ⟨n3, t3, o3⟩⟩ := hf
  have u3 : Tryz.prog.underlying 3 = some (.int .i64) := Tryz.underlying3
  simp [Op.eqFields, n0, n1, n2, n3, t0, t1, t2, t3, o0, o1, o2, o3, go_sem, u3]
 | [], hf => simp at hf
 | [_], hf => simp at hf
 | [_, _], hf => simp at hf
 | [_, _, _], hf => simp at hf
 | _ :: _ :: _ :: _ :: _ :: _, hf => simp at hf
theorem sp_neq (a b c d : Int) (w : World) : (binOp .neq 42 (.agg #[.int .i64 a, .int .i64 b, .int .i64 c, .int .i64 d]) (.agg #[.int .i64 a, .int .i64 b, .int .i64 c, .int .i64 d])).run Tryz.prog w = .ok (.bool false) w := by
 rw [run_neq_struct, sp_same]; rfl
theorem sp_eql (a b c d : Int) (w : World) : (binOp .eql 42 (.agg #[.int .i64 a, .int .i64 b, .int .i64 c, .int .i64 d]) (.agg #[.int .i64 a, .int .i64 b, .int .i64 c, .int .i64 d])).run Tryz.prog w = .ok (.bool true) w := by
 rw [run_eql_struct, sp_same]; rfl
set_option maxRecDepth 100000 in
set_option maxHeartbeats 2000000 in
theorem samesp_any (D : List Sp) (o1 o2 : Option Addr) (c1 c2 : Nat) (hc1 : D.length ≤ c1 ∧ c1 ≤ maxLen) (w : World) (hR1 : SpO w o1 D) (hR2 : SpO w o2 D) :
  Calls Tryz.prog 27 #[.slice o1 D.length c1, .slice o2 D.length c2] w fun e w' => e = .returned (.bool true) ∧ Below w.heap.size w w' := by
 obtain ⟨N, hN⟩ : ∃ N, D.length = N := ⟨_, rfl⟩
 have HN := hideS (And.intro hN (And.intro hR1 hR2))
 rw [hN] at hc1 ⊢
 have hcm : c1 ≤ 9223372036854775807 := hc1.2
 clear hN hR1 hR2
 have hgd := sp_guard
 have hne := sp_neq
 go_enter Tryz.func27, Tryz.ntmps27
 go_wp2_with fail
 go_loopw [5] (fun iv wq => ∃ i : Nat, iv = .int .i64 (i : Nat) ∧ i ≤ N ∧ Below w.heap.size w wq) (fun iv _ => N - (intOf iv).toNat)
 case atStart => exact ⟨0, rfl, Nat.zero_le _, Below.refl _ _⟩
 case round =>
  obtain ⟨i, rfl, hiN, hb⟩ := hrel
  obtain ⟨wq, rfl⟩ : ∃ wq, wq = wr := ⟨_, rfl⟩
  by_cases hlt : i < N
  ·obtain ⟨x, hx⟩ : ∃ x, D[i]? = some x := ⟨_, List.getElem?_eq_getElem (by rw [HN.out.1]; exact hlt)⟩
   obtain ⟨a, rfl, _, k0, k1, k2, k3⟩ := HN.out.2.1.keep hb i x hx
   obtain ⟨b, rfl, _, e0, e1, e2, e3⟩ := HN.out.2.2.keep hb i x hx
   have d1 : (i : Int) < (N : Int) := by omega
   have wi : IntKind.i64.wrap ((i : Int) + 1) = ((i + 1 : Nat) : Int) := by rw [show ((i + 1 : Nat) : Int) = (i : Int) + 1 by omega]; exact IntWalk.i64_in _ ⟨by omega, by omega⟩
   have HB := hideS hb
   clear hb hx
   go_wp2_with fail
   go_quiet (fail)
   go_wp2_with fail
   go_roundw
   case rel => exact ⟨i + 1, by first | rfl | simp, by omega, HB.out.trans ((below_dnS (Below.refl _ _) nq).mono HB.out.size)⟩
   case measure => simp [intOf]; omega
  ·have d1 : ¬ (i : Int) < (N : Int) := by omega
   have HB := hideS hb
   clear hb
   go_wp2_with fail
   go_ret
   exact ⟨rfl, HB.out⟩
end Go.Proofs.YtlkgnheccoodpaaGreatDoor
namespace Go.Proofs.YtlkgnheccoodpaaGreatDoor
open Go.RowKit Go.Shelf
attribute [local go_sem] Oper.semAt_some
def mkS : Sp := ⟨-77, 0, 0, 0⟩
theorem step_spans {P : Program} (w : World) {ops : Array Oper} {o : Oper} {a : Act} {K : Act → World → Prop} {Q : Exit → Act → World → Prop} {E : Prop} (hg : o.guard = none) (s x : Operand) (t : TypeId)
  (ho : o.op = .call { callee := .builtin .append, args := #[s, x], argTypes := #[t, t] })
  (base : Nat) (e : TypeId) (i : TypeInfo) (z : Value) (size bytes : Nat) (ht : P.underlying t = some (.slice e)) (hi : P.info? e = some i) (hz : i.zero = some z)
  (hsize : i.size = size) (hby : i.bytes = bytes) (hzs : z.cells.size = size) (hsz : 0 < size)
  (v : Value) (n : Nat) (xs : List Value) (hs : a.eval s = v) (hown : w.ownsRow base e size v n xs)
  (oa : Option Addr) (m c : Nat) (news : List Value) (hx : a.eval x = .slice oa m c) (hn : oa = none → m = 0 ∧ c = 0) (hl : news.length = m * size) (hnews : ∀ ad, oa = some ad → ∀ j u, news[j]? = some u → w.cell? (ad.add j) = some u) (h1 : ∀ u ∈ news, u.oneCell' = true)
  (h63 : n + m ≤ maxLen) (hbytes : (n + m) * bytes ≤ 140737488355328) (hbase : base ≤ w.heap.size)
  (hvn : v ≠ .slice none 0 0) (h : ∀ v' w', w'.ownsRow base e size v' (n + m) (xs ++ news) → w.grownBy w' v.ownBlock → v' ≠ .slice none 0 0 → K (a.put o.dst v') w') :
  if Region.wanted o (yielded ops a.tmps) = true then Oper.wp P o a w K Q else E := by
 have hw : Region.wanted o (yielded ops a.tmps) = true := by simp [Region.wanted, hg]
 rw [if_pos hw]
 cases oa with
 | none =>
  obtain ⟨rfl, rfl⟩ := hn rfl
  have hbv : news = [] := List.length_eq_zero_iff.1 (by rw [hl, Nat.zero_mul])
  subst hbv
  have h2 := h v w (by rw [List.append_nil]; exact hown) (World.grownBy.refl w _) hvn
  have hrun := run_append_owned_none (P := P) (w := w) base t o.type e i size ht hi v n xs hown
  unfold Oper.wp
  simp [execOp, ho, resolve, invoke, builtin, hs, hx, hrun, Result.andThen]
  exact h2
 | some ad => exact wp_append_own w s x t ho base e i z size bytes ht hi hz hsize hby hzs hsz v n xs hs hown ad m c news hx hl (hnews ad rfl) h1 h63 hbytes hbase fun v' w' h2 h3 h4 => h v' w' h2 h3 (fun e9 => hvn (h4.1 e9).1)
theorem own_some {W : World} {base n : Nat} {e : TypeId} {size : Nat} {v : Value} {xs : List Value} (h : W.ownsRow base e size v (n + 1) xs) : ∃ g c, v = .slice (some ⟨g, 0, none⟩) (n + 1) c ∧ n + 1 ≤ c := by
 rcases h.2 with ⟨_, e0⟩ | ⟨g, c, cur, e0, _, _, h3, _⟩
 ·omega
 ·exact ⟨g, c, e0, h3⟩
theorem make_spans (n : Nat) (hn : n ≤ 8796093022208) : ∃ mk : World → World, ∀ W : World, (Instr.makeSlice 22 (.int .i64 0) (.int .i64 (n : Int))).run Tryz.prog W = .ok (.slice (some ⟨W.heap.size, 0, none⟩) 0 n) (mk W) ∧
  (mk W).ownsRow W.heap.size 42 4 (.slice (some ⟨W.heap.size, 0, none⟩) 0 n) 0 [] ∧ W.grownBy (mk W) none := by
 obtain ⟨i0, hi, hz0, hz1, hz2⟩ := info_parts infoSp
 obtain ⟨mk, h⟩ := Classical.axiomOfChoice (fun W : World => run_make_own (P := Tryz.prog) W W.heap.size 22 42 i0 (.agg #[.int .i64 0, .int .i64 0, .int .i64 0, .int .i64 0]) 4 Tryz.underlying22 hi hz0 hz1 .i64 .i64 n (by rw [hz2]; omega) (by unfold maxLen; omega) (Nat.le_refl _))
 exact ⟨mk, h⟩
set_option maxRecDepth 100000 in
set_option maxHeartbeats 4000000 in
theorem lend_any7 (s : ByteArray) (D : List Sp) (oa : Option Addr) (ca : Nat) (hl : D.length ≤ 4398046510976) (hna : oa = none → D = [] ∧ ca = 0) (w : World) (hRa : SpO w oa D) :
  Calls Tryz.prog 5 #[.agg #[.string s, .slice oa D.length ca]] w fun e w' => ∃ g c, e = .returned (.agg #[.string s, .slice (some ⟨g, 0, none⟩) D.length c]) ∧ w'.ownsRow w.heap.size 42 4 (.slice (some ⟨g, 0, none⟩) (D.length + 1) c) (D.length + 1) (flat4 (D ++ [mkS])) ∧ Below w.heap.size w w' := by
 obtain ⟨i0, hi, hz0, hz1, hz2⟩ := info_parts infoSp
 obtain ⟨N, hN⟩ : ∃ N, D.length = N := ⟨_, rfl⟩
 have HX := hideS (And.intro hN (And.intro hRa hna))
 rw [hN] at hl ⊢
 obtain ⟨M, hM⟩ : ∃ M, N + 3 = M := ⟨_, rfl⟩
 obtain ⟨mk, hmk⟩ := make_spans M (by omega)
 have HMR : ∀ W : World, (Instr.makeSlice 22 (.int .i64 0) (.int .i64 (M : Int))).run Tryz.prog W = .ok (.slice (some ⟨W.heap.size, 0, none⟩) 0 M) (mk W) := fun W => (hmk W).1
 have HMO := hideS (fun W => (hmk W).2)
 clear hmk hN hRa hna
 have w1 : (N : Int) + 3 = (M : Int) := by omega
 have w2 : IntKind.i64.wrap (M : Int) = (M : Int) := IntWalk.i64_in _ ⟨by omega, by omega⟩
 obtain ⟨V, hV⟩ : ∃ V, (w.alloc (.cells #[.string s, .slice oa N ca] 24)).alloc (.cells #[.string ⟨#[]⟩, .slice none 0 0] 24) = V := ⟨_, rfl⟩
 have t0 : Tx V w.heap.size (.string s) (.slice oa N ca) := by rw [← hV]; exact (Tx.new w _ _).keep (bel1S _ _)
 have t1 : Tx V (w.heap.size + 1) (.string ⟨#[]⟩) (.slice none 0 0) := by
  rw [← hV]
  have h9 := Tx.new (w.alloc (.cells #[.string s, .slice oa N ca] 24)) (.string ⟨#[]⟩) (.slice none 0 0)
  rw [World.size_alloc] at h9
  exact h9
 have bV : Below w.heap.size w V := by rw [← hV]; exact bupS (bel1S _ _) (bel1S _ _)
 have HV := hideS (And.intro t0 (And.intro t1 bV))
 obtain ⟨k0, k1, _, _⟩ := t0.cells
 have hl0 := t0.lt
 clear t0 t1 bV
 obtain ⟨PO, hPO⟩ : ∃ PO : Ending → World → Prop, PO = fun e w' => ∃ g c, e = .returned (.agg #[.string s, .slice (some ⟨g, 0, none⟩) N c]) ∧ w'.ownsRow w.heap.size 42 4 (.slice (some ⟨g, 0, none⟩) (N + 1) c) (N + 1) (flat4 (D ++ [mkS])) ∧ Below w.heap.size w w' := ⟨_, rfl⟩
 rw [← hPO]
 have HPO := hideS hPO
 clear hPO
 have hFl : (flat4 D).length = N * 4 := by rw [flat4_len, HX.out.1]
 have kK : ∀ W : World, Below V.heap.size V W → W.cell? ⟨w.heap.size, 1, none⟩ = some (.slice oa N ca) := fun W h => (h.cell (p := ⟨w.heap.size, 1, none⟩) hl0).trans k1
 have HKK := hideS kK
 clear kK
 have bM : Below V.heap.size V (mk V.drew) := Below.grown ((Below.refl V.heap.size V).drew) (HMO.out V.drew).2 (Nat.le_refl _) (fun k hk => by cases hk)
 have HM := hideS (And.intro bM (HMO.out V.drew).1)
 clear bM
 go_enter Tryz.func5, Tryz.ntmps5
 go_upto_region 1 with fail
 try rw [hV]
 clear hV
 go_cut [3] (fun o wx => ∃ gg cap, o = .slice (some ⟨gg, 0, none⟩) N cap ∧ wx.ownsRow V.heap.size 42 4 o N (flat4 D) ∧ Below V.heap.size V wx)
 case first =>
  go_region_held3 (fun w' => w'.cell? ⟨w.heap.size, 1, none⟩ = some (.slice oa N ca)) (first | exact HKK.out _ HM.out.1 | exact HKK.out _ bC | go_keep | assumption)
   (first | ((refine step_spans _ (by rfl) _ _ _ (by rfl) V.heap.size 42 i0 (.agg #[.int .i64 0, .int .i64 0, .int .i64 0, .int .i64 0]) 4 32 Tryz.underlying22 hi hz0 hz1 hz2 rfl (by decide) (.slice (some ⟨V.heap.size, 0, none⟩) 0 M) 0 [] (by rfl) HM.out.2 oa N ca (flat4 D) (by rfl) (fun h => by obtain ⟨h1, h2⟩ := HX.out.2.2 h; have h3 := HX.out.1; rw [h1] at h3; exact ⟨h3.symm, h2⟩) hFl (fun ad h j u hj => (SpO.flat (Q := D) (a := ad) (by have h9 := HX.out.2.1.keep (bupS HV.out.2.2 HM.out.1); rw [h] at h9; exact h9)) j u hj) (flat4_one D) (by unfold maxLen; omega) (by omega) (show V.heap.size ≤ (mk V.drew).heap.size from HM.out.1.size) (by simp) ?_); intro vC wC ownC growC hvC; have bC : Below V.heap.size V wC := Below.grown HM.out.1 growC HM.out.1.size (fun k hk => (HM.out.2.lt k hk).1)))
  all_goals first | go_wp2_with fail | skip
  all_goals go_meet
  all_goals
   rw [Nat.zero_add, List.nil_append] at ownC
   obtain ⟨gg, cap, e9⟩ : ∃ gg cap, vC = .slice (some ⟨gg, 0, none⟩) N cap := by
    rcases ownC.2 with ⟨e0, _⟩ | ⟨gg, cap, cur, e0, _⟩
    ·exact absurd e0 hvC
    ·exact ⟨gg, cap, e0⟩
   exact ⟨gg, cap, e9, ownC, bC⟩
 case rest =>
  obtain ⟨gg, cap, rfl, ownC, bC⟩ := hcut
  have tC := HV.out.1.keep bC
  have tD := HV.out.2.1.keep bC
  have bW := bupS HV.out.2.2 bC
  have HC := hideS (And.intro ownC (And.intro tC (And.intro tD (And.intro bW bC))))
  have sC := bC.size
  have hlV : w.heap.size + 1 < V.heap.size := HV.out.2.1.lt
  have wn : IntKind.i64.wrap (N : Int) = (N : Int) := IntWalk.i64_in _ ⟨by omega, by omega⟩
  clear ownC tC tD bW bC HKK HM HMO HMR k0 k1
  obtain ⟨Z, hZ⟩ : ∃ Z, wc.alloc (.cells #[.int .i64 (-77), .int .i64 0, .int .i64 0, .int .i64 0] 42) = Z := ⟨_, rfl⟩
  have bZ : Below wc.heap.size wc Z := by rw [← hZ]; exact bel1S _ _
  have cZ := cell_fourS wc (.int .i64 (-77)) (.int .i64 0) (.int .i64 0) (.int .i64 0) 42
  rw [hZ] at cZ
  have HZ := hideS (And.intro (own_keepS HC.out.1 bZ) (And.intro bZ cZ))
  clear bZ cZ
  go_wp2_with (at_builtin; refine wpList_append_own _ rfl _ _ 22 rfl V.heap.size 42 i0 (.agg #[.int .i64 0, .int .i64 0, .int .i64 0, .int .i64 0]) 4 32 Tryz.underlying22 hi hz0 hz1 hz2 rfl (by decide) _ N (flat4 D) rfl HZ.out.1 ⟨wc.heap.size, 0, none⟩ 1 1 [.int .i64 (-77), .int .i64 0, .int .i64 0, .int .i64 0] rfl rfl HZ.out.2.2 (fun u hu => by simp at hu; rcases hu with rfl | rfl | rfl | rfl <;> rfl) (by unfold maxLen; omega) (by omega) (Nat.le_trans sC HZ.out.2.1.size) ?_; intro vE wE ownE growE _; obtain ⟨ge, ce, rfl, hce⟩ := own_some ownE; have cN : (N : Int) ≤ (ce : Int) := (by omega); have bE : Below V.heap.size V wE := Below.grown (bupS HC.out.2.2.2.2 HZ.out.2.1) growE (Nat.le_trans sC HZ.out.2.1.size) (fun k hk => (HZ.out.1.lt k hk).1); have tE := HV.out.1.keep bE; obtain ⟨k0, k1, f0, f1⟩ := tE.cells; have tF := HV.out.2.1.keep bE; obtain ⟨m0, m1, g0, g1⟩ := tF.cells; have HE := hideS (And.intro ownE (And.intro tE (And.intro tF bE))); clear ownE tE tF bE growE)
  have bF : Below w.heap.size w wE := bupS HV.out.2.2 HE.out.2.2.2
  have tG : Tx (wE.setCell ⟨w.heap.size, 1, none⟩ (.slice (some ⟨ge, 0, none⟩) N ce)) (w.heap.size + 1) (.string ⟨#[]⟩) (.slice none 0 0) := ((But.set (M := fun k => k = w.heap.size) wE ⟨w.heap.size, 1, none⟩ (.slice (some ⟨ge, 0, none⟩) N ce) rfl).same (w.heap.size + 1) HE.out.2.2.1.lt (by omega)).trans HE.out.2.2.1
  have tH := tG.set (.string s) (.slice (some ⟨ge, 0, none⟩) N ce)
  have HF := hideS (show Tx (((wE.setCell ⟨w.heap.size, 1, none⟩ (.slice (some ⟨ge, 0, none⟩) N ce)).setCell ⟨w.heap.size + 1, 0, none⟩ (.string s)).setCell ⟨w.heap.size + 1, 1, none⟩ (.slice (some ⟨ge, 0, none⟩) N ce)) (w.heap.size + 1) (.string s) (.slice (some ⟨ge, 0, none⟩) N ce) ∧ PO (.returned (.agg #[.string s, .slice (some ⟨ge, 0, none⟩) N ce])) (((wE.setCell ⟨w.heap.size, 1, none⟩ (.slice (some ⟨ge, 0, none⟩) N ce)).setCell ⟨w.heap.size + 1, 0, none⟩ (.string s)).setCell ⟨w.heap.size + 1, 1, none⟩ (.slice (some ⟨ge, 0, none⟩) N ce)) from ⟨tH, by
   rw [HPO.out]
   refine ⟨ge, ce, rfl, ?_, ((bF.setCell (p := ⟨w.heap.size, 1, none⟩) (Nat.le_refl _) _).setCell (p := ⟨w.heap.size + 1, 0, none⟩) (Nat.le_succ _) _).setCell (p := ⟨w.heap.size + 1, 1, none⟩) (Nat.le_succ _) _⟩
   have h9 := HE.out.1
   rw [show flat4 D ++ [.int .i64 (-77), .int .i64 0, .int .i64 0, .int .i64 0] = flat4 (D ++ [mkS]) from (flat4_snoc D mkS).symm] at h9
   exact own_fromS (ownsRow_setCell_below (ownsRow_setCell_below (ownsRow_setCell_below h9 (a := ⟨w.heap.size, 1, none⟩) (show w.heap.size < V.heap.size by omega) _) (a := ⟨w.heap.size + 1, 0, none⟩) hlV _) (a := ⟨w.heap.size + 1, 1, none⟩) hlV _) HV.out.2.2.size⟩)
  clear bF tG tH
  generalize (((wE.setCell ⟨w.heap.size, 1, none⟩ (.slice (some ⟨ge, 0, none⟩) N ce)).setCell ⟨w.heap.size + 1, 0, none⟩ (.string s)).setCell ⟨w.heap.size + 1, 1, none⟩ (.slice (some ⟨ge, 0, none⟩) N ce)) = W9 at *
  obtain ⟨r0, r1, _, _⟩ := HF.out.1.cells
  exact bodyPost_ret (v := .agg #[.string s, .slice (some ⟨ge, 0, none⟩) N ce]) (by simp [results, Tryz.results5, go_sem, r0, r1]) rfl HF.out.2
set_option maxRecDepth 100000 in
set_option maxHeartbeats 4000000 in
theorem back_any7 (s s2 : ByteArray) (D : List Sp) (oa : Option Addr) (ca g c B : Nat) (hl : D.length ≤ 4398046510976) (w : World) (hRa : SpO w oa D) (hO : w.ownsRow B 42 4 (.slice (some ⟨g, 0, none⟩) (D.length + 1) c) (D.length + 1) (flat4 (D ++ [mkS]))) :
  Calls Tryz.prog 8 #[.agg #[.string s, .slice (some ⟨g, 0, none⟩) D.length c], .agg #[.string s2, .slice oa D.length ca]] w fun e w' => e = .returned (.bool true) ∧ But (fun k => k = g) w w' := by
 obtain ⟨N, hN⟩ : ∃ N, D.length = N := ⟨_, rfl⟩
 obtain ⟨M, hM⟩ : ∃ M, N + 1 = M := ⟨_, rfl⟩
 obtain ⟨o9, c9, e9, hc9, _, hsc, _⟩ := own_sc hO (by simp)
 obtain ⟨rfl, rfl⟩ : some (⟨g, 0, none⟩ : Addr) = o9 ∧ c = c9 := by simpa using e9
 obtain ⟨g9, e8, hBg, hSC⟩ := hsc _ rfl
 obtain rfl : g = g9 := by simpa using e8
 have hcl : N ≤ c ∧ c ≤ maxLen := by rw [hN] at hc9; exact ⟨by omega, hc9.2⟩
 have hcm : c ≤ 9223372036854775807 := hcl.2
 have hMc : M ≤ c := by rw [hN, hM] at hc9; exact hc9.1
 have hsp1 : SpO w (some ⟨g, 0, none⟩) D := fun i p hp => hSC.spo i p (by rw [List.getElem?_append_left (List.getElem?_eq_some_iff.1 hp).1]; exact hp)
 have hmk : (D ++ [mkS])[N]? = some mkS := by rw [← hN]; simp
 have hDM : (D ++ [mkS]).length = M := by rw [List.length_append, hN]; exact hM
 obtain ⟨V, hV⟩ : ∃ V, (w.alloc (.cells #[.string s, .slice (some ⟨g, 0, none⟩) N c] 24)).alloc (.cells #[.string s2, .slice oa N ca] 24) = V := ⟨_, rfl⟩
 have bV : Below w.heap.size w V := by rw [← hV]; exact bupS (bel1S _ _) (bel1S _ _)
 have t0 : Tx V w.heap.size (.string s) (.slice (some ⟨g, 0, none⟩) N c) := by rw [← hV]; exact (Tx.new w _ _).keep (bel1S _ _)
 have t1 : Tx V (w.heap.size + 1) (.string s2) (.slice oa N ca) := by
  rw [← hV]
  have h9 := Tx.new (w.alloc (.cells #[.string s, .slice (some ⟨g, 0, none⟩) N c] 24)) (.string s2) (.slice oa N ca)
  rw [World.size_alloc] at h9
  exact h9
 have HS := hideS (samesp_any D (some ⟨g, 0, none⟩) oa c ca (by rw [hN]; exact hcl) V (hsp1.keep bV) (hRa.keep bV))
 rw [hN] at HS hl ⊢
 have hgw := hSC.lt
 have HX := hideS (And.intro hSC (And.intro bV (And.intro hmk hDM)))
 have HT := hideS (And.intro t0 t1)
 obtain ⟨k0, k1, _, _⟩ := t0.cells
 obtain ⟨k2, k3, _, _⟩ := t1.cells
 clear hsp1 bV hRa hO hSC hmk hDM t0 t1 hsc hN hc9 e9
 have w1 : (N : Int) + 1 = (M : Int) := by omega
 have w2 : IntKind.i64.wrap (M : Int) = (M : Int) := IntWalk.i64_in _ ⟨by omega, by omega⟩
 have w3 : (M : Int) ≤ (c : Int) := by omega
 have w4 : (N : Int) < (M : Int) := by omega
 have hgd := sp_guard
 have heq := sp_eql
 go_enter Tryz.func8, Tryz.ntmps8
 go_wp2_with fail
 refine HS.out.mono ?_
 rintro e w5 ⟨rfl, b5⟩
 have hS5 := (HX.out.1.keep (bupS HX.out.2.1 b5))
 obtain ⟨⟨m0, m1, m2, m3⟩, _⟩ := hS5.at HX.out.2.2.1
 change w5.cell? ⟨g, N * 4, none⟩ = some (.int .i64 (-77)) at m0
 change w5.cell? ⟨g, N * 4 + 1, none⟩ = some (.int .i64 0) at m1
 change w5.cell? ⟨g, N * 4 + 2, none⟩ = some (.int .i64 0) at m2
 change w5.cell? ⟨g, N * 4 + 3, none⟩ = some (.int .i64 0) at m3
 have q3 := (HT.out.2.keep b5).cells.2.1
 have H5 := hideS (And.intro hS5 (bupS HX.out.2.1 b5))
 clear hS5 b5 k0 k1 k2 k3 HS hV
 go_wp2_with fail
 go_loopw [7] (fun iv wz => ∃ (κ i : Nat) (Q : List Sp), iv = .int .i64 (i : Nat) ∧ i ≤ M ∧ Q.length = M ∧ SC κ wz g Q ∧ But (fun k => k = g) w wz) (fun iv _ => M - (intOf iv).toNat)
 case atStart => exact ⟨_, 0, D ++ [mkS], rfl, Nat.zero_le _, HX.out.2.2.2, H5.out.1, But.grown H5.out.2⟩
 case round =>
  obtain ⟨κ, i, Q, rfl, hiM, hQ, hSC, hBt⟩ := hrel
  obtain ⟨wz, rfl⟩ : ∃ wz, wz = wr := ⟨_, rfl⟩
  clear H5 m0 m1 m2 m3 q3
  by_cases hlt : i < M
  ·obtain ⟨x, hx⟩ : ∃ x, Q[i]? = some x := ⟨_, List.getElem?_eq_getElem (by omega)⟩
   obtain ⟨⟨c0, c1, c2, c3⟩, f0, f1, f2, f3⟩ := hSC.at hx
   have d1 : (i : Int) < (M : Int) := by omega
   have wi : IntKind.i64.wrap ((i : Int) + 1) = ((i + 1 : Nat) : Int) := by rw [show ((i + 1 : Nat) : Int) = (i : Int) + 1 by omega]; exact IntWalk.i64_in _ ⟨by omega, by omega⟩
   have HZ : Hid (SC κ (put4 wz g i ⟨7, 9, 1, 0⟩) g (Q.set i ⟨7, 9, 1, 0⟩) ∧ But (fun k => k = g) w (put4 wz g i ⟨7, 9, 1, 0⟩)) := hideS ⟨hSC.set i _, hBt.trans (put4_but _ _ _ _)⟩
   unfold put4 at HZ
   have HQl := hideS hQ
   clear hSC hBt hx hQ
   go_wp2_with fail
   go_roundw
   case rel => exact ⟨κ, i + 1, Q.set i ⟨7, 9, 1, 0⟩, by first | rfl | simp, by omega, by rw [List.length_set]; exact HQl.out, HZ.out.1, HZ.out.2⟩
   case measure => simp [intOf]; omega
  ·have d1 : ¬ (i : Int) < (M : Int) := by omega
   have HZ := hideS hBt
   clear hBt hSC hQ
   go_wp2_with fail
   go_ret
   exact ⟨rfl, HZ.out⟩
end Go.Proofs.YtlkgnheccoodpaaGreatDoor
namespace Go.Proofs.YtlkgnheccoodpaaGreatDoor
open Go.RowKit Go.Shelf
attribute [local go_sem] Oper.semAt_some
set_option maxRecDepth 100000 in
set_option maxHeartbeats 1000000 in
theorem sametx_sp (s : ByteArray) (D : List Sp) (o1 o2 : Option Addr) (c1 c2 : Nat) (hc1 : D.length ≤ c1 ∧ c1 ≤ maxLen) (w : World) (hR1 : SpO w o1 D) (hR2 : SpO w o2 D) :
  Calls Tryz.prog 9 #[.agg #[.string s, .slice o1 D.length c1], .agg #[.string s, .slice o2 D.length c2]] w fun e w' => e = .returned (.bool true) ∧ Below w.heap.size w w' := by
 have HB0 := bupS (bel1S w (.cells #[.string s, .slice o1 D.length c1] 24)) (bel1S _ (.cells #[.string s, .slice o2 D.length c2] 24))
 have HS := hideS (fun (W : World) (h : Below w.heap.size w W) => samesp_any D o1 o2 c1 c2 hc1 W (hR1.keep h) (hR2.keep h))
 have hss : (s.toList == s.toList) = true := by simp
 have HB := hideS HB0
 clear hR1 hR2 HB0
 obtain ⟨N, hN⟩ : ∃ N, D.length = N := ⟨_, rfl⟩
 rw [hN] at HS HB ⊢
 clear hN hc1
 go_enter Tryz.func9, Tryz.ntmps9
 go_wp2_with fail
 refine (HS.out _ HB.out).mono ?_
 rintro e w1 ⟨rfl, b1⟩
 have H1 := hideS (bupS HB.out b1)
 clear b1
 go_wp2_with fail
 go_ret
 exact ⟨rfl, H1.out⟩
end Go.Proofs.YtlkgnheccoodpaaGreatDoor
namespace Go.Proofs.YtlkgnheccoodpaaGreatDoor
open Go.RowKit Go.Shelf
theorem front_spoB {W : World} {B g c n : Nat} {D : List Sp} (h : W.ownsRow B 42 4 (.slice (some ⟨g, 0, none⟩) (n + 1) c) (n + 1) (flat4 (D ++ [mkS]))) (hn : D.length = n) : SpO W (some ⟨g, 0, none⟩) D ∧ B ≤ g ∧ (n ≤ c ∧ c ≤ maxLen) := by
 obtain ⟨o9, c9, e9, hc9, _, hsc, _⟩ := own_sc h (by simp [hn])
 obtain ⟨rfl, rfl⟩ : some (⟨g, 0, none⟩ : Addr) = o9 ∧ c = c9 := by simpa using e9
 obtain ⟨g9, e8, hBg, hSC⟩ := hsc _ rfl
 obtain rfl : g = g9 := by simpa using e8
 exact ⟨fun i p hp => hSC.spo i p (by rw [List.getElem?_append_left (List.getElem?_eq_some_iff.1 hp).1]; exact hp), hBg, by omega, hc9.2⟩
theorem own_ltB {W : World} {base g n c : Nat} {e : TypeId} {size : Nat} {xs : List Value} (h : W.ownsRow base e size (.slice (some ⟨g, 0, none⟩) n c) n xs) : g < W.heap.size := by
 rcases h.2 with ⟨e0, _⟩ | ⟨g2, c2, cur, e0, _, hg, _⟩
 ·simp at e0
 ·obtain ⟨rfl, rfl⟩ : g = g2 ∧ c = c2 := by simpa using e0
  exact (Array.getElem?_eq_some_iff.1 hg).1
theorem Tx.butB {W V : World} {P g : Nat} {a b : Value} (h : Tx W P a b) (k : But (fun k => k = g) W V) (hne : P ≠ g) : Tx V P a b := (k.same P h.lt hne).trans h
theorem own_readB {W : World} {base n : Nat} {v : Value} {Q : List Sp} (h : W.ownsRow base 42 4 v n (flat4 Q)) (hn : Q.length = n) : ∃ o cap, v = .slice o n cap ∧ (n ≤ cap ∧ cap ≤ maxLen) ∧ SpO W o Q ∧ (∀ a, o = some a → base ≤ a.block) := by
 obtain ⟨o, cap, e, hc, _, hs, hel⟩ := own_sc h hn
 refine ⟨o, cap, e, hc, ?_, fun a ha => ?_⟩
 ·cases o with
  | none => rw [hel rfl]; exact SpO.nil _ _
  | some ad =>
   obtain ⟨g, rfl, _, hsc⟩ := hs ad rfl
   exact hsc.spo
 ·obtain ⟨g, rfl, hg, _⟩ := hs a ha
  exact hg
end Go.Proofs.YtlkgnheccoodpaaGreatDoor
namespace Go.Proofs.YtlkgnheccoodpaaGreatDoor
open Go.RowKit Go.Shelf
def InS (n : Int) (x : Sp) : Prop := 0 ≤ x.fr ∧ x.fr ≤ n ∧ 0 ≤ x.tt ∧ x.tt ≤ n
theorem wrap_in7 {z : Int} (h1 : -9000000000000000000 ≤ z) (h2 : z ≤ 9000000000000000000) : IntKind.i64.wrap z = z := IntWalk.i64_in _ ⟨by omega, by omega⟩
theorem isort_inR {α : Type} (lt : α → α → Bool) (z : α) : ∀ (r : List α), z ∈ isort lt r.reverse ↔ z ∈ r
 | [] => by simp [isort]
 | x :: r => by
  rw [List.reverse_cons, isort_snoc, mg_mem, isort_inR lt z r]
  simp [or_comm]
theorem isort_mem' {α : Type} (lt : α → α → Bool) (z : α) (l : List α) : z ∈ isort lt l ↔ z ∈ l := by
 have := isort_inR lt z l.reverse
 rw [List.reverse_reverse] at this
 rw [this]; simp
end Go.Proofs.YtlkgnheccoodpaaGreatDoor
namespace Go.Proofs.YtlkgnheccoodpaaGreatDoor
open Go.RowKit Go.Shelf
attribute [local go_sem] Oper.semAt_some
set_option maxRecDepth 100000 in
set_option maxHeartbeats 1000000 in
theorem rbeg_any (fr tq room at_ : Int) (h1 : 0 ≤ fr ∧ fr ≤ 1000000) (h2 : 0 ≤ tq ∧ tq ≤ 1000000) (h3 : 0 ≤ room ∧ room ≤ 1000000) (h4 : 0 ≤ at_ ∧ at_ ≤ 1000000) (w : World) : Calls Tryz.prog 53 #[.int .i64 at_, .int .i64 fr, .int .i64 tq, .int .i64 room] w fun e w' => e = .returned (.int .i64 (begI fr tq room at_)) ∧ w' = w := by
 have e0 : begI fr tq room at_ = if tq ≤ at_ then at_ + room - (tq - fr) else if at_ ≤ fr then at_ else fr + room := by
  unfold begI
  rw [wrap_in7 (z := at_ - tq) (by omega) (by omega), wrap_in7 (z := at_ - tq + fr) (by omega) (by omega), wrap_in7 (z := at_ - tq + fr + room) (by omega) (by omega), wrap_in7 (z := fr + room) (by omega) (by omega)]
  rw [show at_ - tq + fr + room = at_ + room - (tq - fr) by omega]
 obtain ⟨a1, k1⟩ : ∃ a, at_ + room = a := ⟨_, rfl⟩
 obtain ⟨a2, k2⟩ : ∃ a, tq - fr = a := ⟨_, rfl⟩
 obtain ⟨a3, k3⟩ : ∃ a, a1 - a2 = a := ⟨_, rfl⟩
 obtain ⟨a4, k4⟩ : ∃ a, fr + room = a := ⟨_, rfl⟩
 have w1 : IntKind.i64.wrap a1 = a1 := wrap_in7 (by omega) (by omega)
 have w2 : IntKind.i64.wrap a2 = a2 := wrap_in7 (by omega) (by omega)
 have w3 : IntKind.i64.wrap a3 = a3 := wrap_in7 (by omega) (by omega)
 have w4 : IntKind.i64.wrap a4 = a4 := wrap_in7 (by omega) (by omega)
 rw [e0, k1, k2, k3, k4]
 clear e0 h1 h2 h3 h4
 by_cases c1 : tq ≤ at_
 ·rw [if_pos c1]
  go_enter Tryz.func53, Tryz.ntmps53
  go_wp2_with fail
  go_ret
  exact ⟨rfl, rfl⟩
 ·rw [if_neg c1]
  by_cases c2 : at_ ≤ fr
  ·rw [if_pos c2]
   go_enter Tryz.func53, Tryz.ntmps53
   go_wp2_with fail
   go_ret
   exact ⟨rfl, rfl⟩
  ·rw [if_neg c2]
   go_enter Tryz.func53, Tryz.ntmps53
   go_wp2_with fail
   go_ret
   exact ⟨rfl, rfl⟩
set_option maxRecDepth 100000 in
set_option maxHeartbeats 1000000 in
theorem rend_any7 (fr tq room at_ : Int) (h1 : 0 ≤ fr ∧ fr ≤ 1000000) (h2 : 0 ≤ tq ∧ tq ≤ 1000000) (h3 : 0 ≤ room ∧ room ≤ 1000000) (h4 : 0 ≤ at_ ∧ at_ ≤ 1000000) (w : World) : Calls Tryz.prog 54 #[.int .i64 at_, .int .i64 fr, .int .i64 tq, .int .i64 room] w fun e w' => e = .returned (.int .i64 (endI fr tq room at_)) ∧ w' = w := by
 have e0 : endI fr tq room at_ = if at_ ≤ fr then at_ else if tq ≤ at_ then at_ + room - (tq - fr) else fr := by
  unfold endI
  rw [wrap_in7 (z := at_ - tq) (by omega) (by omega), wrap_in7 (z := at_ - tq + fr) (by omega) (by omega), wrap_in7 (z := at_ - tq + fr + room) (by omega) (by omega)]
  rw [show at_ - tq + fr + room = at_ + room - (tq - fr) by omega]
 obtain ⟨a1, k1⟩ : ∃ a, at_ + room = a := ⟨_, rfl⟩
 obtain ⟨a2, k2⟩ : ∃ a, tq - fr = a := ⟨_, rfl⟩
 obtain ⟨a3, k3⟩ : ∃ a, a1 - a2 = a := ⟨_, rfl⟩
 have w1 : IntKind.i64.wrap a1 = a1 := wrap_in7 (by omega) (by omega)
 have w2 : IntKind.i64.wrap a2 = a2 := wrap_in7 (by omega) (by omega)
 have w3 : IntKind.i64.wrap a3 = a3 := wrap_in7 (by omega) (by omega)
 rw [e0, k1, k2, k3]
 clear e0 h1 h2 h3 h4
 by_cases c1 : at_ ≤ fr
 ·rw [if_pos c1]
  go_enter Tryz.func54, Tryz.ntmps54
  go_wp2_with fail
  go_ret
  exact ⟨rfl, rfl⟩
 ·rw [if_neg c1]
  by_cases c2 : tq ≤ at_
  ·rw [if_pos c2]
   go_enter Tryz.func54, Tryz.ntmps54
   go_wp2_with fail
   go_ret
   exact ⟨rfl, rfl⟩
  ·rw [if_neg c2]
   go_enter Tryz.func54, Tryz.ntmps54
   go_wp2_with fail
   go_ret
   exact ⟨rfl, rfl⟩
theorem melts_nil (x : ByteArray) : meltsB ByteArray.empty x = false := by
 have h := meltsB_open ByteArray.empty x
 have h0 : (openE ByteArray.empty).size = 0 := by rfl
 rw [h0] at h
 cases hm : meltsB ByteArray.empty x with
 | false => rfl
 | true => exact absurd (h.1 hm).1 (by omega)
theorem glue3 (x u y : ByteArray) : glueM [x, u, y] = if 4096 < (x ++ u ++ y).size then (ByteArray.empty, 3) else if meltsB x u = true then (ByteArray.empty, 22) else if meltsB (x ++ u) y = true then (ByteArray.empty, 22) else (x ++ u ++ y, 0) := by
 unfold glueM
 have e1 : lenB [x, u, y] = (x ++ u ++ y).size := by simp [lenB, ByteArray.size_append]; omega
 rw [e1]
 by_cases h : 4096 < (x ++ u ++ y).size
 ·rw [if_pos h, if_pos h]
 ·rw [if_neg h, if_neg h]
  unfold glueGo
  rw [melts_nil, if_neg (by simp), ByteArray.empty_append]
  unfold glueGo
  by_cases h2 : meltsB x u = true
  ·rw [if_pos h2, if_pos h2]
  ·rw [if_neg h2, if_neg h2]
   rfl
end Go.Proofs.YtlkgnheccoodpaaGreatDoor
namespace Go.Proofs.YtlkgnheccoodpaaGreatDoor
open Go.RowKit Go.Shelf
attribute [local go_sem] Oper.semAt_some
theorem allB_in {D : List Sp} {n : Int} (h : allB D n = true) : ∀ x ∈ D, InS n x := fun x hx => by
 unfold allB at h
 have k := List.all_eq_true.1 h x hx
 unfold fitB at k
 have k := of_decide_eq_true k
 unfold InS
 omega
theorem chk_in {s : ByteArray} {D : List Sp} (h : chkT s D = 0) : ∀ x ∈ isort ltS D, InS (signs s).length x := fun x hx => by
 obtain ⟨h1, h2⟩ := chkT_ok h
 unfold chkT at h
 rw [if_neg (by omega), if_neg (by omega)] at h
 by_cases k : allB D (signs s).length = true ∧ crB D = false
 ·exact allB_in k.1 x ((isort_mem' ltS x D).1 hx)
 ·rw [if_neg k] at h; omega
end Go.Proofs.YtlkgnheccoodpaaGreatDoor
namespace Go.Proofs.YtlkgnheccoodpaaGreatDoor
open Go.RowKit Go.Shelf
attribute [local go_sem] Oper.semAt_some
set_option maxRecDepth 100000 in
set_option maxHeartbeats 400000 in
theorem may_any (a b n : Int) (w : World) : Calls Tryz.prog 49 #[.int .i64 a, .int .i64 b, .int .i64 n] w fun e w' => e = .returned (.bool (decide (0 ≤ a ∧ a ≤ b ∧ b ≤ n))) ∧ w' = w := by
 by_cases h1 : 0 ≤ a
 ·by_cases h2 : a ≤ b
  ·by_cases h3 : b ≤ n
   ·rw [decide_eq_true (by omega)]
    go_enter Tryz.func49, Tryz.ntmps49
    go_wp2_with fail
    go_ret
    exact ⟨rfl, rfl⟩
   ·rw [decide_eq_false (by omega)]
    go_enter Tryz.func49, Tryz.ntmps49
    go_wp2_with fail
    go_ret
    exact ⟨rfl, rfl⟩
  ·rw [decide_eq_false (by omega)]
   go_enter Tryz.func49, Tryz.ntmps49
   go_wp2_with fail
   go_ret
   exact ⟨rfl, rfl⟩
 ·rw [decide_eq_false (by omega)]
  go_enter Tryz.func49, Tryz.ntmps49
  go_wp2_with fail
  go_ret
  exact ⟨rfl, rfl⟩
theorem flat4_cut (L : List Sp) (k : Nat) : flat4 L = flat4 (L.take k) ++ flat4 (L.drop k) := by
 have h : ∀ A B : List Sp, flat4 (A ++ B) = flat4 A ++ flat4 B := fun A B => by simp [flat4]
 have h9 := h (L.take k) (L.drop k)
 rw [List.take_append_drop] at h9
 exact h9
set_option maxRecDepth 100000 in
set_option maxHeartbeats 2000000 in
theorem router_any (D : List Sp) (oa : Option Addr) (cap : Nat) (hl : D.length ≤ 5000) (w : World) (hR : SpO w oa D) :
  Calls Tryz.prog 52 #[.slice oa D.length cap] w fun e w' => ∃ v, e = .returned v ∧ w'.ownsRow w.heap.size 42 4 v D.length (flat4 (isort ltS D)) ∧ Below w.heap.size w w' := by
 obtain ⟨i0, hi, hz0, hz1, hz2⟩ := info_parts infoSp
 obtain ⟨N, hN⟩ : ∃ N, D.length = N := ⟨_, rfl⟩
 have HN := hideS (And.intro hN hR)
 rw [hN] at hl ⊢
 obtain ⟨PO, hPO⟩ : ∃ PO : Ending → World → Prop, PO = fun e w' => ∃ v, e = .returned v ∧ w'.ownsRow w.heap.size 42 4 v N (flat4 (isort ltS D)) ∧ Below w.heap.size w w' := ⟨_, rfl⟩
 rw [← hPO]
 have HPO := hideS hPO
 clear hN hPO hR
 go_enter Tryz.func52, Tryz.ntmps52
 go_wp2_with fail
 go_loopw [3, 4] (fun v iv wq => ∃ i : Nat, iv = .int .i64 (i : Nat) ∧ i ≤ N ∧ wq.ownsRow w.heap.size 42 4 v i (flat4 (isort ltS (D.take i))) ∧ Below w.heap.size w wq) (fun _ iv _ => N - (intOf iv).toNat)
 case atStart => exact ⟨0, rfl, Nat.zero_le _, World.ownsRow_nil _ _ _ _, Below.refl _ _⟩
 case round =>
  obtain ⟨i, rfl, hiN, hO, hb⟩ := hrel
  obtain ⟨wq, rfl⟩ : ∃ wq, wq = wr := ⟨_, rfl⟩
  by_cases hlt : i < N
  ·obtain ⟨x, hx⟩ : ∃ x, D[i]? = some x := ⟨_, List.getElem?_eq_getElem (by rw [HN.out.1]; exact hlt)⟩
   obtain ⟨a, rfl, hab, c0, c1, c2, c3⟩ := HN.out.2.keep hb i x hx
   have d1 : (i : Int) < (N : Int) := by omega
   have wi : IntKind.i64.wrap ((i : Int) + 1) = ((i + 1 : Nat) : Int) := by rw [show ((i + 1 : Nat) : Int) = (i : Int) + 1 by omega]; exact IntWalk.i64_in _ ⟨by omega, by omega⟩
   have hsn : isort ltS (D.take (i + 1)) = mg ltS (isort ltS (D.take i)) [x] := by rw [List.take_add_one, hx]; exact isort_snoc ltS _ x
   have hSl : (isort ltS (D.take i)).length = i := by rw [isort_length, List.length_take, HN.out.1]; omega
   have hSs := isort_sorted swoS (D.take i)
   generalize isort ltS (D.take i) = L at *
   obtain ⟨o, cp, rfl, hcp, hon, hso, hoe⟩ := own_sc hO hSl
   obtain ⟨V, hV⟩ : ∃ V, wq.alloc (.cells #[.int .i64 x.fr, .int .i64 x.tt, .int .i64 x.kd, .int .i64 x.vl] 42) = V := ⟨_, rfl⟩
   have bV : Below wq.heap.size wq V := by rw [← hV]; exact bel1S _ _
   have nV : V.heap[wq.heap.size]? = some (.cells #[.int .i64 x.fr, .int .i64 x.tt, .int .i64 x.kd, .int .i64 x.vl] 42) := by rw [← hV]; exact World.alloc_heap_new wq _
   have HA := hideS (And.intro hO (And.intro hsn (And.intro hb (And.intro bV (And.intro nV (And.intro hSl hSs))))))
   clear hO hsn hb hx bV nV hSl hSs
   go_upto_region 6 with fail
   clear hV c0 c1 c2 c3
   go_upto_block 2 with fail
   go_cut [6] (fun av wx => ∃ k : Nat, av = .int .i64 (k : Nat) ∧ k ≤ i ∧ mg ltS L [x] = L.take k ++ x :: L.drop k ∧ Below V.heap.size V wx)
   case first =>
    go_wp2_with fail
    go_loopw [6] (fun av wx => ∃ k : Nat, av = .int .i64 (k : Nat) ∧ k ≤ i ∧ (∀ j y, k ≤ j → L[j]? = some y → ltS x y = true) ∧ Below V.heap.size V wx) (fun av _ => (intOf av).toNat)
    case atStart => exact ⟨i, rfl, Nat.le_refl _, fun j y h1 h2 => by have := (List.getElem?_eq_some_iff.1 h2).1; have := HA.out.2.2.2.2.2.1; omega, Below.refl _ _⟩
    case round =>
     have HSX : ∀ {k m : Nat} {y : Sp} {wk : World}, Hid (k = m + 1 ∧ L[m]? = some y ∧ (∀ j y, k ≤ j → L[j]? = some y → ltS x y = true) ∧ Below V.heap.size V wk) → ltS x y = true → ∀ j z, m ≤ j → L[j]? = some z → ltS x z = true := fun {k m y wk} h hl j z h1 h2 => by
      by_cases e : j = m
      ·subst e
       rw [h.out.2.1] at h2
       cases h2
       exact hl
      ·exact h.out.2.2.1 j z (by rw [h.out.1]; omega) h2
     have HBX : ∀ {k m : Nat} {y : Sp} {wk : World}, Hid (k = m + 1 ∧ L[m]? = some y ∧ (∀ j y, k ≤ j → L[j]? = some y → ltS x y = true) ∧ Below V.heap.size V wk) → ∀ nq, Below V.heap.size V (wk.drewN nq) := fun {k m y wk} h nq => below_dnS h.out.2.2.2 nq
     have HEX : ∀ {k m : Nat} {y : Sp} {wk : World}, Hid (k = m + 1 ∧ L[m]? = some y ∧ (∀ j y, k ≤ j → L[j]? = some y → ltS x y = true) ∧ Below V.heap.size V wk) → ltS x y = false → mg ltS L [x] = L.take k ++ x :: L.drop k := fun {k m y wk} h hl =>
      mg_last_srt swoS x L HA.out.2.2.2.2.2.2 k (by have := (List.getElem?_eq_some_iff.1 h.out.2.1).1; have := h.out.1; omega) (fun z _ hz => by rw [h.out.1, Nat.add_sub_cancel, h.out.2.1] at hz; cases hz; exact hl) (fun z hz => h.out.2.2.1 k z (Nat.le_refl _) hz)
     obtain ⟨k, rfl, hki, hgt, hbk⟩ := hrel
     obtain ⟨wk, rfl⟩ : ∃ wk, wk = wr := ⟨_, rfl⟩
     have nk := (hbk.block wq.heap.size (Array.getElem?_eq_some_iff.1 HA.out.2.2.2.2.1).1).trans HA.out.2.2.2.2.1
     have x0 : wk.cell? ⟨wq.heap.size, 0, none⟩ = some (.int .i64 x.fr) := by simp [World.cell?, nk]
     have x1 : wk.cell? ⟨wq.heap.size, 1, none⟩ = some (.int .i64 x.tt) := by simp [World.cell?, nk]
     by_cases hk : 0 < k
     ·obtain ⟨m, hm⟩ : ∃ m, k = m + 1 := ⟨k - 1, by omega⟩
      obtain ⟨y, hy⟩ : ∃ y, L[m]? = some y := ⟨_, List.getElem?_eq_getElem (by rw [HA.out.2.2.2.2.2.1]; omega)⟩
      have hsx : Hid (k = m + 1 ∧ L[m]? = some y ∧ (∀ j y, k ≤ j → L[j]? = some y → ltS x y = true) ∧ Below V.heap.size V wk) := hideS ⟨hm, hy, hgt, hbk⟩
      cases o with
      | none => exact absurd (hoe rfl) (fun h => by rw [h] at hy; simp at hy)
      | some ad =>
       obtain ⟨g, rfl, hg, hSC⟩ := hso ad rfl
       obtain ⟨a9, ha9, _, y0, y1, _, _⟩ := (hSC.spo.keep (bupS HA.out.2.2.2.1 hbk)) m y hy
       cases ha9
       have e9 : (⟨g, 0, none⟩ : Addr).add (m * 4) = ⟨g, m * 4, none⟩ := by
        unfold Addr.add
        split
        ·rename_i h0
         rw [h0]
        ·simp
       rw [e9] at y0 y1
       have dk : (0 : Int) < (k : Int) := by omega
       have dk2 : decide (0 < k) = true := by simp [hk]
       have s1 : (k : Int) - 1 = (m : Int) := by omega
       have s2 : IntKind.i64.wrap (m : Int) = (m : Int) := IntWalk.i64_in _ ⟨by omega, by omega⟩
       have s3 : (m : Int) < (i : Int) := by omega
       have s4 : (0 : Int) ≤ (m : Int) := by omega
       have hcs := ltS_iff x y
       clear hm hy hgt hbk nk e9 hSC hso hoe hon
       by_cases f1 : x.fr < y.fr
       ·have f2 : decide (x.fr < y.fr) = true := by simp [f1]
        go_upto_region 7 with fail
        go_quiet (fail)
        go_wp2_with fail
        go_roundw
        case rel => exact ⟨m, by first | rfl | simp, by omega, fun j z h1 h2 => HSX hsx (hcs.2 (.inl f1)) j z h1 h2, HBX hsx nq⟩
        case measure => simp [intOf]; omega
       ·have f2 : decide (x.fr < y.fr) = false := by simp [f1]
        by_cases f3 : x.fr = y.fr
        ·have f4 : (x.fr == y.fr) = true := by simp [f3]
         have F3 := hideS f3
         clear f3
         by_cases f5 : y.tt < x.tt
         ·have f6 : decide (y.tt < x.tt) = true := by simp [f5]
          go_upto_region 7 with fail
          go_quiet (fail)
          go_wp2_with fail
          go_roundw
          case rel => exact ⟨m, by first | rfl | simp, by omega, fun j z h1 h2 => HSX hsx (hcs.2 (.inr ⟨F3.out, f5⟩)) j z h1 h2, HBX hsx nq⟩
          case measure => simp [intOf]; omega
         ·have f6 : decide (y.tt < x.tt) = false := by simp [f5]
          go_upto_region 7 with fail
          go_quiet (fail)
          go_wp2_with fail
          go_meet
          exact ⟨k, rfl, hki, HEX hsx (by have h9 := mt hcs.1 (by omega); simpa using h9), HBX hsx nq⟩
        ·have f4 : (x.fr == y.fr) = false := by simp [f3]
         go_upto_region 7 with fail
         go_quiet (fail)
         go_wp2_with fail
         go_meet
         exact ⟨k, rfl, hki, HEX hsx (by have h9 := mt hcs.1 (by omega); simpa using h9), HBX hsx nq⟩
     ·have dk : ¬ (0 : Int) < (k : Int) := by omega
      have HK := hideS (And.intro hgt hbk)
      clear hgt hbk nk
      go_upto_region 7 with fail
      go_quiet (fail)
      go_wp2_with fail
      go_meet
      exact ⟨k, rfl, hki, by
       obtain rfl : k = 0 := by omega
       exact mg_last_srt swoS x L HA.out.2.2.2.2.2.2 0 (Nat.zero_le _) (fun z h => absurd h (by omega)) (fun z h => HK.out.1 0 z (Nat.le_refl _) h), below_dnS HK.out.2 nq⟩
   case rest =>
    obtain ⟨k, rfl, hki, hmg, hbc⟩ := hcut
    have nk := (hbc.block wq.heap.size (Array.getElem?_eq_some_iff.1 HA.out.2.2.2.2.1).1).trans HA.out.2.2.2.2.1
    have x0 : wc.cell? ⟨wq.heap.size, 0, none⟩ = some (.int .i64 x.fr) := by simp [World.cell?, nk]
    have x1 : wc.cell? ⟨wq.heap.size, 1, none⟩ = some (.int .i64 x.tt) := by simp [World.cell?, nk]
    have x2 : wc.cell? ⟨wq.heap.size, 2, none⟩ = some (.int .i64 x.kd) := by simp [World.cell?, nk]
    have x3 : wc.cell? ⟨wq.heap.size, 3, none⟩ = some (.int .i64 x.vl) := by simp [World.cell?, nk]
    have hxl : wq.heap.size < wc.heap.size := (Array.getElem?_eq_some_iff.1 nk).1
    have hkc : k ≤ cp := by omega
    have hcx : cp ≤ 9223372036854775807 := hcp.2
    have j1 : (k : Int) ≤ (i : Int) := by omega
    have j2 : (k : Int) ≤ (cp : Int) := by omega
    have j3 : (i : Int) ≤ (cp : Int) := by omega
    have lk : (flat4 (L.take k)).length = k * 4 := by rw [flat4_len, List.length_take, HA.out.2.2.2.2.2.1]; congr 1; omega
    have ld : (flat4 (L.drop k)).length = (i - k) * 4 := by rw [flat4_len, List.length_drop, HA.out.2.2.2.2.2.1]
    cases o with
    | none =>
     have hcp0 := hon rfl
     have hL0 := hoe rfl
     obtain rfl : k = i := by omega
     subst hcp0
     have HF := hideS (And.intro hmg hbc)
     clear hmg hbc nk hso hoe hon lk ld
     have HK0 := hideS (show k = 0 by omega)
     go_upto_region 11 with fail
     go_upto_region 12 with (at_builtin; refine wpList_append_own _ rfl _ _ 22 rfl wc.heap.size 42 i0 (.agg #[.int .i64 0, .int .i64 0, .int .i64 0, .int .i64 0]) 4 32 Tryz.underlying22 hi hz0 hz1 hz2 rfl (by decide) _ 0 [] rfl (World.ownsRow_nil _ _ _ _) ⟨wc.heap.size, 0, none⟩ 1 1 [.int .i64 x.fr, .int .i64 x.tt, .int .i64 x.kd, .int .i64 x.vl] rfl rfl (cell_fourS _ _ _ _ _ _) (fun u hu => by simp at hu; rcases hu with rfl | rfl | rfl | rfl <;> rfl) (by unfold maxLen; omega) (by omega) (by simp) ?_; intro v2 w2 hown2 hgrow2 _)
     have b2 : Below wc.heap.size wc w2 := Below.grown (bel1S wc (.cells #[.int .i64 x.fr, .int .i64 x.tt, .int .i64 x.kd, .int .i64 x.vl] 42)) hgrow2 (by simp) (fun j hj => by cases hj)
     have H2 := hideS (And.intro hown2 b2)
     have HCL : Hid (w2.ownsRow w.heap.size 42 4 v2 (k + 1) (flat4 (isort ltS (D.take (k + 1))))) := hideS (by
      have h := H2.out.1
      rw [HA.out.2.1, HF.out.1, hL0]
      have e1 : flat4 (([] : List Sp).take k ++ x :: ([] : List Sp).drop k) = [] ++ [.int .i64 x.fr, .int .i64 x.tt, .int .i64 x.kd, .int .i64 x.vl] := by simp [flat4]
      rw [e1, show k + 1 = 0 + 1 by rw [HK0.out]]
      exact own_fromS h (Nat.le_trans HA.out.2.2.1.size (Nat.le_trans HA.out.2.2.2.1.size HF.out.2.size)))
     have HRn := hideS (run_append_owned_none (P := Tryz.prog) (w := w2) wc.heap.size 22 22 42 i0 4 Tryz.underlying22 hi v2 _ _ H2.out.1)
     clear hgrow2 b2 hown2
     go_wp2_with (at_builtin; refine wpList_append_run rfl _ _ 22 22 rfl v2 (.slice none 0 0) v2 w2 (by rfl) (by first | rfl | (simp; done)) HRn.out ?_)
     go_roundw
     case rel => exact ⟨k + 1, by first | rfl | simp, by omega, HCL.out, bupS (bupS HA.out.2.2.1 HA.out.2.2.2.1) (bupS HF.out.2 H2.out.2)⟩
     case measure => simp [intOf]; omega
    | some ad =>
     obtain ⟨g, rfl, hg, hSC⟩ := hso ad rfl
     have hfl := (hSC.spo.keep (bupS HA.out.2.2.2.1 hbc)).flat
     have hgl : g < wc.heap.size := Nat.lt_of_lt_of_le hSC.lt (Nat.le_trans HA.out.2.2.2.1.size hbc.size)
     have hf1 : ∀ j u, (flat4 (L.take k))[j]? = some u → wc.cell? ((⟨g, 0, none⟩ : Addr).add j) = some u := fun j u hj => hfl j u (by
      have e := flat4_cut L k
      rw [e, List.getElem?_append_left (List.getElem?_eq_some_iff.1 hj).1]; exact hj)
     have hf2 : ∀ j u, (flat4 (L.drop k))[j]? = some u → wc.cell? ((⟨g, 0, none⟩ : Addr).add (k * 4 + j)) = some u := fun j u hj => hfl _ u (by
      have e := flat4_cut L k
      rw [e, List.getElem?_append_right (by omega), lk, Nat.add_sub_cancel_left]; exact hj)
     have HF := hideS (And.intro hf1 (And.intro hf2 (And.intro hmg (And.intro hbc (And.intro lk ld)))))
     clear hf1 hf2 hmg hbc nk hfl hSC hso hoe hon lk ld
     go_upto_region 11 with (at_builtin; refine wpList_append_own _ rfl _ _ 22 rfl wc.heap.size 42 i0 (.agg #[.int .i64 0, .int .i64 0, .int .i64 0, .int .i64 0]) 4 32 Tryz.underlying22 hi hz0 hz1 hz2 rfl (by decide) _ 0 [] rfl (World.ownsRow_nil _ _ _ _) ⟨g, 0, none⟩ k cp (flat4 (L.take k)) rfl HF.out.2.2.2.2.1 HF.out.1 (flat4_one _) (by unfold maxLen; omega) (by omega) (Nat.le_refl _) ?_; intro v1 w1 hown1 hgrow1 _)
     have b1 : Below wc.heap.size wc w1 := Below.grown (Below.refl _ _) hgrow1 (Nat.le_refl _) (fun j hj => by cases hj)
     rw [List.nil_append, Nat.zero_add] at hown1
     have y0 := (b1.cell (p := ⟨wq.heap.size, 0, none⟩) hxl).trans x0
     have y1 := (b1.cell (p := ⟨wq.heap.size, 1, none⟩) hxl).trans x1
     have y2 := (b1.cell (p := ⟨wq.heap.size, 2, none⟩) hxl).trans x2
     have y3 := (b1.cell (p := ⟨wq.heap.size, 3, none⟩) hxl).trans x3
     have z1 := b1.size
     have H1 := hideS (And.intro hown1 b1)
     clear hgrow1 x0 x1 x2 x3 b1 hown1
     go_upto_region 12 with (at_builtin; refine wpList_append_own _ rfl _ _ 22 rfl wc.heap.size 42 i0 (.agg #[.int .i64 0, .int .i64 0, .int .i64 0, .int .i64 0]) 4 32 Tryz.underlying22 hi hz0 hz1 hz2 rfl (by decide) _ k (flat4 (L.take k)) rfl (H1.out.1.alloc _) ⟨w1.heap.size, 0, none⟩ 1 1 [.int .i64 x.fr, .int .i64 x.tt, .int .i64 x.kd, .int .i64 x.vl] rfl rfl (cell_fourS _ _ _ _ _ _) (fun u hu => by simp at hu; rcases hu with rfl | rfl | rfl | rfl <;> rfl) (by unfold maxLen; omega) (by omega) (by simp; omega) ?_; intro v2 w2 hown2 hgrow2 _)
     have b2 : Below wc.heap.size wc w2 := Below.grown (H1.out.2.alloc z1 (.cells #[.int .i64 x.fr, .int .i64 x.tt, .int .i64 x.kd, .int .i64 x.vl] 42)) hgrow2 (by simp; omega) (fun j hj => (H1.out.1.lt j hj).1)
     have z2 := b2.size
     have H2 := hideS (And.intro hown2 b2)
     clear hgrow2 b2 hown2 y0 y1 y2 y3
     have e9 : ∀ j, (⟨g, k * 4, none⟩ : Addr).add j = (⟨g, 0, none⟩ : Addr).add (k * 4 + j) := fun j => by
      unfold Addr.add
      by_cases h0 : j = 0
      ·subst h0
       by_cases h1 : k * 4 = 0
       ·simp [h1]
       ·simp [h1]
      ·rw [if_neg h0, if_neg (by omega)]
       simp
     have HCL : Hid (∀ (v : Value) (W : World), W.ownsRow wc.heap.size 42 4 v (k + 1 + (i - k)) (flat4 (L.take k) ++ [.int .i64 x.fr, .int .i64 x.tt, .int .i64 x.kd, .int .i64 x.vl] ++ flat4 (L.drop k)) → W.ownsRow w.heap.size 42 4 v (i + 1) (flat4 (isort ltS (D.take (i + 1))))) := hideS (fun v W h => by
      rw [HA.out.2.1, HF.out.2.2.1]
      have e1 : flat4 (L.take k ++ x :: L.drop k) = flat4 (L.take k) ++ [.int .i64 x.fr, .int .i64 x.tt, .int .i64 x.kd, .int .i64 x.vl] ++ flat4 (L.drop k) := by simp [flat4]
      rw [e1]
      rw [show k + 1 + (i - k) = i + 1 by omega] at h
      exact own_fromS h (Nat.le_trans HA.out.2.2.1.size (Nat.le_trans HA.out.2.2.2.1.size HF.out.2.2.2.1.size)))
     have HF2 : Hid (∀ j u, (flat4 (L.drop k))[j]? = some u → w2.cell? ((⟨g, k * 4, none⟩ : Addr).add j) = some u) := hideS (fun j u hj => by
      have h9 := HF.out.2.1 j u hj
      rw [← e9] at h9
      exact (H2.out.2.cell (by rw [addrS_block]; exact hgl)).trans h9)
     clear e9
     by_cases hke : k = cp
     ·subst hke
      have hld : L.drop k = [] := List.drop_eq_nil_of_le (by rw [HA.out.2.2.2.2.2.1]; omega)
      go_wp2_with (at_builtin; refine wpList_append_own _ rfl _ _ 22 rfl wc.heap.size 42 i0 (.agg #[.int .i64 0, .int .i64 0, .int .i64 0, .int .i64 0]) 4 32 Tryz.underlying22 hi hz0 hz1 hz2 rfl (by decide) v2 (k + 1) (flat4 (L.take k) ++ [.int .i64 x.fr, .int .i64 x.tt, .int .i64 x.kd, .int .i64 x.vl]) (by rfl) H2.out.1 _ 0 _ [] (by rfl) rfl (fun j u hj => by simp at hj) (fun u hu => by simp at hu) (by unfold maxLen; omega) (by omega) z2 ?_; intro v3 w3 hown3 hgrow3 _)
      have hown3 : w3.ownsRow wc.heap.size 42 4 v3 (k + 1 + (i - k)) (flat4 (L.take k) ++ [.int .i64 x.fr, .int .i64 x.tt, .int .i64 x.kd, .int .i64 x.vl] ++ flat4 (L.drop k)) := by rw [hld, show i - k = 0 by omega]; exact hown3
      have b3 : Below wc.heap.size wc w3 := Below.grown H2.out.2 hgrow3 z2 (fun j hj => (H2.out.1.lt j hj).1)
      have HZ := hideS (And.intro hown3 b3)
      clear hgrow3 b3 hown3
      go_roundw
      case rel => exact ⟨i + 1, by first | rfl | simp, by omega, HCL.out _ _ HZ.out.1, bupS (bupS HA.out.2.2.1 HA.out.2.2.2.1) (bupS HF.out.2.2.2.1 HZ.out.2)⟩
      case measure => simp [intOf]; omega
     ·go_wp2_with (at_builtin; refine wpList_append_own _ rfl _ _ 22 rfl wc.heap.size 42 i0 (.agg #[.int .i64 0, .int .i64 0, .int .i64 0, .int .i64 0]) 4 32 Tryz.underlying22 hi hz0 hz1 hz2 rfl (by decide) v2 (k + 1) (flat4 (L.take k) ++ [.int .i64 x.fr, .int .i64 x.tt, .int .i64 x.kd, .int .i64 x.vl]) (by rfl) H2.out.1 ⟨g, k * 4, none⟩ (i - k) (cp - k) (flat4 (L.drop k)) (by first | rfl | (simp; done)) HF.out.2.2.2.2.2 HF2.out (flat4_one _) (by unfold maxLen; omega) (by omega) z2 ?_; intro v3 w3 hown3 hgrow3 _)
      have b3 : Below wc.heap.size wc w3 := Below.grown H2.out.2 hgrow3 z2 (fun j hj => (H2.out.1.lt j hj).1)
      have HZ := hideS (And.intro hown3 b3)
      clear hgrow3 b3 hown3
      go_roundw
      case rel => exact ⟨i + 1, by first | rfl | simp, by omega, HCL.out _ _ HZ.out.1, bupS (bupS HA.out.2.2.1 HA.out.2.2.2.1) (bupS HF.out.2.2.2.1 HZ.out.2)⟩
      case measure => simp [intOf]; omega
  ·have d1 : ¬ (i : Int) < (N : Int) := by omega
   rw [List.take_of_length_le (by rw [HN.out.1]; omega), show i = N by omega] at hO
   have HA := hideS (And.intro hO hb)
   clear hO hb
   go_wp2_with fail
   rw [HPO.out]
   exact ⟨_, rfl, HA.out.1, HA.out.2⟩
end Go.Proofs.YtlkgnheccoodpaaGreatDoor
namespace Go.Proofs.YtlkgnheccoodpaaGreatDoor
open Go.RowKit Go.Shelf
attribute [local go_sem] Oper.semAt_some
set_option maxRecDepth 100000 in
set_option maxHeartbeats 400000 in
theorem rpart_any (s : ByteArray) (hs : s.size ≤ 1048576) (i j : Nat) (h1 : i ≤ j) (h2 : j ≤ (signs s).length) (w : World) :
  Calls Tryz.prog 50 #[.string s, .int .i64 (i : Nat), .int .i64 (j : Nat)] w fun e w' => e = .returned (.string (cutM s i j)) ∧ Below w.heap.size w w' := by
 have hi := bAt_eq s i (by omega)
 have hj := bAt_eq s j h2
 have HC := hideS (rcutR s hs i j (bAt s i) (bAt s j) h1 h2 hi.1 hj.1 (bAt_mono s i j h1 h2) hj.2 w)
 unfold cutM
 clear hi hj
 go_enter Tryz.func50, Tryz.ntmps50
 go_wp2_with (first | (go_at_call 84; (with_reducible refine HC.out.mono ?_); rintro e w5 ⟨rfl, b5⟩; have H5 := hideS b5; clear b5))
 go_ret
 exact ⟨rfl, H5.out⟩
end Go.Proofs.YtlkgnheccoodpaaGreatDoor
namespace Go.Proofs.YtlkgnheccoodpaaGreatDoor
open Go.RowKit Go.Shelf
attribute [local go_sem] Oper.semAt_some
theorem own_form9 {W : World} {base n : Nat} {e : TypeId} {size : Nat} {v : Value} {xs : List Value} (h : W.ownsRow base e size v n xs) : ∃ o c, v = .slice o n c := by
 rcases h.2 with ⟨e0, e1⟩ | ⟨g, cp, cur, e0, _⟩
 ·exact ⟨_, _, by rw [e0, e1]⟩
 ·exact ⟨_, _, e0⟩
theorem but_low {M : Nat → Prop} {A W V : World} (h : But M A W) (k : Below A.heap.size W V) : But M A V :=
 ⟨k.os.trans h.os, k.tape.trans h.tape, k.output.trans h.output, Nat.le_trans h.size k.size, fun j hj hm => (k.block j hj).trans (h.same j hj hm)⟩
theorem tx_set1 {W : World} {P : Nat} {a b : Value} (h : Tx W P a b) (d : Value) : Tx (W.setCell ⟨P, 1, none⟩ d) P a d := by
 have h9 := set_atS h 1 d
 unfold Tx
 rw [h9]
 rfl
end Go.Proofs.YtlkgnheccoodpaaGreatDoor
namespace Go.Proofs.YtlkgnheccoodpaaGreatDoor
open Go.RowKit Go.Shelf
attribute [local go_sem] Oper.semAt_some
set_option maxRecDepth 100000 in
set_option maxHeartbeats 2000000 in
theorem rmoved_any (D : List Sp) (oa : Option Addr) (cap : Nat) (bq : Int) (hl : D.length ≤ 5000) (w : World) (hR : SpO w oa D) :
  Calls Tryz.prog 55 #[.slice oa D.length cap, .int .i64 bq] w fun e w' => ∃ v, e = .returned v ∧ w'.ownsRow w.heap.size 42 4 v D.length (flat4 (D.map (mvS bq))) ∧ Below w.heap.size w w' := by
 obtain ⟨i0, hi, hz0, hz1, hz2⟩ := info_parts infoSp
 obtain ⟨N, hN⟩ : ∃ N, D.length = N := ⟨_, rfl⟩
 have HN := hideS (And.intro hN hR)
 rw [hN] at hl ⊢
 obtain ⟨PO, hPO⟩ : ∃ PO : Ending → World → Prop, PO = fun e w' => ∃ v, e = .returned v ∧ w'.ownsRow w.heap.size 42 4 v N (flat4 (D.map (mvS bq))) ∧ Below w.heap.size w w' := ⟨_, rfl⟩
 rw [← hPO]
 have HPO := hideS hPO
 clear hN hPO hR
 go_enter Tryz.func55, Tryz.ntmps55
 go_wp2_with fail
 go_loopw [5, 6] (fun v iv wq => ∃ i : Nat, iv = .int .i64 (i : Nat) ∧ i ≤ N ∧ wq.ownsRow w.heap.size 42 4 v i (flat4 ((D.take i).map (mvS bq))) ∧ Below w.heap.size w wq) (fun _ iv _ => N - (intOf iv).toNat)
 case atStart => exact ⟨0, rfl, Nat.zero_le _, World.ownsRow_nil _ _ _ _, Below.refl _ _⟩
 case round =>
  obtain ⟨i, rfl, hiN, hO, hb⟩ := hrel
  obtain ⟨wq, rfl⟩ : ∃ wq, wq = wr := ⟨_, rfl⟩
  by_cases hlt : i < N
  ·obtain ⟨x, hx⟩ : ∃ x, D[i]? = some x := ⟨_, List.getElem?_eq_getElem (by rw [HN.out.1]; exact hlt)⟩
   obtain ⟨a, rfl, hab, c0, c1, c2, c3⟩ := HN.out.2.keep hb i x hx
   have d1 : (i : Int) < (N : Int) := by omega
   have wi : IntKind.i64.wrap ((i : Int) + 1) = ((i + 1 : Nat) : Int) := by rw [show ((i + 1 : Nat) : Int) = (i : Int) + 1 by omega]; exact IntWalk.i64_in _ ⟨by omega, by omega⟩
   have hnx : flat4 ((D.take (i + 1)).map (mvS bq)) = flat4 ((D.take i).map (mvS bq)) ++ [.int .i64 (IntKind.i64.wrap (x.fr + bq)), .int .i64 (IntKind.i64.wrap (x.tt + bq)), .int .i64 x.kd, .int .i64 x.vl] := by
    rw [List.take_add_one, hx, List.map_append]
    exact flat4_snoc _ (mvS bq x)
   obtain ⟨bv, hbv⟩ : ∃ bv, IntKind.i64.wrap (x.fr + bq) = bv := ⟨_, rfl⟩
   obtain ⟨ev, hev⟩ : ∃ ev, IntKind.i64.wrap (x.tt + bq) = ev := ⟨_, rfl⟩
   rw [hbv, hev] at hnx
   have HA := hideS (And.intro hO (And.intro hnx hb))
   clear hO hnx hb hx
   go_upto_region 8 with fail
   obtain ⟨V, hV⟩ : ∃ V, wq.alloc (.cells #[.int .i64 bv, .int .i64 ev, .int .i64 x.kd, .int .i64 x.vl] 42) = V := ⟨_, rfl⟩
   have bV : Below wq.heap.size wq V := by rw [← hV]; exact bel1S _ _
   have nV : V.heap[wq.heap.size]? = some (.cells #[.int .i64 bv, .int .i64 ev, .int .i64 x.kd, .int .i64 x.vl] 42) := by rw [← hV]; exact World.alloc_heap_new wq _
   rw [hV]
   have s0 : V.cell? ⟨wq.heap.size, 0, none⟩ = some (.int .i64 bv) := by simp [World.cell?, nV]
   have s1 : V.cell? ⟨wq.heap.size, 1, none⟩ = some (.int .i64 ev) := by simp [World.cell?, nV]
   have s2 : V.cell? ⟨wq.heap.size, 2, none⟩ = some (.int .i64 x.kd) := by simp [World.cell?, nV]
   have s3 : V.cell? ⟨wq.heap.size, 3, none⟩ = some (.int .i64 x.vl) := by simp [World.cell?, nV]
   have sx : w.heap.size ≤ V.heap.size := Nat.le_trans HA.out.2.2.size bV.size
   have HGx := hideS (own_keepS HA.out.1 bV)
   have HBV := hideS (bupS HA.out.2.2 bV)
   clear hV bV nV c0 c1 c2 c3 hbv hev
   go_wp2_with (at_builtin; refine wpList_append_own _ rfl _ _ 22 rfl w.heap.size 42 i0 (.agg #[.int .i64 0, .int .i64 0, .int .i64 0, .int .i64 0]) 4 32 Tryz.underlying22 hi hz0 hz1 hz2 rfl (by decide) _ _ _ rfl (HGx.out.alloc _) ⟨V.heap.size, 0, none⟩ 1 1 [.int .i64 bv, .int .i64 ev, .int .i64 x.kd, .int .i64 x.vl] rfl rfl (cell_fourS _ _ _ _ _ _) (fun u hu => by simp at hu; rcases hu with rfl | rfl | rfl | rfl <;> rfl) (by unfold maxLen; omega) (by omega) (by simp; omega) ?_; intro v' w3 hown' hgrow _; have hB3 : Below w.heap.size w w3 := Below.grown (HBV.out.alloc sx (.cells #[.int .i64 bv, .int .i64 ev, .int .i64 x.kd, .int .i64 x.vl] 42)) hgrow (by simp; omega) (fun j hj => (HGx.out.lt j hj).1); have H3 := hideS (And.intro hown' hB3); clear hown' hgrow hB3)
   go_roundw
   case rel => exact ⟨i + 1, by first | rfl | simp, by omega, by rw [HA.out.2.1]; exact H3.out.1, H3.out.2⟩
   case measure => simp [intOf]; omega
  ·have d1 : ¬ (i : Int) < (N : Int) := by omega
   rw [List.take_of_length_le (by rw [HN.out.1]; omega), show i = N by omega] at hO
   have HA := hideS (And.intro hO hb)
   clear hO hb
   go_wp2_with fail
   rw [HPO.out]
   exact ⟨_, rfl, HA.out.1, HA.out.2⟩
end Go.Proofs.YtlkgnheccoodpaaGreatDoor
namespace Go.Proofs.YtlkgnheccoodpaaGreatDoor
open Go.ChangeShapes Go.WideShapes Go.ChangeAt Go.RowKit Go.Joins
instance : Inhabited Sp := ⟨⟨0, 0, 0, 0⟩⟩
theorem cellsTx : Tryz.prog.cellsOf 24 = 2 := by kernel_rfl
theorem cellsSp : Tryz.prog.cellsOf 42 = 4 := by kernel_rfl
theorem bytesSp : Tryz.prog.bytesOf 42 = 32 := by kernel_rfl
theorem addrS_zero (a : Addr) : a.add 0 = a := by unfold Addr.add; rw [if_pos rfl]
theorem addrS_succ (a : Addr) (j : Nat) : a.add (j + 1) = ⟨a.block, a.off + (j + 1), none⟩ := by unfold Addr.add; rw [if_neg (by omega)]
set_option maxRecDepth 100000 in
theorem open_sp {H : Type} {enc : TypeId × Value → H} {W : World} {base : Nat} {spare : Nat → Bool} {held : Bool} {fuel : Nat} {v : Value} {x : DataW H × List MemPlace}
  (h : DataW.trod enc Tryz.prog W base spare held fuel 22 [v] = some x) :
  ∃ (D : List Sp) (o : Option Addr) (cap : Nat), v = .slice o D.length cap ∧ (D.length ≤ cap ∧ cap ≤ maxLen) ∧ (o = none → D = [] ∧ cap = 0) ∧ SpO W o D ∧
   ((x.1 = .nil ∧ D = []) ∨ ∃ el sp, x.1 = .slice el sp ∧ el.length = D.length) := by
 rcases Deep.open_slice Tryz.underlying22 h with ⟨hcs, hx⟩ | ⟨a, len, cap, m, n, E, Pl, hcs, hb, hl, hm, hmm, hx, hel⟩
 ·simp at hcs
  subst hcs
  exact ⟨[], none, 0, rfl, ⟨by simp, by decide⟩, fun _ => ⟨rfl, rfl⟩, SpO.nil W none, .inl ⟨by rw [hx], rfl⟩⟩
 ·simp at hcs
  subst hcs
  have hlm : len ≤ m := by rw [hmm]; split <;> omega
  have key : ∀ i, i < len → ∃ q : Sp, a.block < W.heap.size ∧
    W.cell? (a.add (i * 4)) = some (.int .i64 q.fr) ∧ W.cell? ⟨(a.add (i * 4)).block, (a.add (i * 4)).off + 1, none⟩ = some (.int .i64 q.tt) ∧ W.cell? ⟨(a.add (i * 4)).block, (a.add (i * 4)).off + 2, none⟩ = some (.int .i64 q.kd) ∧ W.cell? ⟨(a.add (i * 4)).block, (a.add (i * 4)).off + 3, none⟩ = some (.int .i64 q.vl) := by
   intro i hi
   obtain ⟨cs', h1, h2⟩ := hel i (by omega)
   rw [cellsSp] at h1
   have hbl := World.cells?_block h1 (by decide)
   rw [addrS_block] at hbl
   obtain ⟨_, hlen, hcell⟩ := World.cells?_some h1
   match cs', hlen with
   | [v0, v1, v2, v3], _ =>
    obtain ⟨y0, y1, y2, y3, k, _, _, t0, t1, t2, t3⟩ := trod_struct4 Tryz.underlying42 h2
    obtain ⟨k0, a0, _, w0⟩ := DataW.trod_int Tryz.underlying3 t0
    obtain ⟨k1, a1, _, w1⟩ := DataW.trod_int Tryz.underlying3 t1
    obtain ⟨k2, a2, _, w2⟩ := DataW.trod_int Tryz.underlying3 t2
    obtain ⟨k3, a3, _, w3⟩ := DataW.trod_int Tryz.underlying3 t3
    have c3 : Tryz.prog.cellsOf 3 = 1 := by kernel_rfl
    simp [c3] at a0 a1 a2 a3
    subst a0 a1 a2 a3
    have e0 := hcell 0 (by omega)
    have e1 := hcell 1 (by omega)
    have e2 := hcell 2 (by omega)
    have e3 := hcell 3 (by omega)
    rw [addrS_zero] at e0
    rw [addrS_succ] at e1 e2 e3
    exact ⟨⟨k0, k1, k2, k3⟩, hbl, e0, e1, e2, e3⟩
  obtain ⟨q, hq⟩ := Deep.choose_lt key
  refine ⟨(List.range len).map q, some a, cap, by simp, ⟨by simpa using hl, hm⟩, (fun e => nomatch e), fun i r hr => ?_, .inr ⟨_, _, by rw [hx], by simp⟩⟩
  have hi : i < len := by
   have := (List.getElem?_eq_some_iff.1 hr).1
   simpa using this
  have er : r = q i := by
   rw [List.getElem?_map, List.getElem?_range hi] at hr
   simpa using hr.symm
  rw [er]
  exact ⟨a, rfl, hq i hi⟩
set_option maxRecDepth 100000 in
theorem open_text {H : Type} {enc : TypeId × Value → H} {W : World} {r : Reach} {b0 base : Nat} {spare : Nat → Bool} {held : Bool} {v : Value} {d : DataW H} {p : List MemPlace}
  (hv : Value.okWide Tryz.prog W r b0 24 v) (h : DataW.Trod enc Tryz.prog W base spare held 24 v d p)
  (hsz : (DataW.weights Tryz.prog 24 d).all (· ≤ reachBytes) = true) :
  ∃ (s : ByteArray) (D : List Sp) (o : Option Addr) (cap : Nat), v = .agg #[.string s, .slice o D.length cap] ∧ (D.length ≤ cap ∧ cap ≤ maxLen) ∧ (o = none → D = [] ∧ cap = 0) ∧ SpO W o D ∧ s.size ≤ 140737488355328 ∧ D.length ≤ 4398046510976 := by
 obtain ⟨c0, c1, y0, y1, m, rfl, rfl, rfl, hy0, hy1⟩ := open_agg2 Tryz.underlying24 (by kernel_rfl) cellsTx hv h
 obtain ⟨s, e0, rfl, _⟩ := DataW.trod_string Tryz.underlying9 hy0
 simp at e0
 subst e0
 obtain ⟨D, o, cap, rfl, hc, hn, hR, hd⟩ := open_sp hy1
 have hu : Tryz.prog.underlying 24 = _ := Tryz.underlying24
 unfold DataW.weights at hsz
 rw [hu] at hsz
 simp only [List.map_cons, List.map_nil, DataW.weightsEach, List.all_append, Bool.and_eq_true, List.append_nil, reachBytes] at hsz
 obtain ⟨hs0, hs1⟩ := hsz
 refine ⟨s, D, o, cap, rfl, hc, hn, hR, ?_, ?_⟩
 ·simp only [DataW.weights, List.all_cons, Bool.and_eq_true] at hs0
  have h1 := of_decide_eq_true (by first | exact hs0 | exact hs0.1 : decide _ = true)
  rw [Lib.size_eq]
  omega
 ·rcases hd with ⟨_, rfl⟩ | ⟨el, sp, e, hl⟩
  ·simp
  ·rw [e] at hs1
   unfold DataW.weights at hs1
   have hv2 : Tryz.prog.underlying 22 = _ := Tryz.underlying22
   rw [hv2] at hs1
   simp only [List.all_cons, Bool.and_eq_true, bytesSp] at hs1
   have h1 := of_decide_eq_true hs1.1
   omega
end Go.Proofs.YtlkgnheccoodpaaGreatDoor
