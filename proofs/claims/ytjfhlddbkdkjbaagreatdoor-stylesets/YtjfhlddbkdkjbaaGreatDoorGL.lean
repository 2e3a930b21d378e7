/- Several texts, one behind the other. -/
import Derived.Lib.SmallJoins
import Derived.Deep.Slices
import Derived.ChangeOld
import Derived.ShutString
import Derived.DataShut
import Derived.Test.YtjfhlddbkdkjbaaGreatDoorCutR
import Derived.Test.YtjfhlddbkdkjbaaGreatDoorQuG
import Derived.Test.YtjfhlddbkdkjbaaGreatDoorSoO
import Derived.Test.YtjfhlddbkdkjbaaGreatDoorSpA
import Derived.Test.YtjfhlddbkdkjbaaGreatDoorSpE
import Derived.Test.YtjfhlddbkdkjbaaGreatDoorSpG
import Derived.Test.YtjfhlddbkdkjbaaGreatDoorSpJ
/- A part of a text's spans, as mathematics (P0706): cut and moved, or moved while it is cut. -/
namespace Go.Proofs.YtjfhlddbkdkjbaaGreatDoor
open Go.RowKit Go.Shelf

/-- A span, cut to a part of the text. -/
def clS (f t : Int) (x : Sp) : Sp := ⟨max x.fr f, min x.tt t, x.kd, x.vl⟩
def fulS (x : Sp) : Bool := decide (x.fr < x.tt)
def clL (f t : Int) (L : List Sp) : List Sp := (L.map (clS f t)).filter fulS
/-- A span, cut and moved at once. -/
def suS (f t : Int) (x : Sp) : Sp := ⟨max x.fr f - f, min x.tt t - f, x.kd, x.vl⟩
def suL (f t : Int) (L : List Sp) : List Sp := (L.map (suS f t)).filter fulS
def InS (n : Int) (x : Sp) : Prop := 0 ≤ x.fr ∧ x.fr ≤ n ∧ 0 ≤ x.tt ∧ x.tt ≤ n
theorem wrap_in7 {z : Int} (h1 : -9000000000000000000 ≤ z) (h2 : z ≤ 9000000000000000000) : IntKind.i64.wrap z = z := IntWalk.i64_in _ ⟨by omega, by omega⟩
theorem su_mv (f t n : Int) (hf : 0 ≤ f) (hft : f ≤ t) (ht : t ≤ n) (hn : n ≤ 1000000) (x : Sp) (h : InS n x) : mvS (-f) (clS f t x) = suS f t x := by
  obtain ⟨a, b, c, d⟩ := h
  unfold mvS clS suS
  dsimp only
  rw [wrap_in7 (by omega) (by omega), wrap_in7 (by omega) (by omega)]
  rfl
theorem cl_snoc (f t : Int) (L : List Sp) (x : Sp) : clL f t (L ++ [x]) = if (clS f t x).fr < (clS f t x).tt then clL f t L ++ [clS f t x] else clL f t L := by
  unfold clL
  rw [List.map_append, List.filter_append]
  by_cases h : (clS f t x).fr < (clS f t x).tt
  · rw [if_pos h]; simp [fulS, h]
  · rw [if_neg h]; simp [fulS, h]
theorem su_snoc (f t : Int) (L : List Sp) (x : Sp) : suL f t (L ++ [x]) = if (suS f t x).fr < (suS f t x).tt then suL f t L ++ [suS f t x] else suL f t L := by
  unfold suL
  rw [List.map_append, List.filter_append]
  by_cases h : (suS f t x).fr < (suS f t x).tt
  · rw [if_pos h]; simp [fulS, h]
  · rw [if_neg h]; simp [fulS, h]
theorem su_cl (f t n : Int) (hf : 0 ≤ f) (hft : f ≤ t) (ht : t ≤ n) (hn : n ≤ 1000000) : ∀ (L : List Sp), (∀ x ∈ L, InS n x) → (clL f t L).map (mvS (-f)) = suL f t L
  | [], _ => rfl
  | x :: L, h => by
    have ih := su_cl f t n hf hft ht hn L (fun y hy => h y (List.mem_cons_of_mem _ hy))
    have e := su_mv f t n hf hft ht hn x (h x (List.mem_cons_self ..))
    unfold clL suL at ih ⊢
    rw [List.map_cons, List.map_cons]
    have q : fulS (clS f t x) = fulS (suS f t x) := by
      unfold fulS clS suS
      exact decide_eq_decide.2 (by constructor <;> intro k <;> simp only at k ⊢ <;> omega)
    by_cases k : fulS (suS f t x) = true
    · rw [List.filter_cons_of_pos k, List.filter_cons_of_pos (q.trans k), List.map_cons, ih, e]
    · rw [List.filter_cons_of_neg k, List.filter_cons_of_neg (by rw [q]; exact k), ih]
theorem isort_inR {α : Type} (lt : α → α → Bool) (z : α) : ∀ (r : List α), z ∈ isort lt r.reverse ↔ z ∈ r
  | [] => by simp [isort]
  | x :: r => by
    rw [List.reverse_cons, isort_snoc, mg_mem, isort_inR lt z r]
    simp [or_comm]
theorem isort_mem' {α : Type} (lt : α → α → Bool) (z : α) (l : List α) : z ∈ isort lt l ↔ z ∈ l := by
  have := isort_inR lt z l.reverse
  rw [List.reverse_reverse] at this
  rw [this]; simp
end Go.Proofs.YtjfhlddbkdkjbaaGreatDoor

/- The reference of chapter 7: fits, within, cross, Check. -/
namespace Go.Proofs.YtjfhlddbkdkjbaaGreatDoor
open Go.RowKit Go.Shelf
attribute [local go_sem] Oper.semAt_some

set_option maxRecDepth 100000 in
set_option maxHeartbeats 1000000 in
theorem rfits_any (x : Sp) (n : Int) (w : World) : Calls Tryz.prog 34 #[x.val, .int .i64 n] w fun e w' => e = .returned (.bool (fitB x n)) ∧ Below w.heap.size w w' := by
  obtain ⟨f, t, k, v⟩ := x
  unfold fitB Sp.val
  simp only
  by_cases h0 : f < 0
  · rw [decide_eq_false (by omega)]
    go_enter Tryz.func34, Tryz.ntmps34
    go_wp2_with fail
    go_ret
    exact ⟨rfl, bel1S w _⟩
  by_cases h1 : n < t
  · rw [decide_eq_false (by omega)]
    go_enter Tryz.func34, Tryz.ntmps34
    go_wp2_with fail
    go_ret
    exact ⟨rfl, bel1S w _⟩
  by_cases h2 : t ≤ f
  · rw [decide_eq_false (by omega)]
    go_enter Tryz.func34, Tryz.ntmps34
    go_wp2_with fail
    go_ret
    exact ⟨rfl, bel1S w _⟩
  by_cases h3 : k < 1
  · rw [decide_eq_false (by omega)]
    go_enter Tryz.func34, Tryz.ntmps34
    go_wp2_with fail
    go_ret
    exact ⟨rfl, bel1S w _⟩
  by_cases h4 : 5 < k
  · rw [decide_eq_false (by omega)]
    go_enter Tryz.func34, Tryz.ntmps34
    go_wp2_with fail
    go_ret
    exact ⟨rfl, bel1S w _⟩
  by_cases hk : k = 5
  · subst hk
    rw [if_pos rfl]
    by_cases h5 : 0 ≤ v
    · by_cases h6 : v ≤ 16777215
      · rw [decide_eq_true (by omega)]
        go_enter Tryz.func34, Tryz.ntmps34
        go_wp2_with fail
        go_ret
        exact ⟨rfl, bel1S w _⟩
      · rw [decide_eq_false (by omega)]
        go_enter Tryz.func34, Tryz.ntmps34
        go_wp2_with fail
        go_ret
        exact ⟨rfl, bel1S w _⟩
    · rw [decide_eq_false (by omega)]
      go_enter Tryz.func34, Tryz.ntmps34
      go_wp2_with fail
      go_ret
      exact ⟨rfl, bel1S w _⟩
  · have hke : (k == 5) = false := by simpa using hk
    rw [if_neg hk]
    by_cases h5 : v = 0
    · subst h5
      rw [decide_eq_true (by omega)]
      go_enter Tryz.func34, Tryz.ntmps34
      go_wp2_with fail
      go_ret
      exact ⟨rfl, bel1S w _⟩
    · have hv : (v == 0) = false := by simpa using h5
      rw [decide_eq_false (by omega)]
      go_enter Tryz.func34, Tryz.ntmps34
      go_wp2_with fail
      go_ret
      exact ⟨rfl, bel1S w _⟩
def inB (a b : Sp) : Bool := decide (b.fr ≤ a.fr ∧ a.tt ≤ b.tt)
set_option maxRecDepth 100000 in
set_option maxHeartbeats 1000000 in
theorem rwithin_any (a b : Sp) (w : World) : Calls Tryz.prog 71 #[a.val, b.val] w fun e w' => e = .returned (.bool (inB a b)) ∧ Below w.heap.size w w' := by
  obtain ⟨f, t, k, v⟩ := a
  obtain ⟨f2, t2, k2, v2⟩ := b
  unfold inB Sp.val
  simp only
  by_cases h1 : f2 ≤ f
  · by_cases h2 : t ≤ t2
    · rw [decide_eq_true (by omega)]
      go_enter Tryz.func71, Tryz.ntmps71
      go_wp2_with fail
      go_ret
      exact ⟨rfl, bupS (bel1S _ _) (bel1S _ _)⟩
    · rw [decide_eq_false (by omega)]
      go_enter Tryz.func71, Tryz.ntmps71
      go_wp2_with fail
      go_ret
      exact ⟨rfl, bupS (bel1S _ _) (bel1S _ _)⟩
  · rw [decide_eq_false (by omega)]
    go_enter Tryz.func71, Tryz.ntmps71
    go_wp2_with fail
    go_ret
    exact ⟨rfl, bupS (bel1S _ _) (bel1S _ _)⟩
instance (a b : Sp) : Decidable (crS a b) := by unfold crS; infer_instance
theorem crS_in (a b : Sp) : crS a b ↔ a.fr < b.tt ∧ b.fr < a.tt ∧ inB a b = false ∧ inB b a = false := by
  unfold crS inB
  simp only [decide_eq_false_iff_not]
set_option maxRecDepth 100000 in
set_option maxHeartbeats 2000000 in
theorem rcross_any (a b : Sp) (w : World) : Calls Tryz.prog 51 #[a.val, b.val] w fun e w' => e = .returned (.bool (decide (crS a b))) ∧ Below w.heap.size w w' := by
  obtain ⟨R, hR⟩ : ∃ R, decide (crS a b) = R := ⟨_, rfl⟩
  have hcr := crS_in a b
  rw [hR]
  have H1 := hideS (rwithin_any a b)
  have H2 := hideS (rwithin_any b a)
  obtain ⟨i1, hi1⟩ : ∃ i1, inB a b = i1 := ⟨_, rfl⟩
  obtain ⟨i2, hi2⟩ : ∃ i2, inB b a = i2 := ⟨_, rfl⟩
  rw [hi1] at H1 hcr
  rw [hi2] at H2 hcr
  obtain ⟨f, t, k, v⟩ := a
  obtain ⟨f2, t2, k2, v2⟩ := b
  unfold Sp.val at H1 H2 ⊢
  simp only at hcr H1 H2 ⊢
  have HB : ∀ W : World, Hid (Below W.heap.size W ((W.alloc (.cells #[.int .i64 f, .int .i64 t, .int .i64 k, .int .i64 v] 44)).alloc (.cells #[.int .i64 f2, .int .i64 t2, .int .i64 k2, .int .i64 v2] 44))) := fun W => hideS (bupS (bel1S _ _) (bel1S _ _))
  have HR : Hid (R = decide (f < t2 ∧ f2 < t ∧ i1 = false ∧ i2 = false)) := hideS (by rw [← hR]; exact decide_eq_decide.2 hcr)
  clear hR hcr hi1 hi2
  by_cases h1 : f < t2
  · by_cases h2 : f2 < t
    · cases i1 with
      | true =>
        obtain rfl : R = false := by rw [HR.out]; simp
        go_enter Tryz.func51, Tryz.ntmps51
        go_wp2_with fail
        refine (H1.out _).mono ?_
        rintro e w1 ⟨rfl, b1⟩
        have Hb := hideS (bupS (HB w).out b1)
        clear b1
        go_wp2_with fail
        go_ret
        exact ⟨rfl, Hb.out⟩
      | false =>
        have hR2 : R = !i2 := by rw [HR.out]; cases i2 <;> simp [h1, h2]
        obtain ⟨V, hV⟩ : ∃ V, ((w.alloc (.cells #[.int .i64 f, .int .i64 t, .int .i64 k, .int .i64 v] 44)).alloc (.cells #[.int .i64 f2, .int .i64 t2, .int .i64 k2, .int .i64 v2] 44)) = V := ⟨_, rfl⟩
        have n0 : V.heap[w.heap.size]? = some (.cells #[.int .i64 f, .int .i64 t, .int .i64 k, .int .i64 v] 44 (0, 0)) := by rw [← hV]; exact (Below.heap_alloc _ _ _ (by simp)).trans (World.alloc_heap_new w _)
        have n1 : V.heap[w.heap.size + 1]? = some (.cells #[.int .i64 f2, .int .i64 t2, .int .i64 k2, .int .i64 v2] 44 (0, 0)) := by
          rw [← hV]
          have h9 := World.alloc_heap_new (w.alloc (.cells #[.int .i64 f, .int .i64 t, .int .i64 k, .int .i64 v] 44)) (.cells #[.int .i64 f2, .int .i64 t2, .int .i64 k2, .int .i64 v2] 44 (0, 0))
          rw [World.size_alloc] at h9
          exact h9
        have l1 : w.heap.size + 1 < V.heap.size := (Array.getElem?_eq_some_iff.1 n1).1
        have hBV : Hid (Below w.heap.size w V) := hideS (by rw [← hV]; exact (HB w).out)
        have HN := hideS (And.intro n0 n1)
        have p0 : V.cell? ⟨w.heap.size, 0, none⟩ = some (.int .i64 f) := by simp [World.cell?, n0]
        have p1 : V.cell? ⟨w.heap.size, 1, none⟩ = some (.int .i64 t) := by simp [World.cell?, n0]
        have p2 : V.cell? ⟨w.heap.size, 2, none⟩ = some (.int .i64 k) := by simp [World.cell?, n0]
        have p3 : V.cell? ⟨w.heap.size, 3, none⟩ = some (.int .i64 v) := by simp [World.cell?, n0]
        have q0 : V.cell? ⟨w.heap.size + 1, 0, none⟩ = some (.int .i64 f2) := by simp [World.cell?, n1]
        have q1 : V.cell? ⟨w.heap.size + 1, 1, none⟩ = some (.int .i64 t2) := by simp [World.cell?, n1]
        have q2 : V.cell? ⟨w.heap.size + 1, 2, none⟩ = some (.int .i64 k2) := by simp [World.cell?, n1]
        have q3 : V.cell? ⟨w.heap.size + 1, 3, none⟩ = some (.int .i64 v2) := by simp [World.cell?, n1]
        clear n0 n1
        go_enter Tryz.func51, Tryz.ntmps51
        go_wp2_with fail
        try rw [hV]
        clear hV p0 p1 p2 p3 q0 q1 q2 q3
        refine (H1.out _).mono ?_
        rintro e w1 ⟨rfl, b1⟩
        have m0 := (b1.block w.heap.size (by omega)).trans HN.out.1
        have m1 := (b1.block (w.heap.size + 1) l1).trans HN.out.2
        have x0 : w1.cell? ⟨w.heap.size, 0, none⟩ = some (.int .i64 f) := by simp [World.cell?, m0]
        have x1 : w1.cell? ⟨w.heap.size, 1, none⟩ = some (.int .i64 t) := by simp [World.cell?, m0]
        have x2 : w1.cell? ⟨w.heap.size, 2, none⟩ = some (.int .i64 k) := by simp [World.cell?, m0]
        have x3 : w1.cell? ⟨w.heap.size, 3, none⟩ = some (.int .i64 v) := by simp [World.cell?, m0]
        have y0 : w1.cell? ⟨w.heap.size + 1, 0, none⟩ = some (.int .i64 f2) := by simp [World.cell?, m1]
        have y1 : w1.cell? ⟨w.heap.size + 1, 1, none⟩ = some (.int .i64 t2) := by simp [World.cell?, m1]
        have y2 : w1.cell? ⟨w.heap.size + 1, 2, none⟩ = some (.int .i64 k2) := by simp [World.cell?, m1]
        have y3 : w1.cell? ⟨w.heap.size + 1, 3, none⟩ = some (.int .i64 v2) := by simp [World.cell?, m1]
        have Hb := hideS (bupS hBV.out b1)
        clear b1 m0 m1
        go_wp2_with fail
        refine (H2.out _).mono ?_
        rintro e w2 ⟨rfl, b2⟩
        have Hb2 := hideS (bupS Hb.out b2)
        clear b2 x0 x1 x2 x3 y0 y1 y2 y3
        subst hR2
        cases i2 with
        | true =>
          go_wp2_with fail
          go_ret
          exact ⟨rfl, Hb2.out⟩
        | false =>
          go_wp2_with fail
          go_ret
          exact ⟨rfl, Hb2.out⟩
    · obtain rfl : R = false := by rw [HR.out]; simp [h2]
      go_enter Tryz.func51, Tryz.ntmps51
      go_wp2_with fail
      go_ret
      exact ⟨rfl, (HB w).out⟩
  · obtain rfl : R = false := by rw [HR.out]; simp [h1]
    go_enter Tryz.func51, Tryz.ntmps51
    go_wp2_with fail
    go_ret
    exact ⟨rfl, (HB w).out⟩
theorem tx_text {W : World} {P : Nat} {a b : Value} (h : W.heap[P]? = some (.cells #[a, b] 30 (0, 0))) : W.cell? ⟨P, 0, none⟩ = some a ∧ W.cell? ⟨P, 1, none⟩ = some b := by simp [World.cell?, h]
/-- No two of the spans up to the i-th one cross. -/
def NoCr (D : List Sp) (i : Nat) : Prop := ∀ j k x y, j < i → k < j → D[j]? = some x → D[k]? = some y → ¬ crS x y
theorem noCr_all {D : List Sp} (h : NoCr D D.length) (hf : ∀ x ∈ D, x.fr < x.tt) : crB D = false := by
  rw [← Bool.not_eq_true, crB_iff D hf]
  rintro ⟨x, hx, y, hy, hc⟩
  obtain ⟨i, hi, rfl⟩ := List.getElem_of_mem hx
  obtain ⟨j, hj, rfl⟩ := List.getElem_of_mem hy
  rcases Nat.lt_trichotomy i j with l | l | l
  · exact h j i _ _ hj l (List.getElem?_eq_getElem hj) (List.getElem?_eq_getElem hi) hc
  · subst l
    exact crS_irr _ hc
  · exact h i j _ _ hi l (List.getElem?_eq_getElem hi) (List.getElem?_eq_getElem hj) (crS_symm hc)
theorem cr_some {D : List Sp} {x y : Sp} (hx : x ∈ D) (hy : y ∈ D) (h : crS x y) (hf : ∀ x ∈ D, x.fr < x.tt) : crB D = true := (crB_iff D hf).2 ⟨y, hy, x, hx, h⟩
theorem fit_lt {D : List Sp} {n : Int} (h : allB D n = true) : ∀ x ∈ D, x.fr < x.tt := fun x hx => by
  have h1 := List.all_eq_true.1 h x hx
  have h2 := of_decide_eq_true h1
  omega
set_option maxRecDepth 100000 in
set_option maxHeartbeats 4000000 in
theorem rcheck_any (s : ByteArray) (D : List Sp) (oa : Option Addr) (cap : Nat) (w : World) (hR : SpO w oa D) :
    Calls Tryz.prog 28 #[.agg #[.string s, .slice oa D.length cap]] w fun e w' => e = .returned (.int .i64 (chkT s D)) ∧ Below w.heap.size w w' := by
  obtain ⟨N, hN⟩ : ∃ N, D.length = N := ⟨_, rfl⟩
  have hmx : maxLen ≤ 9223372036854775807 := by decide
  obtain ⟨V, hV⟩ : ∃ V, w.alloc (.cells #[.string s, .slice oa N cap] 30) = V := ⟨_, rfl⟩
  have nV : V.heap[w.heap.size]? = some (.cells #[.string s, .slice oa N cap] 30 (0, 0)) := by rw [← hV]; exact World.alloc_heap_new w _
  have bV : Below w.heap.size w V := by rw [← hV]; exact bel1S _ _
  obtain ⟨t0, t1⟩ := tx_text nV
  have HV := hideS (And.intro nV bV)
  have hlV : w.heap.size < V.heap.size := (Array.getElem?_eq_some_iff.1 nV).1
  clear nV bV
  unfold chkT
  by_cases h1 : 4096 < s.size
  · rw [if_pos h1, hN]
    have d1 : (4096 : Int) < (s.size : Int) := by omega
    go_enter Tryz.func28, Tryz.ntmps28
    go_wp2_with fail
    go_ret
    exact ⟨rfl, HV.out.2⟩
  · rw [if_neg h1]
    have d1 : ¬ (4096 : Int) < (s.size : Int) := by omega
    by_cases h2 : 256 < D.length
    · rw [if_pos h2, hN]
      have d2 : (256 : Int) < (N : Int) := by omega
      go_enter Tryz.func28, Tryz.ntmps28
      go_wp2_with fail
      go_ret
      exact ⟨rfl, HV.out.2⟩
    · rw [if_neg h2]
      rw [hN] at h2
      have d2 : ¬ (256 : Int) < (N : Int) := by omega
      obtain ⟨K, hK⟩ : ∃ K : Nat, (signs s).length = K := ⟨_, rfl⟩
      have HCt := hideS (rcountR s (by omega) V)
      rw [hK] at HCt
      obtain ⟨R, hRd⟩ : ∃ R : Int, (if allB D (signs s).length = true ∧ crB D = false then 0 else 23) = R := ⟨_, rfl⟩
      rw [hK] at hRd
      rw [hK, hRd, hN]
      have HX := hideS (And.intro hRd (And.intro hN hR))
      clear hRd hR hK hN
      go_enter Tryz.func28, Tryz.ntmps28
      go_wp2_with fail
      refine HCt.out.mono ?_
      rintro e w1 ⟨rfl, b1⟩
      have H1 := hideS (And.intro ((b1.block w.heap.size hlV).trans HV.out.1) (bupS HV.out.2 b1))
      clear hV t0 t1 b1 HCt HV
      go_wp2_with fail
      go_loopw [4] (fun iv wq => ∃ i : Nat, iv = .int .i64 (i : Nat) ∧ i ≤ N ∧ (D.take i).all (fun x => fitB x K) = true ∧ wq.heap[w.heap.size]? = some (.cells #[.string s, .slice oa N cap] 30 (0, 0)) ∧ Below w.heap.size w wq) (fun iv _ => N - (intOf iv).toNat)
      case atStart => exact ⟨0, rfl, Nat.zero_le _, rfl, H1.out.1, H1.out.2⟩
      case round =>
        obtain ⟨i, rfl, hiN, hall, hnq, hb⟩ := hrel
        obtain ⟨wq, rfl⟩ : ∃ wq, wq = wr := ⟨_, rfl⟩
        clear H1
        obtain ⟨t0, t1⟩ := tx_text hnq
        have hlq : w.heap.size < wq.heap.size := (Array.getElem?_eq_some_iff.1 hnq).1
        by_cases hlt : i < N
        · obtain ⟨x, hx⟩ : ∃ x, D[i]? = some x := ⟨_, List.getElem?_eq_getElem (by rw [HX.out.2.1]; exact hlt)⟩
          obtain ⟨a, rfl, hab, c0, c1, c2, c3⟩ := HX.out.2.2.keep hb i x hx
          have d3 : (i : Int) < (N : Int) := by omega
          have wi : IntKind.i64.wrap ((i : Int) + 1) = ((i + 1 : Nat) : Int) := by rw [show ((i + 1 : Nat) : Int) = (i : Int) + 1 by omega]; exact IntWalk.i64_in _ ⟨by omega, by omega⟩
          have HF := hideS (rfits_any x K wq)
          unfold Sp.val at HF
          obtain ⟨g, hg⟩ : ∃ g, fitB x K = g := ⟨_, rfl⟩
          rw [hg] at HF
          have HA := hideS (And.intro (And.intro hall hg) (And.intro hnq (And.intro hb hx)))
          clear hall hg hnq hb hx
          go_wp2_with fail
          refine HF.out.mono ?_
          rintro e w5 ⟨rfl, b5⟩
          have H5 := hideS (And.intro ((b5.block w.heap.size hlq).trans HA.out.2.1) (bupS HA.out.2.2.1 b5))
          clear b5 HF c0 c1 c2 c3 t0 t1
          cases g with
          | true =>
            go_wp2_with fail
            go_roundw
            case rel =>
              refine ⟨i + 1, by first | rfl | simp, by omega, ?_, H5.out.1, H5.out.2⟩
              rw [List.take_add_one, HA.out.2.2.2, List.all_append, HA.out.1.1]
              simp [HA.out.1.2]
            case measure => simp [intOf]; omega
          | false =>
            go_wp2_with fail
            go_ret
            refine ⟨?_, H5.out.2⟩
            have hm : x ∈ D := List.mem_of_getElem? HA.out.2.2.2
            have h0 : allB D K = false := List.all_eq_false.2 ⟨x, hm, by rw [HA.out.1.2]; simp⟩
            have e9 := HX.out.1
            rw [if_neg (by rw [h0]; simp)] at e9
            rw [← e9]
            rfl
        · have d3 : ¬ (i : Int) < (N : Int) := by omega
          have hAll : allB D K = true := by
            rw [List.take_of_length_le (by rw [HX.out.2.1]; omega)] at hall
            exact hall
          have hlt2 := fit_lt hAll
          have HA := hideS (And.intro hAll (And.intro hnq (And.intro hb hlt2)))
          clear hall hAll hnq hb hlt2
          go_wp2_with fail
          go_loopw [5] (fun iv wz => ∃ i : Nat, iv = .int .i64 (i : Nat) ∧ i ≤ N ∧ NoCr D i ∧ wz.heap[w.heap.size]? = some (.cells #[.string s, .slice oa N cap] 30 (0, 0)) ∧ Below w.heap.size w wz) (fun iv _ => N - (intOf iv).toNat)
          case atStart => exact ⟨0, rfl, Nat.zero_le _, fun j k x y hj => absurd hj (by omega), HA.out.2.1, HA.out.2.2.1⟩
          case round =>
            clear t0 t1 hlq d3
            obtain ⟨i, rfl, hiN, hno, hnz, hbz⟩ := hrel
            obtain ⟨wz, rfl⟩ : ∃ wz, wz = wr := ⟨_, rfl⟩
            obtain ⟨t0, t1⟩ := tx_text hnz
            by_cases hlt : i < N
            · obtain ⟨x, hx⟩ : ∃ x, D[i]? = some x := ⟨_, List.getElem?_eq_getElem (by rw [HX.out.2.1]; exact hlt)⟩
              have d3 : (i : Int) < (N : Int) := by omega
              have wi : IntKind.i64.wrap ((i : Int) + 1) = ((i + 1 : Nat) : Int) := by rw [show ((i + 1 : Nat) : Int) = (i : Int) + 1 by omega]; exact IntWalk.i64_in _ ⟨by omega, by omega⟩
              have HZ := hideS (And.intro hno (And.intro hnz (And.intro hbz hx)))
              clear hno hnz hbz hx
              go_wp2_with fail
              go_loopw [6] (fun kv wx => ∃ k : Nat, kv = .int .i64 (k : Nat) ∧ k ≤ i ∧ (∀ j y, j < k → D[j]? = some y → ¬ crS x y) ∧ wx.heap[w.heap.size]? = some (.cells #[.string s, .slice oa N cap] 30 (0, 0)) ∧ Below w.heap.size w wx) (fun kv _ => i - (intOf kv).toNat)
              case atStart => exact ⟨0, rfl, Nat.zero_le _, fun j y hj => absurd hj (by omega), HZ.out.2.1, HZ.out.2.2.1⟩
              case round =>
                clear t0 t1
                obtain ⟨k, rfl, hki, hnk, hnx, hbx⟩ := hrel
                obtain ⟨wx, rfl⟩ : ∃ wx, wx = wr := ⟨_, rfl⟩
                by_cases hkl : k < i
                · obtain ⟨y, hy⟩ : ∃ y, D[k]? = some y := ⟨_, List.getElem?_eq_getElem (by rw [HX.out.2.1]; omega)⟩
                  obtain ⟨a, rfl, hab, c0, c1, c2, c3⟩ := HX.out.2.2.keep hbx i x HZ.out.2.2.2
                  obtain ⟨a2, ha2, _, e0, e1, e2, e3⟩ := HX.out.2.2.keep hbx k y hy
                  obtain rfl : a = a2 := by simpa using ha2
                  obtain ⟨t0, t1⟩ := tx_text hnx
                  have hlx : w.heap.size < wx.heap.size := (Array.getElem?_eq_some_iff.1 hnx).1
                  have hai : (a.add (i * 4)).block < wx.heap.size := by rw [addrS_block]; exact hab
                  have hak : (a.add (k * 4)).block < wx.heap.size := by rw [addrS_block]; exact hab
                  have d4 : (k : Int) < (i : Int) := by omega
                  have d5 : (k : Int) < (N : Int) := by omega
                  have wk : IntKind.i64.wrap ((k : Int) + 1) = ((k + 1 : Nat) : Int) := by rw [show ((k + 1 : Nat) : Int) = (k : Int) + 1 by omega]; exact IntWalk.i64_in _ ⟨by omega, by omega⟩
                  have HF := hideS (fun W => rcross_any x y W)
                  unfold Sp.val at HF
                  obtain ⟨g, hg⟩ : ∃ g, decide (crS x y) = g := ⟨_, rfl⟩
                  rw [hg] at HF
                  have HQ := hideS (And.intro (And.intro hnk hg) (And.intro hnx (And.intro hbx hy)))
                  have z1 : ∀ q : GrownQ wx, q.V.cell? ⟨w.heap.size, 1, none⟩ = some (.slice (some a) N cap) := fun q => (q.h.cell (p := ⟨w.heap.size, 1, none⟩) hlx).trans t1
                  have u0 : ∀ q : GrownQ wx, q.V.cell? (a.add (i * 4)) = some (.int .i64 x.fr) := fun q => (q.h.cell hai).trans c0
                  have u1 : ∀ q : GrownQ wx, q.V.cell? ⟨(a.add (i * 4)).block, (a.add (i * 4)).off + 1, none⟩ = some (.int .i64 x.tt) := fun q => (q.h.cell (p := ⟨(a.add (i * 4)).block, _, none⟩) hai).trans c1
                  have u2 : ∀ q : GrownQ wx, q.V.cell? ⟨(a.add (i * 4)).block, (a.add (i * 4)).off + 2, none⟩ = some (.int .i64 x.kd) := fun q => (q.h.cell (p := ⟨(a.add (i * 4)).block, _, none⟩) hai).trans c2
                  have u3 : ∀ q : GrownQ wx, q.V.cell? ⟨(a.add (i * 4)).block, (a.add (i * 4)).off + 3, none⟩ = some (.int .i64 x.vl) := fun q => (q.h.cell (p := ⟨(a.add (i * 4)).block, _, none⟩) hai).trans c3
                  have v0 : ∀ q : GrownQ wx, q.V.cell? (a.add (k * 4)) = some (.int .i64 y.fr) := fun q => (q.h.cell hak).trans e0
                  have v1 : ∀ q : GrownQ wx, q.V.cell? ⟨(a.add (k * 4)).block, (a.add (k * 4)).off + 1, none⟩ = some (.int .i64 y.tt) := fun q => (q.h.cell (p := ⟨(a.add (k * 4)).block, _, none⟩) hak).trans e1
                  have v2 : ∀ q : GrownQ wx, q.V.cell? ⟨(a.add (k * 4)).block, (a.add (k * 4)).off + 2, none⟩ = some (.int .i64 y.kd) := fun q => (q.h.cell (p := ⟨(a.add (k * 4)).block, _, none⟩) hak).trans e2
                  have v3 : ∀ q : GrownQ wx, q.V.cell? ⟨(a.add (k * 4)).block, (a.add (k * 4)).off + 3, none⟩ = some (.int .i64 y.vl) := fun q => (q.h.cell (p := ⟨(a.add (k * 4)).block, _, none⟩) hak).trans e3
                  clear hnk hg hnx hbx hy c0 c1 c2 c3 e0 e1 e2 e3 t0 t1
                  go_upto_region 17 with fail
                  refine region_grown wx wx (by kernel_rfl) (by kernel_rfl) (Below.refl _ _) ?_
                  repeat (go_big_quiet_step (first
                    | (go_at_call 51; rename_i q; (with_reducible refine (HF.out _).mono ?_); rintro e V1 ⟨rfl, h1⟩; exact ⟨rfl, ⟨V1, q.h.trans (h1.mono q.h.size)⟩, rfl⟩)))
                  refine wpQuiet_nil ?_
                  rintro W3 ⟨⟨V3, hb3⟩, hv3⟩
                  have hv3 : W3 = V3 := hv3
                  subst hv3
                  have H5 := hideS (And.intro ((hb3.block w.heap.size hlx).trans HQ.out.2.1) (bupS HQ.out.2.2.1 hb3))
                  clear hv3 hb3 z1 u0 u1 u2 u3 v0 v1 v2 v3 HF
                  cases g with
                  | true =>
                    go_wp2_with fail
                    go_ret
                    refine ⟨?_, H5.out.2⟩
                    have h0 := cr_some (List.mem_of_getElem? HZ.out.2.2.2) (List.mem_of_getElem? HQ.out.2.2.2) (of_decide_eq_true HQ.out.1.2) HA.out.2.2.2
                    have e9 := HX.out.1
                    rw [if_neg (by rw [h0]; simp)] at e9
                    rw [← e9]
                    rfl
                  | false =>
                    go_wp2_with fail
                    go_roundw
                    case rel =>
                      refine ⟨k + 1, by first | rfl | simp, by omega, fun j y2 hj hy2 => ?_, H5.out.1, H5.out.2⟩
                      by_cases hjk : j < k
                      · exact HQ.out.1.1 j y2 hjk hy2
                      · obtain rfl : j = k := by omega
                        have h9 := HQ.out.2.2.2
                        rw [hy2] at h9
                        obtain rfl := Option.some.inj h9
                        exact of_decide_eq_false HQ.out.1.2
                    case measure => simp [intOf]; omega
                · have d4 : ¬ (k : Int) < (i : Int) := by omega
                  have HQ := hideS (And.intro hnk (And.intro hnx hbx))
                  clear hnk hnx hbx
                  go_wp2_with fail
                  go_roundw
                  case rel =>
                    refine ⟨i + 1, by first | rfl | simp, by omega, fun j k2 x2 y2 hj hk2 hx2 hy2 => ?_, HQ.out.2.1, HQ.out.2.2⟩
                    by_cases hji : j < i
                    · exact HZ.out.1 j k2 x2 y2 hji hk2 hx2 hy2
                    · obtain rfl : j = i := by omega
                      have h9 := HZ.out.2.2.2
                      rw [hx2] at h9
                      obtain rfl := Option.some.inj h9
                      exact HQ.out.1 k2 y2 (by omega) hy2
                  case measure => simp [intOf]; omega
            · have d3 : ¬ (i : Int) < (N : Int) := by omega
              obtain rfl : i = N := by omega
              have h0 : crB D = false := noCr_all (by rw [HX.out.2.1]; exact hno) HA.out.2.2.2
              have HZ := hideS (And.intro h0 hbz)
              clear hno hnz hbz h0
              go_wp2_with fail
              go_ret
              refine ⟨?_, HZ.out.2⟩
              have e9 := HX.out.1
              rw [if_pos ⟨HA.out.1, HZ.out.1⟩] at e9
              rw [← e9]
              rfl
end Go.Proofs.YtjfhlddbkdkjbaaGreatDoor

/- How a sign looks: the program's way and the reference's are the same (P0702), as mathematics. -/
namespace Go.Proofs.YtjfhlddbkdkjbaaGreatDoor
open Go.RowKit Go.Shelf

/-- A span over a sign; one of a kind. -/
def covB (n : Int) (x : Sp) : Bool := decide (x.fr ≤ n ∧ n < x.tt)
def kinB (n k : Int) (x : Sp) : Bool := covB n x && decide (x.kd = k)
/-- The colour that the last one gives. -/
def colC : Option Sp → Int
  | none => 0
  | some x => IntKind.i64.wrap (x.vl + 1)
def lookF (D : List Sp) (n : Int) : At := ⟨D.any (kinB n 1), D.any (kinB n 2), D.any (kinB n 3), D.any (kinB n 4), colC ((D.filter (kinB n 5)).getLast?)⟩
theorem snocI {α : Type} {P : List α → Prop} (h0 : P []) (h1 : ∀ l x, P l → P (l ++ [x])) (l : List α) : P l := by
  have h : ∀ r : List α, P r.reverse := fun r => by
    induction r with
    | nil => exact h0
    | cons x r ih => rw [List.reverse_cons]; exact h1 _ _ ih
  have := h l.reverse
  rwa [List.reverse_reverse] at this
theorem kin_cov {n k : Int} {x : Sp} (h : ¬ (x.fr ≤ n ∧ n < x.tt)) : kinB n k x = false := by simp [kinB, covB, h]
theorem kin_eq {n k : Int} {x : Sp} (h : x.fr ≤ n ∧ n < x.tt) : kinB n k x = decide (x.kd = k) := by simp [kinB, covB, h]
theorem last_snoc_if {α : Type} (p : α → Bool) (l : List α) (x : α) : ((l ++ [x]).filter p).getLast? = if p x = true then some x else (l.filter p).getLast? := by
  rw [List.filter_append]
  by_cases h : p x = true
  · simp [h]
  · simp [h]
theorem look_form (D : List Sp) (n : Int) : lookA D n = lookF D n := by
  induction D using snocI with
  | h0 => rfl
  | h1 l x ih =>
    rw [lookA_snoc, ih]
    unfold lookF
    simp only [List.any_append, List.any_cons, List.any_nil, Bool.or_false, last_snoc_if]
    by_cases h : x.fr ≤ n ∧ n < x.tt
    · rw [if_pos h]
      simp only [kin_eq h]
      unfold layA
      by_cases k1 : x.kd = 1
      · simp [k1]
      · by_cases k2 : x.kd = 2
        · simp [k2]
        · by_cases k3 : x.kd = 3
          · simp [k3]
          · by_cases k4 : x.kd = 4
            · simp [k4]
            · by_cases k5 : x.kd = 5
              · simp [k5, colC]
              · simp [k1, k2, k3, k4, k5]
    · rw [if_neg h]
      simp only [kin_cov h]
      simp
/-- The reference's way: the innermost colour so far. -/
def rstep (n : Int) (st : At × Option Sp) (x : Sp) : At × Option Sp :=
  if x.fr ≤ n ∧ n < x.tt then
    if x.kd = 1 then ({ st.1 with b := true }, st.2) else if x.kd = 2 then ({ st.1 with i := true }, st.2) else if x.kd = 3 then ({ st.1 with u := true }, st.2) else if x.kd = 4 then ({ st.1 with s := true }, st.2)
    else match st.2 with
      | none => ({ st.1 with c := IntKind.i64.wrap (x.vl + 1) }, some x)
      | some y => if inB x y = true then ({ st.1 with c := IntKind.i64.wrap (x.vl + 1) }, some x) else st
  else st
def rfoldA (D : List Sp) (n : Int) : At × Option Sp := D.foldl (rstep n) (at0, none)
theorem rfold_snoc (D : List Sp) (x : Sp) (n : Int) : rfoldA (D ++ [x]) n = rstep n (rfoldA D n) x := by simp [rfoldA]
/-- Where one more span is put in its place, the last one of a kind. -/
theorem mgLast {p : Sp → Bool} (x : Sp) : ∀ (L : List Sp), Srt ltS L → ((mg ltS L [x]).filter p).getLast? = if p x = true then (match (L.filter p).getLast? with | none => some x | some y => if ltS x y = true then some y else some x) else (L.filter p).getLast?
  | [], _ => by
    rw [mg_left]
    by_cases h : p x = true
    · simp [h]
    · simp [h]
  | a :: L, hs => by
    have hs2 : Srt ltS L := (List.pairwise_cons.1 hs).2
    have ha := (List.pairwise_cons.1 hs).1
    cases hlt : ltS x a with
    | true =>
      rw [mg_lt _ _ hlt, mg_nil]
      by_cases h : p x = true
      · rw [if_pos h, List.filter_cons, if_pos h, List.getLast?_cons]
        cases hl : ((a :: L).filter p).getLast? with
        | none => rfl
        | some y =>
          have hy : y ∈ a :: L := (List.mem_filter.1 (List.mem_of_getLast? hl)).1
          have hxy : ltS x y = true := by
            rcases List.mem_cons.1 hy with rfl | hy
            · exact hlt
            · exact swoS.lt_le hlt (ha y hy)
          simp [hxy]
      · rw [if_neg h, List.filter_cons, if_neg h]
    | false =>
      rw [mg_ge _ _ hlt]
      have ih := mgLast (p := p) x L hs2
      by_cases h : p x = true
      · rw [if_pos h] at ih ⊢
        rw [List.filter_cons, List.filter_cons]
        by_cases hp : p a = true
        · rw [if_pos hp, if_pos hp, List.getLast?_cons, List.getLast?_cons, ih]
          cases hl : (L.filter p).getLast? with
          | none => simp [hlt]
          | some y => by_cases hxy : ltS x y = true <;> simp [hxy]
        · rw [if_neg hp, if_neg hp, ih]
      · rw [if_neg h] at ih ⊢
        rw [List.filter_cons, List.filter_cons]
        by_cases hp : p a = true
        · rw [if_pos hp, if_pos hp, List.getLast?_cons, List.getLast?_cons, ih]
        · rw [if_neg hp, if_neg hp, ih]
theorem any_isort (p : Sp → Bool) (D : List Sp) : (isort ltS D).any p = D.any p := by
  rw [Bool.eq_iff_iff, List.any_eq_true, List.any_eq_true]
  exact ⟨fun ⟨x, h1, h2⟩ => ⟨x, (isort_mem' ltS x D).1 h1, h2⟩, fun ⟨x, h1, h2⟩ => ⟨x, (isort_mem' ltS x D).2 h1, h2⟩⟩
/-- Two spans over one sign that do not cross: the one that is put behind is within the other. -/
theorem in_lt {n : Int} {x y : Sp} (hx : x.fr ≤ n ∧ n < x.tt) (hy : y.fr ≤ n ∧ n < y.tt) (hc : ¬ crS x y) : inB x y = !(ltS x y) := by
  have h1 := ltS_iff x y
  unfold crS at hc
  cases hl : ltS x y with
  | true =>
    have h2 := h1.1 hl
    unfold inB
    exact decide_eq_false (by omega)
  | false =>
    have h2 : ¬ (x.fr < y.fr ∨ (x.fr = y.fr ∧ y.tt < x.tt)) := fun h => by rw [h1.2 h] at hl; cases hl
    unfold inB
    exact decide_eq_true (by omega)
theorem look_ref (n : Int) (D : List Sp) : (∀ x ∈ D, 1 ≤ x.kd ∧ x.kd ≤ 5) → (∀ x ∈ D, ∀ y ∈ D, ¬ crS x y) → rfoldA D n = (lookF (isort ltS D) n, ((isort ltS D).filter (kinB n 5)).getLast?) := by
  induction D using snocI with
  | h0 => intro _ _; rfl
  | h1 l x ih =>
    intro hk hc
    have ih := ih (fun y hy => hk y (List.mem_append_left _ hy)) (fun y hy z hz => hc y (List.mem_append_left _ hy) z (List.mem_append_left _ hz))
    have hkx := hk x (by simp)
    rw [rfold_snoc, ih, isort_snoc, mgLast x _ (isort_sorted swoS l)]
    have hany : ∀ k, (mg ltS (isort ltS l) [x]).any (kinB n k) = (kinB n k x || (isort ltS l).any (kinB n k)) := fun k => by
      rw [← isort_snoc, any_isort, any_isort, List.any_append]
      simp [Bool.or_comm]
    unfold lookF
    rw [hany, hany, hany, hany, mgLast x _ (isort_sorted swoS l)]
    unfold rstep
    by_cases h : x.fr ≤ n ∧ n < x.tt
    · rw [if_pos h]
      simp only [kin_eq h]
      by_cases k1 : x.kd = 1
      · simp [k1]
      · by_cases k2 : x.kd = 2
        · simp [k2]
        · by_cases k3 : x.kd = 3
          · simp [k3]
          · by_cases k4 : x.kd = 4
            · simp [k4]
            · have k5 : x.kd = 5 := by omega
              cases hl : ((isort ltS l).filter (kinB n 5)).getLast? with
              | none => simp [k5, colC]
              | some y =>
                have hy := List.mem_filter.1 (List.mem_of_getLast? hl)
                have hy2 : y.fr ≤ n ∧ n < y.tt := by
                  have h9 := hy.2
                  unfold kinB covB at h9
                  simp at h9
                  exact h9.1
                have e := in_lt h hy2 (hc x (by simp) y (List.mem_append_left _ ((isort_mem' ltS y l).1 hy.1)))
                cases hlt : ltS x y with
                | true => rw [hlt] at e; simp [k5, e, hlt, colC]
                | false => rw [hlt] at e; simp [k5, e, hlt, colC]
    · rw [if_neg h]
      simp only [kin_cov h]
      simp
end Go.Proofs.YtjfhlddbkdkjbaaGreatDoor

/- Runs are the looks of the signs, one behind the other, put together (P0703), as mathematics. -/
namespace Go.Proofs.YtjfhlddbkdkjbaaGreatDoor
open Go.RowKit Go.Shelf

/-- The looks of so many signs, from one on. -/
def seg (D : List Sp) (i : Int) (k : Nat) : List At := (List.range k).map fun (j : Nat) => lookA D (i + (j : Int))
theorem seg_len (D : List Sp) (i : Int) (k : Nat) : (seg D i k).length = k := by simp [seg]
theorem seg_add (D : List Sp) (i : Int) (k m : Nat) : seg D i (k + m) = seg D i k ++ seg D (i + k) m := by
  unfold seg
  rw [List.range_add, List.map_append, List.map_map]
  congr 1
  refine List.map_congr_left fun j _ => ?_
  simp only [Function.comp]
  congr 1
  omega
/-- Looks put together, one by one. -/
def rleL : List Rn → Int → List At → List Rn
  | acc, _, [] => acc
  | acc, i, a :: l => rleL (runStep acc i (i + 1) a) (i + 1) l
theorem rle_app : ∀ (l m : List At) (acc : List Rn) (i : Int), rleL acc i (l ++ m) = rleL (rleL acc i l) (i + l.length) m
  | [], m, acc, i => by simp [rleL]
  | a :: l, m, acc, i => by
    rw [List.cons_append]
    show rleL (runStep acc i (i + 1) a) (i + 1) (l ++ m) = _
    rw [rle_app l m]
    show _ = rleL (rleL (runStep acc i (i + 1) a) (i + 1) l) _ m
    congr 1
    simp
    omega
theorem step_step (acc : List Rn) (i e f : Int) (a : At) : runStep (runStep acc i e a) e f a = runStep acc i f a := by
  unfold runStep
  cases h : acc.getLast? with
  | none => simp
  | some r =>
    by_cases hr : r.a = a
    · simp [hr]
    · simp [hr]
theorem rle_same (a : At) : ∀ (k : Nat) (acc : List Rn) (i : Int), rleL acc i (List.replicate (k + 1) a) = runStep acc i (i + (k + 1 : Nat)) a
  | 0, acc, i => by
    show rleL (runStep acc i (i + 1) a) (i + 1) [] = _
    rw [rleL]
    rfl
  | k + 1, acc, i => by
    show rleL (runStep acc i (i + 1) a) (i + 1) (List.replicate (k + 1) a) = _
    rw [rle_same a k, step_step]
    congr 1
    omega
theorem look_same (D : List Sp) (m n : Int) (h : ∀ x ∈ D, (x.fr ≤ m ∧ m < x.tt) ↔ (x.fr ≤ n ∧ n < x.tt)) : lookA D m = lookA D n := by
  rw [look_form, look_form]
  have hk : ∀ x ∈ D, ∀ k, kinB m k x = kinB n k x := fun x hx k => by
    unfold kinB covB
    rw [decide_eq_decide.2 (h x hx)]
  have ha : ∀ k, D.any (kinB m k) = D.any (kinB n k) := fun k => by
    rw [Bool.eq_iff_iff, List.any_eq_true, List.any_eq_true]
    exact ⟨fun ⟨x, h1, h2⟩ => ⟨x, h1, by rw [← hk x h1 k]; exact h2⟩, fun ⟨x, h1, h2⟩ => ⟨x, h1, by rw [hk x h1 k]; exact h2⟩⟩
  unfold lookF
  rw [ha, ha, ha, ha, List.filter_congr (fun x hx => hk x hx 5)]
theorem seg_same (D : List Sp) (i : Int) (k : Nat) (h : ∀ x ∈ D, (x.fr ≤ i ∨ i + k ≤ x.fr) ∧ (x.tt ≤ i ∨ i + k ≤ x.tt)) : seg D i k = List.replicate k (lookA D i) := by
  refine List.eq_replicate_iff.2 ⟨seg_len D i k, fun a ha => ?_⟩
  unfold seg at ha
  obtain ⟨j, hj, rfl⟩ := List.mem_map.1 ha
  have hj := List.mem_range.1 hj
  exact look_same D _ _ fun x hx => by have := h x hx; omega
/-- Bounds that rise from one up to n. -/
def UpL (n : Int) : Int → List Int → Prop
  | f, [] => f = n
  | f, t :: l => f < t ∧ UpL n t l
theorem upL_le {n : Int} : ∀ {l : List Int} {f : Int}, UpL n f l → f ≤ n ∧ ∀ t ∈ l, f < t
  | [], f, h => ⟨by have h : f = n := h; omega, fun t ht => by simp at ht⟩
  | t :: l, f, h => by
    have h2 := upL_le h.2
    have h1 := h.1
    exact ⟨by omega, fun z hz => by
      rcases List.mem_cons.1 hz with rfl | hz
      · exact h1
      · have := h2.2 z hz; omega⟩
theorem go_rle (D : List Sp) (n : Int) : ∀ (l : List Int) (f : Int) (acc : List Rn), UpL n f l → (∀ x ∈ D, (x.fr ≤ f ∨ x.fr ∈ l) ∧ (x.tt ≤ f ∨ x.tt ∈ l)) → runGo D acc f l = rleL acc f (seg D f (n - f).toNat)
  | [], f, acc, h, _ => by
    have h : f = n := h
    subst h
    rw [Int.sub_self]
    rfl
  | t :: l, f, acc, h, hx => by
    have h1 := h.1
    have h2 := upL_le h.2
    obtain ⟨k, hk⟩ : ∃ k : Nat, t = f + (k + 1 : Nat) := ⟨(t - f - 1).toNat, by omega⟩
    have e : (n - f).toNat = (k + 1) + (n - t).toNat := by omega
    have es : seg D f (k + 1) = List.replicate (k + 1) (lookA D f) := seg_same D f (k + 1) fun x hx2 => by
      obtain ⟨a1, a2⟩ := hx x hx2
      constructor
      · rcases a1 with a1 | a1
        · exact .inl a1
        · rcases List.mem_cons.1 a1 with a1 | a1
          · right; omega
          · right; have := h2.2 _ a1; omega
      · rcases a2 with a2 | a2
        · exact .inl a2
        · rcases List.mem_cons.1 a2 with a2 | a2
          · right; omega
          · right; have := h2.2 _ a2; omega
    rw [e, seg_add, rle_app, es, rle_same, ← hk, List.length_replicate]
    show runGo D (runStep acc f t (lookA D f)) t l = _
    rw [go_rle D n l t _ h.2 (fun x hx2 => by
      obtain ⟨a1, a2⟩ := hx x hx2
      constructor
      · rcases a1 with a1 | a1
        · left; omega
        · rcases List.mem_cons.1 a1 with a1 | a1
          · left; omega
          · exact .inr a1
      · rcases a2 with a2 | a2
        · left; omega
        · rcases List.mem_cons.1 a2 with a2 | a2
          · left; omega
          · exact .inr a2), hk]
/-- Rising numbers without those that stand twice. -/
theorem compact_up (d : Array Int) (hs : ∀ i j : Nat, i ≤ j → j < d.size → d[i]! ≤ d[j]!) : ∀ (m : Nat), m + 1 ≤ d.size →
    (Lib.compactUpTo d (m + 1)).Pairwise (· < ·) ∧ (∀ z ∈ Lib.compactUpTo d (m + 1), z ≤ d[m]!) ∧ (∀ j, j ≤ m → d[j]! ∈ Lib.compactUpTo d (m + 1)) ∧ (∀ z ∈ Lib.compactUpTo d (m + 1), ∃ j, j ≤ m ∧ z = d[j]!) ∧ (Lib.compactUpTo d (m + 1)).head? = some d[0]!
  | 0, _ => by
    have e : Lib.compactUpTo d (0 + 1) = [d[0]!] := by
      rw [Lib.compactUpTo_succ, Lib.keeps_lt_one d 0 (by omega)]
      rfl
    rw [e]
    refine ⟨List.pairwise_singleton _ _, fun z hz => ?_, fun j hj => ?_, fun z hz => ?_, rfl⟩
    · simp at hz; omega
    · have : j = 0 := by omega
      subst this
      simp
    · simp at hz; exact ⟨0, by omega, hz⟩
  | m + 1, hm => by
    obtain ⟨i1, i2, i3, i4, i5⟩ := compact_up d hs m (by omega)
    rw [Lib.compactUpTo_succ]
    by_cases hk : d[m + 1]! = d[m + 1 - 1]!
    · rw [Lib.keeps_neg (by omega) hk]
      have hk : d[m + 1]! = d[m]! := hk
      rw [if_neg (by simp), List.append_nil]
      refine ⟨i1, fun z hz => by rw [hk]; exact i2 z hz, fun j hj => ?_, fun z hz => ?_, i5⟩
      · by_cases e : j = m + 1
        · rw [e, hk]; exact i3 m (by omega)
        · exact i3 j (by omega)
      · obtain ⟨j, hj, e⟩ := i4 z hz
        exact ⟨j, by omega, e⟩
    · rw [Lib.keeps_pos hk]
      have hk : d[m + 1]! ≠ d[m]! := hk
      have hlt : d[m]! < d[m + 1]! := by have := hs m (m + 1) (by omega) (by omega); omega
      rw [if_pos rfl]
      refine ⟨List.pairwise_append.2 ⟨i1, List.pairwise_singleton _ _, fun a ha b hb => ?_⟩, fun z hz => ?_, fun j hj => ?_, fun z hz => ?_, ?_⟩
      · simp at hb
        have := i2 a ha
        omega
      · rcases List.mem_append.1 hz with hz | hz
        · have := i2 z hz; omega
        · simp at hz; omega
      · by_cases e : j = m + 1
        · rw [e]; simp
        · exact List.mem_append_left _ (i3 j (by omega))
      · rcases List.mem_append.1 hz with hz | hz
        · obtain ⟨j, hj, e⟩ := i4 z hz
          exact ⟨j, by omega, e⟩
        · simp at hz; exact ⟨m + 1, by omega, hz⟩
      · rw [List.head?_append, i5]
        rfl
theorem up_of (n : Int) : ∀ (l : List Int) (f : Int), (f :: l).Pairwise (· < ·) → (∀ z ∈ f :: l, z ≤ n) → n ∈ f :: l → UpL n f l
  | [], f, _, _, h => by
    have : n = f := by simpa using h
    exact this.symm
  | t :: l, f, hp, hle, h => by
    have hp1 := List.pairwise_cons.1 hp
    refine ⟨hp1.1 t (by simp), up_of n l t hp1.2 (fun z hz => hle z (List.mem_cons_of_mem _ hz)) ?_⟩
    rcases List.mem_cons.1 h with e | h
    · have h1 := hp1.1 t (by simp)
      have h2 := hle t (by simp)
      omega
    · exact h
/-- The bounds of right spans. -/
theorem bnd_up (n : Nat) (D : List Sp) (h : ∀ x ∈ D, 0 ≤ x.fr ∧ x.fr < x.tt ∧ x.tt ≤ n) : UpL n 0 (bndM n D) ∧ ∀ x ∈ D, (x.fr ≤ 0 ∨ x.fr ∈ bndM n D) ∧ (x.tt ≤ 0 ∨ x.tt ∈ bndM n D) := by
  have hmem : ∀ z : Int, z ∈ bndS n D ↔ z = 0 ∨ z = n ∨ ∃ x ∈ D, z = x.fr ∨ z = x.tt := fun z => by
    unfold bndS
    rw [List.mem_mergeSort]
    unfold bndL
    simp
  have hsort : (bndS n D).Pairwise fun x y => decide (x ≤ y) = true := by
    unfold bndS
    exact List.pairwise_mergeSort (fun a b c h1 h2 => by simp at *; omega) (fun a b => by simp; omega) _
  have hlen : 2 ≤ (bndS n D).length := by rw [bndS_len]; omega
  have hle : ∀ z ∈ bndS n D, 0 ≤ z ∧ z ≤ n := fun z hz => by
    rcases (hmem z).1 hz with e | e | ⟨x, hx, e⟩
    · omega
    · omega
    · have := h x hx; omega
  generalize hB : bndS n D = B at *
  have hget : ∀ j, j < B.length → B.toArray[j]! ∈ B := fun j hj => by
    have : B.toArray[j]! = B[j] := by simp [hj]
    rw [this]
    exact List.getElem_mem hj
  have hs : ∀ i j : Nat, i ≤ j → j < B.toArray.size → B.toArray[i]! ≤ B.toArray[j]! := fun i j hij hj => by
    have hj2 : j < B.length := by simpa using hj
    by_cases e : i = j
    · subst e; omega
    · have := List.pairwise_iff_getElem.1 hsort i j (by omega) hj2 (by omega)
      simp at this
      simpa [hj2, show i < B.length by omega] using this
  obtain ⟨m, hm⟩ : ∃ m, B.length = m + 1 := ⟨B.length - 1, by omega⟩
  obtain ⟨i1, i2, i3, i4, i5⟩ := compact_up B.toArray hs m (by simp; omega)
  have hC : bndC n D = Lib.compactUpTo B.toArray (m + 1) := by
    unfold bndC Lib.compact
    rw [hB, hm]
  have hCm : ∀ z, z ∈ bndC n D ↔ z ∈ B := fun z => by
    rw [hC]
    constructor
    · intro hz
      obtain ⟨j, hj, e⟩ := i4 z hz
      rw [e]
      exact hget j (by omega)
    · intro hz
      obtain ⟨j, hj, e⟩ := List.getElem_of_mem hz
      have := i3 j (by omega)
      simpa [hj, e] using this
  have h0 : (0 : Int) ∈ bndC n D := (hCm 0).2 ((hmem 0).2 (.inl rfl))
  have hn : (n : Int) ∈ bndC n D := (hCm n).2 ((hmem n).2 (.inr (.inl rfl)))
  rw [← hC] at i1
  have hlec : ∀ z ∈ bndC n D, 0 ≤ z ∧ z ≤ n := fun z hz => hle z ((hCm z).1 hz)
  have hall : ∀ x ∈ D, x.fr ∈ bndC n D ∧ x.tt ∈ bndC n D := fun x hx => ⟨(hCm _).2 ((hmem _).2 (.inr (.inr ⟨x, hx, .inl rfl⟩))), (hCm _).2 ((hmem _).2 (.inr (.inr ⟨x, hx, .inr rfl⟩)))⟩
  unfold bndM
  cases hc : bndC n D with
  | nil => rw [hc] at h0; simp at h0
  | cons f l =>
    rw [hc] at i1 h0 hn hlec hall
    have hf : f = 0 := by
      rcases List.mem_cons.1 h0 with e | e
      · exact e.symm
      · have h1 := (List.pairwise_cons.1 i1).1 0 e
        have h2 := hlec f (by simp)
        omega
    subst hf
    refine ⟨up_of n l 0 i1 (fun z hz => (hlec z hz).2) hn, fun x hx => ?_⟩
    obtain ⟨a1, a2⟩ := hall x hx
    constructor
    · rcases List.mem_cons.1 a1 with e | e
      · left; omega
      · exact .inr e
    · rcases List.mem_cons.1 a2 with e | e
      · left; omega
      · exact .inr e
/-- Runs are the looks of all signs, put together. -/
theorem runs_rle (n : Nat) (D : List Sp) (h : ∀ x ∈ D, 0 ≤ x.fr ∧ x.fr < x.tt ∧ x.tt ≤ n) : runsM n D = rleL [] 0 (seg D 0 n) := by
  obtain ⟨h1, h2⟩ := bnd_up n D h
  unfold runsM
  rw [go_rle D n _ 0 [] h1 h2, show ((n : Int) - 0).toNat = n by omega]
/-- What runs say, sign by sign. -/
def expR (L : List Rn) : List At := L.flatMap fun r => List.replicate (r.tt - r.fr).toNat r.a
theorem exp_step (acc : List Rn) (i : Int) (a : At) (h : ∀ r, acc.getLast? = some r → r.tt = i ∧ r.fr < i) : expR (runStep acc i (i + 1) a) = expR acc ++ [a] ∧ ∀ r, (runStep acc i (i + 1) a).getLast? = some r → r.tt = i + 1 ∧ r.fr < i + 1 := by
  unfold runStep
  cases hl : acc.getLast? with
  | none =>
    have : acc = [] := by simpa using hl
    subst this
    refine ⟨?_, fun r hr => ?_⟩
    · simp [expR, show (i + 1 - i).toNat = 1 by omega]
    · simp at hr; subst hr; simp; omega
  | some r =>
    obtain ⟨h1, h2⟩ := h r hl
    obtain ⟨A, rfl⟩ : ∃ A, acc = A ++ [r] := by
      refine ⟨acc.dropLast, ?_⟩
      have hne : acc ≠ [] := fun e => by rw [e] at hl; simp at hl
      rw [List.getLast?_eq_some_getLast hne] at hl
      have hl := Option.some.inj hl
      rw [← hl, List.dropLast_concat_getLast hne]
    by_cases hr : r.a = a
    · simp only [hr, if_true]
      refine ⟨?_, fun q hq => ?_⟩
      · obtain ⟨k, hk⟩ : ∃ k : Nat, i = r.fr + k := ⟨(i - r.fr).toNat, by omega⟩
        have e1 : (i + 1 - r.fr).toNat = k + 1 := by omega
        have e2 : (r.tt - r.fr).toNat = k := by omega
        simp [expR, e1, e2, hr, List.replicate_succ']
      · simp at hq; subst hq; simp; omega
    · simp only [if_neg hr]
      refine ⟨?_, fun q hq => ?_⟩
      · simp [expR, show (i + 1 - i).toNat = 1 by omega]
      · simp at hq; subst hq; simp; omega
theorem exp_rle : ∀ (l : List At) (acc : List Rn) (i : Int), (∀ r, acc.getLast? = some r → r.tt = i ∧ r.fr < i) → expR (rleL acc i l) = expR acc ++ l
  | [], acc, i, _ => by simp [rleL]
  | a :: l, acc, i, h => by
    obtain ⟨h1, h2⟩ := exp_step acc i a h
    show expR (rleL (runStep acc i (i + 1) a) (i + 1) l) = _
    rw [exp_rle l _ _ h2, h1, List.append_assoc]
    rfl
theorem rle_inj {l m : List At} (h : rleL [] 0 l = rleL [] 0 m) : l = m := by
  have h1 := exp_rle l [] 0 (fun r hr => by simp at hr)
  have h2 := exp_rle m [] 0 (fun r hr => by simp at hr)
  rw [h, h2] at h1
  simpa [expR] using h1.symm
end Go.Proofs.YtjfhlddbkdkjbaaGreatDoor

/- The reference's looks (P0702). -/
namespace Go.Proofs.YtjfhlddbkdkjbaaGreatDoor
open Go.RowKit Go.Shelf
attribute [local go_sem] Oper.semAt_some

/-- The place of the innermost colour so far. -/
def InR (D : List Sp) (i : Nat) (q : Option Sp) (v : Value) : Prop := (q = none ∧ v = .int .i64 (-1)) ∨ ∃ (k : Nat) (y : Sp), k < i ∧ D[k]? = some y ∧ q = some y ∧ v = .int .i64 (k : Nat)
theorem InR.more {D : List Sp} {i : Nat} {q : Option Sp} {v : Value} (h : InR D i q v) : InR D (i + 1) q v := by
  rcases h with h | ⟨k, y, h1, h2⟩
  · exact .inl h
  · exact .inr ⟨k, y, by omega, h2⟩
theorem AtC.but {W V : World} {P g : Nat} {a : At} (h : AtC W P a) (k : But (fun k => k = g) W V) (hne : P ≠ g) : AtC V P a := (k.same P h.lt hne).trans h
theorem tx_but {W V : World} {P g : Nat} {a b : Value} (h : W.heap[P]? = some (.cells #[a, b] 30 (0, 0))) (k : But (fun k => k = g) W V) (hne : P ≠ g) : V.heap[P]? = some (.cells #[a, b] 30 (0, 0)) := (k.same P (Array.getElem?_eq_some_iff.1 h).1 hne).trans h
theorem rst_no {n : Int} {st : At × Option Sp} {x : Sp} (h : ¬ (x.fr ≤ n ∧ n < x.tt)) : rstep n st x = st := by unfold rstep; rw [if_neg h]
theorem rst_1 {n : Int} {st : At × Option Sp} {x : Sp} (h : x.fr ≤ n ∧ n < x.tt) (k : x.kd = 1) : rstep n st x = ({ st.1 with b := true }, st.2) := by unfold rstep; rw [if_pos h, if_pos k]
theorem rst_2 {n : Int} {st : At × Option Sp} {x : Sp} (h : x.fr ≤ n ∧ n < x.tt) (k : x.kd = 2) : rstep n st x = ({ st.1 with i := true }, st.2) := by unfold rstep; rw [if_pos h, if_neg (by omega), if_pos k]
theorem rst_3 {n : Int} {st : At × Option Sp} {x : Sp} (h : x.fr ≤ n ∧ n < x.tt) (k : x.kd = 3) : rstep n st x = ({ st.1 with u := true }, st.2) := by unfold rstep; rw [if_pos h, if_neg (by omega), if_neg (by omega), if_pos k]
theorem rst_4 {n : Int} {st : At × Option Sp} {x : Sp} (h : x.fr ≤ n ∧ n < x.tt) (k : x.kd = 4) : rstep n st x = ({ st.1 with s := true }, st.2) := by unfold rstep; rw [if_pos h, if_neg (by omega), if_neg (by omega), if_neg (by omega), if_pos k]
theorem rst_n {n : Int} {a : At} {x : Sp} (h : x.fr ≤ n ∧ n < x.tt) (k1 : x.kd ≠ 1) (k2 : x.kd ≠ 2) (k3 : x.kd ≠ 3) (k4 : x.kd ≠ 4) : rstep n (a, none) x = ({ a with c := IntKind.i64.wrap (x.vl + 1) }, some x) := by unfold rstep; rw [if_pos h, if_neg k1, if_neg k2, if_neg k3, if_neg k4]
theorem rst_s {n : Int} {a : At} {x y : Sp} (h : x.fr ≤ n ∧ n < x.tt) (k1 : x.kd ≠ 1) (k2 : x.kd ≠ 2) (k3 : x.kd ≠ 3) (k4 : x.kd ≠ 4) : rstep n (a, some y) x = if inB x y = true then ({ a with c := IntKind.i64.wrap (x.vl + 1) }, some x) else (a, some y) := by unfold rstep; rw [if_pos h, if_neg k1, if_neg k2, if_neg k3, if_neg k4]
theorem at_set0 {W : World} {B : Nat} {a : At} (h : AtC W B a) : AtC (W.setCell ⟨B, 0, none⟩ (.bool true)) B { a with b := true } := by
  have h9 := set_atS h 0 (.bool true)
  first | exact h9 | (simpa [AtC] using h9)
theorem at_set1 {W : World} {B : Nat} {a : At} (h : AtC W B a) : AtC (W.setCell ⟨B, 1, none⟩ (.bool true)) B { a with i := true } := by
  have h9 := set_atS h 1 (.bool true)
  first | exact h9 | (simpa [AtC] using h9)
theorem at_set2 {W : World} {B : Nat} {a : At} (h : AtC W B a) : AtC (W.setCell ⟨B, 2, none⟩ (.bool true)) B { a with u := true } := by
  have h9 := set_atS h 2 (.bool true)
  first | exact h9 | (simpa [AtC] using h9)
theorem at_set3 {W : World} {B : Nat} {a : At} (h : AtC W B a) : AtC (W.setCell ⟨B, 3, none⟩ (.bool true)) B { a with s := true } := by
  have h9 := set_atS h 3 (.bool true)
  first | exact h9 | (simpa [AtC] using h9)
theorem at_set4 {W : World} {B : Nat} {a : At} (h : AtC W B a) (v : Int) : AtC (W.setCell ⟨B, 4, none⟩ (.int .i64 v)) B { a with c := v } := by
  have h9 := set_atS h 4 (.int .i64 v)
  first | exact h9 | (simpa [AtC] using h9)
theorem at_all {W : World} {B : Nat} {a : At} (h : AtC W B a) {b0 b1 b2 b3 : Bool} {c4 : Int} : AtC (((((W.setCell ⟨B, 0, none⟩ (.bool b0)).setCell ⟨B, 1, none⟩ (.bool b1)).setCell ⟨B, 2, none⟩ (.bool b2)).setCell ⟨B, 3, none⟩ (.bool b3)).setCell ⟨B, 4, none⟩ (.int .i64 c4)) B ⟨b0, b1, b2, b3, c4⟩ := by
  have h9 := set_atS (set_atS (set_atS (set_atS (set_atS h 0 (.bool b0)) 1 (.bool b1)) 2 (.bool b2)) 3 (.bool b3)) 4 (.int .i64 c4)
  first | exact h9 | (simpa [AtC] using h9)
set_option maxRecDepth 100000 in
set_option maxHeartbeats 4000000 in
theorem rlooks_any (s : ByteArray) (D : List Sp) (oa : Option Addr) (ca : Nat) (n : Int) (hl : D.length ≤ 5000) (w : World) (hR : SpO w oa D) :
    Calls Tryz.prog 52 #[.agg #[.string s, .slice oa D.length ca], .int .i64 n] w fun e w' => e = .returned (rfoldA D n).1.val ∧ Below w.heap.size w w' := by
  obtain ⟨N, hN⟩ : ∃ N, D.length = N := ⟨_, rfl⟩
  have HN := hideS (And.intro hN hR)
  rw [hN] at hl ⊢
  obtain ⟨RA, hRA⟩ : ∃ RA, (rfoldA D n).1 = RA := ⟨_, rfl⟩
  rw [hRA]
  have HRA := hideS hRA
  clear hN hR hRA
  go_enter Tryz.func52, Tryz.ntmps52
  go_wp2_with fail
  obtain ⟨A, hA⟩ : ∃ A, w.heap.size + 1 + 1 = A := ⟨_, rfl⟩
  obtain ⟨W0, hW0⟩ : ∃ W0, ((w.alloc (.cells #[.string s, .slice oa N ca] 30)).alloc (.cells #[.bool false, .bool false, .bool false, .bool false, .int .i64 0] 25)).alloc (.cells #[.bool false, .bool false, .bool false, .bool false, .int .i64 0] 25) = W0 := ⟨_, rfl⟩
  have t0 : W0.heap[w.heap.size]? = some (.cells #[.string s, .slice oa N ca] 30 (0, 0)) := by
    rw [← hW0]
    exact ((bel1S _ _).block _ (by simp; omega)).trans (((bel1S _ _).block _ (by simp)).trans (World.alloc_heap_new w _))
  have t1 : AtC W0 (w.heap.size + 1) at0 := by
    rw [← hW0]
    have h9 := atc_new (w.alloc (.cells #[.string s, .slice oa N ca] 30))
    rw [World.size_alloc] at h9
    exact h9.keep (bel1S _ _)
  have t2 : AtC W0 A at0 := by
    rw [← hW0, ← hA]
    have h9 := atc_new ((w.alloc (.cells #[.string s, .slice oa N ca] 30)).alloc (.cells #[.bool false, .bool false, .bool false, .bool false, .int .i64 0] 25))
    rw [World.size_alloc, World.size_alloc] at h9
    exact h9
  have b0 : Below w.heap.size w W0 := by rw [← hW0]; exact bupS (bel1S _ _) (bupS (bel1S _ _) (bel1S _ _))
  have HW := hideS (And.intro t0 (And.intro t1 (And.intro t2 b0)))
  clear t0 t1 t2 b0
  rw [hW0, hA]
  clear hW0
  go_loopw [6, 7] (fun inv iv wq => ∃ i : Nat, iv = .int .i64 (i : Nat) ∧ i ≤ N ∧ InR D i (rfoldA (D.take i) n).2 inv ∧ AtC wq A (rfoldA (D.take i) n).1 ∧ But (fun k => k = A) W0 wq) (fun _ iv _ => N - (intOf iv).toNat)
  case atStart => exact ⟨0, rfl, Nat.zero_le _, .inl ⟨rfl, rfl⟩, HW.out.2.2.1, But.refl _ _⟩
  case round =>
    obtain ⟨i, rfl, hiN, hin, hat, hb⟩ := hrel
    obtain ⟨wq, rfl⟩ : ∃ wq, wq = wr := ⟨_, rfl⟩
    have hAw : w.heap.size < A := by omega
    have bw : Below w.heap.size w wq := HW.out.2.2.2.trans (hb.below HW.out.2.2.2.size (fun k e => by omega))
    have tq := tx_but HW.out.1 hb (by omega)
    obtain ⟨k0, k1⟩ := tx_text tq
    by_cases hlt : i < N
    · obtain ⟨x, hx⟩ : ∃ x, D[i]? = some x := ⟨_, List.getElem?_eq_getElem (by rw [HN.out.1]; exact hlt)⟩
      obtain ⟨a, rfl, hab, c0, c1, c2, c3⟩ := HN.out.2.keep bw i x hx
      have d1 : (i : Int) < (N : Int) := by omega
      have wi : IntKind.i64.wrap ((i : Int) + 1) = ((i + 1 : Nat) : Int) := by rw [show ((i + 1 : Nat) : Int) = (i : Int) + 1 by omega]; exact IntWalk.i64_in _ ⟨by omega, by omega⟩
      have hst : rfoldA (D.take (i + 1)) n = rstep n (rfoldA (D.take i) n) x := by rw [List.take_add_one, hx]; exact rfold_snoc _ _ _
      obtain ⟨st, hst0⟩ : ∃ st, rfoldA (D.take i) n = st := ⟨_, rfl⟩
      rw [hst0] at hst hin hat
      obtain ⟨sa, sq⟩ := st
      simp only at hin hat
      obtain ⟨V, hV⟩ : ∃ V, wq.alloc (.cells #[.int .i64 x.fr, .int .i64 x.tt, .int .i64 x.kd, .int .i64 x.vl] 44) = V := ⟨_, rfl⟩
      have bV : Below wq.heap.size wq V := by rw [← hV]; exact bel1S _ _
      have nV : V.heap[wq.heap.size]? = some (.cells #[.int .i64 x.fr, .int .i64 x.tt, .int .i64 x.kd, .int .i64 x.vl] 44) := by rw [← hV]; exact World.alloc_heap_new wq _
      have s0 : V.cell? ⟨wq.heap.size, 0, none⟩ = some (.int .i64 x.fr) := by simp [World.cell?, nV]
      have s1 : V.cell? ⟨wq.heap.size, 1, none⟩ = some (.int .i64 x.tt) := by simp [World.cell?, nV]
      have s2 : V.cell? ⟨wq.heap.size, 2, none⟩ = some (.int .i64 x.kd) := by simp [World.cell?, nV]
      have s3 : V.cell? ⟨wq.heap.size, 3, none⟩ = some (.int .i64 x.vl) := by simp [World.cell?, nV]
      have hxl : wq.heap.size < V.heap.size := (Array.getElem?_eq_some_iff.1 nV).1
      have hAt := hat.keep bV
      have HA := hideS (And.intro hAt (And.intro hst (And.intro (hb.below_trans bV) (And.intro hin (And.intro hx ((HN.out.2.keep bw).keep bV))))))
      have tV := (bV.block w.heap.size (Array.getElem?_eq_some_iff.1 tq).1).trans tq
      obtain ⟨v0, v1⟩ := tx_text tV
      have hAl := hAt.lt
      have htl : w.heap.size < V.heap.size := (Array.getElem?_eq_some_iff.1 tV).1
      clear hst hst0 hb hx bV nV tq tV hat bw
      go_upto_region 7 with fail
      try rw [hV]
      clear hV c0 c1 c2 c3 k0 k1
      have done9 : Hid (∀ (v : Value) (W : World), InR D (i + 1) (rstep n (sa, sq) x).2 v → AtC W A (rstep n (sa, sq) x).1 → But (fun k => k = A) W0 W → ∃ i' : Nat, (Value.int .i64 ((i + 1 : Nat) : Int)) = .int .i64 (i' : Nat) ∧ i' ≤ N ∧ InR D i' (rfoldA (D.take i') n).2 v ∧ AtC W A (rfoldA (D.take i') n).1 ∧ But (fun k => k = A) W0 W) := hideS (fun v W h1 h2 h3 => ⟨i + 1, rfl, by omega, by rw [HA.out.2.1]; exact h1, by rw [HA.out.2.1]; exact h2, h3⟩)
      by_cases hcv : x.fr ≤ n ∧ n < x.tt
      · have h1 : ¬ n < x.fr := by omega
        have h2 : ¬ x.tt ≤ n := by omega
        obtain ⟨g0, g1, g2, g3, g4⟩ := hAt.free
        obtain ⟨a0, a1, a2, a3, a4⟩ := hAt.five
        clear hAt
        by_cases e1 : x.kd = 1
        · have q1 : (x.kd == 1) = true := by simp [e1]
          go_wp2_with fail
          go_roundw
          case rel => exact done9.out _ _ (by rw [rst_1 hcv e1]; exact HA.out.2.2.2.1.more) (by rw [rst_1 hcv e1]; exact at_set0 HA.out.1) (HA.out.2.2.1.setCell (p := ⟨A, 0, none⟩) rfl _)
          case measure => simp [intOf]; omega
        have q1 : (x.kd == 1) = false := by simpa using e1
        by_cases e2 : x.kd = 2
        · have q2 : (x.kd == 2) = true := by simp [e2]
          go_wp2_with fail
          go_roundw
          case rel => exact done9.out _ _ (by rw [rst_2 hcv e2]; exact HA.out.2.2.2.1.more) (by rw [rst_2 hcv e2]; exact at_set1 HA.out.1) (HA.out.2.2.1.setCell (p := ⟨A, 1, none⟩) rfl _)
          case measure => simp [intOf]; omega
        have q2 : (x.kd == 2) = false := by simpa using e2
        by_cases e3 : x.kd = 3
        · have q3 : (x.kd == 3) = true := by simp [e3]
          go_wp2_with fail
          go_roundw
          case rel => exact done9.out _ _ (by rw [rst_3 hcv e3]; exact HA.out.2.2.2.1.more) (by rw [rst_3 hcv e3]; exact at_set2 HA.out.1) (HA.out.2.2.1.setCell (p := ⟨A, 2, none⟩) rfl _)
          case measure => simp [intOf]; omega
        have q3 : (x.kd == 3) = false := by simpa using e3
        by_cases e4 : x.kd = 4
        · have q4 : (x.kd == 4) = true := by simp [e4]
          go_wp2_with fail
          go_roundw
          case rel => exact done9.out _ _ (by rw [rst_4 hcv e4]; exact HA.out.2.2.2.1.more) (by rw [rst_4 hcv e4]; exact at_set3 HA.out.1) (HA.out.2.2.1.setCell (p := ⟨A, 3, none⟩) rfl _)
          case measure => simp [intOf]; omega
        have q4 : (x.kd == 4) = false := by simpa using e4
        obtain ⟨vc, hvc⟩ : ∃ vc, IntKind.i64.wrap (x.vl + 1) = vc := ⟨_, rfl⟩
        have u0 : ∀ q : GrownQ V, q.V.cell? ⟨wq.heap.size, 0, none⟩ = some (.int .i64 x.fr) := fun q => (q.h.cell (p := ⟨wq.heap.size, 0, none⟩) hxl).trans s0
        have u1 : ∀ q : GrownQ V, q.V.cell? ⟨wq.heap.size, 1, none⟩ = some (.int .i64 x.tt) := fun q => (q.h.cell (p := ⟨wq.heap.size, 1, none⟩) hxl).trans s1
        have u2 : ∀ q : GrownQ V, q.V.cell? ⟨wq.heap.size, 2, none⟩ = some (.int .i64 x.kd) := fun q => (q.h.cell (p := ⟨wq.heap.size, 2, none⟩) hxl).trans s2
        have u3 : ∀ q : GrownQ V, q.V.cell? ⟨wq.heap.size, 3, none⟩ = some (.int .i64 x.vl) := fun q => (q.h.cell (p := ⟨wq.heap.size, 3, none⟩) hxl).trans s3
        have z1 : ∀ q : GrownQ V, q.V.cell? ⟨w.heap.size, 1, none⟩ = some (.slice (some a) N ca) := fun q => (q.h.cell (p := ⟨w.heap.size, 1, none⟩) htl).trans v1
        have HIn := hideS HA.out.2.2.2.1
        rcases hin with ⟨hq, rfl⟩ | ⟨k, y, hk, hky, hq, rfl⟩
        · have e9 := rst_n (a := sa) hcv e1 e2 e3 e4
          rw [hvc] at e9
          have HE := hideS e9
          have neg1 : ((-1 : Int) < 0) = True := by simp
          clear e9
          go_upto_region 9 with fail
          refine region_grown V V (by kernel_rfl) (by kernel_rfl) (Below.refl _ _) ?_
          repeat (go_big_quiet_step (fail))
          refine wpQuiet_nil ?_
          rintro W3 ⟨⟨V3, hb3⟩, hv3⟩
          have hv3 : W3 = V3 := hv3
          subst hv3
          have H5 := hideS (And.intro (HA.out.1.keep hb3) (HA.out.2.2.1.below_trans hb3))
          have r3 : W3.cell? ⟨wq.heap.size, 3, none⟩ = some (.int .i64 x.vl) := (hb3.cell (p := ⟨wq.heap.size, 3, none⟩) hxl).trans s3
          obtain ⟨g0, g1, g2, g3, g4⟩ := H5.out.1.free
          obtain ⟨a0, a1, a2, a3, a4⟩ := H5.out.1.five
          clear hv3 hb3 z1 u0 u1 u2 u3
          go_wp2_with fail
          go_roundw
          case rel =>
            subst hq
            exact done9.out _ _ (by rw [HE.out]; exact .inr ⟨i, x, by omega, HA.out.2.2.2.2.1, rfl, rfl⟩) (by rw [HE.out]; exact at_set4 H5.out.1 vc) (H5.out.2.setCell (p := ⟨A, 4, none⟩) rfl _)
          case measure => simp [intOf]; omega
        · have e9 := rst_s (a := sa) (y := y) hcv e1 e2 e3 e4
          rw [hvc] at e9
          have HF := hideS (fun W => rwithin_any x y W)
          unfold Sp.val at HF
          obtain ⟨gi, hgi⟩ : ∃ g, inB x y = g := ⟨_, rfl⟩
          rw [hgi] at HF e9
          have HE := hideS e9
          obtain ⟨ad, had, hak, y0, y1, y2, y3⟩ := HA.out.2.2.2.2.2 k y hky
          obtain rfl : a = ad := by simpa using had
          have hak : (a.add (k * 4)).block < V.heap.size := by rw [addrS_block]; exact hak
          have n1 : ¬ ((k : Int) < 0) := by omega
          have n2 : (k : Int) < (N : Int) := by omega
          have n3 : (0 : Int) ≤ (k : Int) := by omega
          have p0 : ∀ q : GrownQ V, q.V.cell? (a.add (k * 4)) = some (.int .i64 y.fr) := fun q => (q.h.cell hak).trans y0
          have p1 : ∀ q : GrownQ V, q.V.cell? ⟨(a.add (k * 4)).block, (a.add (k * 4)).off + 1, none⟩ = some (.int .i64 y.tt) := fun q => (q.h.cell (p := ⟨(a.add (k * 4)).block, _, none⟩) hak).trans y1
          have p2 : ∀ q : GrownQ V, q.V.cell? ⟨(a.add (k * 4)).block, (a.add (k * 4)).off + 2, none⟩ = some (.int .i64 y.kd) := fun q => (q.h.cell (p := ⟨(a.add (k * 4)).block, _, none⟩) hak).trans y2
          have p3 : ∀ q : GrownQ V, q.V.cell? ⟨(a.add (k * 4)).block, (a.add (k * 4)).off + 3, none⟩ = some (.int .i64 y.vl) := fun q => (q.h.cell (p := ⟨(a.add (k * 4)).block, _, none⟩) hak).trans y3
          clear e9 hgi y0 y1 y2 y3 had
          go_upto_region 9 with fail
          refine region_grown V V (by kernel_rfl) (by kernel_rfl) (Below.refl _ _) ?_
          repeat (go_big_quiet_step (first
            | (go_at_call 71; rename_i q; (with_reducible refine (HF.out _).mono ?_); rintro e V1 ⟨rfl, h1⟩; exact ⟨rfl, ⟨V1, q.h.trans (h1.mono q.h.size)⟩, rfl⟩)))
          refine wpQuiet_nil ?_
          rintro W3 ⟨⟨V3, hb3⟩, hv3⟩
          have hv3 : W3 = V3 := hv3
          subst hv3
          have H5 := hideS (And.intro (HA.out.1.keep hb3) (HA.out.2.2.1.below_trans hb3))
          have r3 : W3.cell? ⟨wq.heap.size, 3, none⟩ = some (.int .i64 x.vl) := (hb3.cell (p := ⟨wq.heap.size, 3, none⟩) hxl).trans s3
          obtain ⟨g0, g1, g2, g3, g4⟩ := H5.out.1.free
          obtain ⟨a0, a1, a2, a3, a4⟩ := H5.out.1.five
          clear hv3 hb3 z1 u0 u1 u2 u3 p0 p1 p2 p3 HF
          cases gi with
          | true =>
            go_wp2_with fail
            go_roundw
            case rel =>
              subst hq
              exact done9.out _ _ (by rw [HE.out, if_pos rfl]; exact .inr ⟨i, x, by omega, HA.out.2.2.2.2.1, rfl, rfl⟩) (by rw [HE.out, if_pos rfl]; exact at_set4 H5.out.1 vc) (H5.out.2.setCell (p := ⟨A, 4, none⟩) rfl _)
            case measure => simp [intOf]; omega
          | false =>
            go_wp2_with fail
            go_roundw
            case rel =>
              subst hq
              exact done9.out _ _ (by rw [HE.out, if_neg (by simp)]; exact .inr ⟨k, y, by omega, hky, rfl, rfl⟩) (by rw [HE.out, if_neg (by simp)]; exact H5.out.1) H5.out.2
            case measure => simp [intOf]; omega
      · have e9 := rst_no (st := (sa, sq)) hcv
        have HE := hideS e9
        clear e9
        by_cases h1 : n < x.fr
        · go_wp2_with fail
          go_roundw
          case rel => exact done9.out _ _ (by rw [HE.out]; exact HA.out.2.2.2.1.more) (by rw [HE.out]; exact HA.out.1) HA.out.2.2.1
          case measure => simp [intOf]; omega
        · have h2 : x.tt ≤ n := by omega
          go_wp2_with fail
          go_roundw
          case rel => exact done9.out _ _ (by rw [HE.out]; exact HA.out.2.2.2.1.more) (by rw [HE.out]; exact HA.out.1) HA.out.2.2.1
          case measure => simp [intOf]; omega
    · have d1 : ¬ (i : Int) < (N : Int) := by omega
      rw [List.take_of_length_le (by rw [HN.out.1]; omega), HRA.out] at hat
      have t7 := HW.out.2.1.but hb (by omega)
      obtain ⟨g0, g1, g2, g3, g4⟩ := t7.free
      obtain ⟨b0, b1, b2, b3, b4⟩ := t7.five
      obtain ⟨a0, a1, a2, a3, a4⟩ := hat.five
      obtain ⟨RA0, RA1, RA2, RA3, RA4⟩ := RA
      simp only at a0 a1 a2 a3 a4
      obtain ⟨WX, hWX⟩ : ∃ WX, ((((wq.setCell ⟨w.heap.size + 1, 0, none⟩ (.bool RA0)).setCell ⟨w.heap.size + 1, 1, none⟩ (.bool RA1)).setCell ⟨w.heap.size + 1, 2, none⟩ (.bool RA2)).setCell ⟨w.heap.size + 1, 3, none⟩ (.bool RA3)).setCell ⟨w.heap.size + 1, 4, none⟩ (.int .i64 RA4) = WX := ⟨_, rfl⟩
      have t9 : AtC WX (w.heap.size + 1) ⟨RA0, RA1, RA2, RA3, RA4⟩ := by
        rw [← hWX]
        exact at_all t7
      have bX : Below w.heap.size w WX := by
        rw [← hWX]
        exact ((((bw.setCell (p := ⟨w.heap.size + 1, 0, none⟩) (Nat.le_succ _) _).setCell (p := ⟨w.heap.size + 1, 1, none⟩) (Nat.le_succ _) _).setCell (p := ⟨w.heap.size + 1, 2, none⟩) (Nat.le_succ _) _).setCell (p := ⟨w.heap.size + 1, 3, none⟩) (Nat.le_succ _) _).setCell (p := ⟨w.heap.size + 1, 4, none⟩) (Nat.le_succ _) _
      have HX := hideS bX
      clear hin hat hb bw tq t7 bX HRA
      go_wp2_with fail
      try rw [hWX]
      obtain ⟨r0, r1, r2, r3, r4⟩ := t9.five
      exact bodyPost_ret (v := .agg #[.bool RA0, .bool RA1, .bool RA2, .bool RA3, .int .i64 RA4]) (by simp [results, Tryz.results52, go_sem, r0, r1, r2, r3, r4]) rfl ⟨rfl, HX.out⟩
end Go.Proofs.YtjfhlddbkdkjbaaGreatDoor

/- style.Runs at every text (chapter 7). -/
namespace Go.Proofs.YtjfhlddbkdkjbaaGreatDoor
open Go.RowKit Go.Shelf
attribute [local go_sem] Oper.semAt_some

/-- The answer of Runs in memory. -/
def RunAns (w : World) (s : ByteArray) (D : List Sp) (e : Ending) (w' : World) : Prop :=
  Below w.heap.size w w' ∧ ((chkT s D ≠ 0 ∧ e = .returned (.tuple #[.slice none 0 0, .int .i64 (chkT s D)])) ∨
    (chkT s D = 0 ∧ ∃ v, e = .returned (.tuple #[v, .int .i64 0]) ∧ w'.ownsRow w.heap.size 27 7 v (runsM (signs s).length (isort ltS D)).length (flat7 (runsM (signs s).length (isort ltS D)))))
theorem chkT_few {s : ByteArray} {D : List Sp} (h : chkT s D = 0) : s.size ≤ 4096 ∧ D.length ≤ 256 := by
  unfold chkT at h
  by_cases h1 : 4096 < s.size
  · rw [if_pos h1] at h; omega
  · rw [if_neg h1] at h
    by_cases h2 : 256 < D.length
    · rw [if_pos h2] at h; omega
    · omega
set_option maxRecDepth 100000 in
set_option maxHeartbeats 2000000 in
theorem runs_any (s : ByteArray) (D : List Sp) (oa : Option Addr) (ca : Nat) (hs : s.size ≤ 140737488355328) (hca : D.length ≤ ca ∧ ca ≤ maxLen) (hna : oa = none → D = [] ∧ ca = 0) (w : World) (hRa : SpO w oa D) :
    Calls Tryz.prog 18 #[.agg #[.string s, .slice oa D.length ca]] w (RunAns w s D) := by
  have HC1 := hideS (fun (W : World) (h : Below w.heap.size w W) => check7_any s D oa ca hs hca hna W (hRa.keep h))
  have HCt := hideS (fun (W : World) => count7_any s W hs)
  obtain ⟨c1, hc1⟩ : ∃ c, chkT s D = c := ⟨_, rfl⟩
  obtain ⟨n, hn⟩ : ∃ n, (signs s).length = n := ⟨_, rfl⟩
  obtain ⟨ND, hND⟩ : ∃ ND, D.length = ND := ⟨_, rfl⟩
  have HX := hideS (And.intro hc1 (And.intro hn hND))
  have HY := hideS (And.intro hRa (And.intro hna hca))
  rw [hc1, hND] at HC1
  rw [hn] at HCt
  obtain ⟨PO, hPO⟩ : ∃ PO : Ending → World → Prop, PO = RunAns w s D := ⟨_, rfl⟩
  rw [← hPO, hND]
  have HPO := hideS hPO
  clear hPO hRa hna hca hc1 hn hND
  go_enter Tryz.func18, Tryz.ntmps18
  go_wp2_with fail
  obtain ⟨W0, hW0⟩ : ∃ W0, w.alloc (.cells #[.string s, .slice oa ND ca] 30) = W0 := ⟨_, rfl⟩
  have n0 : W0.heap[w.heap.size]? = some (.cells #[.string s, .slice oa ND ca] 30 (0, 0)) := by rw [← hW0]; exact World.alloc_heap_new w _
  have b0 : Below w.heap.size w W0 := by rw [← hW0]; exact bel1S _ _
  rw [hW0]
  have H0 := hideS (And.intro n0 b0)
  clear hW0 n0 b0
  refine (HC1.out W0 H0.out.2).mono ?_
  rintro e w1 ⟨rfl, b1⟩
  have hl0 : w.heap.size < W0.heap.size := (Array.getElem?_eq_some_iff.1 H0.out.1).1
  have n1 := (b1.block w.heap.size hl0).trans H0.out.1
  have H1 := hideS (And.intro n1 (bupS H0.out.2 b1))
  clear n1 b1 H0 HC1 hl0
  by_cases e1 : c1 = 0
  · subst e1
    have hf := chkT_few HX.out.1
    have hf2 : ND ≤ 256 := by have := hf.2; rw [HX.out.2.2] at this; exact this
    have hl1 : w.heap.size < w1.heap.size := (Array.getElem?_eq_some_iff.1 H1.out.1).1
    have k0 : w1.cell? ⟨w.heap.size, 0, none⟩ = some (.string s) := by have h9 := H1.out.1; simp [World.cell?, h9]
    have k1 : w1.cell? ⟨w.heap.size, 1, none⟩ = some (.slice oa ND ca) := by have h9 := H1.out.1; simp [World.cell?, h9]
    have HOu := hideS (fun (W : World) (h : Below w.heap.size w W) => outer_any D oa ca (by rw [HX.out.2.2]; omega) HY.out.2.1 W (HY.out.1.keep h))
    have hIl : (isort ltS D).length = ND := by rw [isort_length, HX.out.2.2]
    have HRu := hideS (fun (W : World) (o : Option Addr) (c : Nat) (hc : ND ≤ c ∧ c ≤ maxLen) (hR : SpO W o (isort ltS D)) => runsOf_any (isort ltS D) o c (n : Nat) (by omega) (by rw [hIl]; exact hc) W hR)
    rw [HX.out.2.2] at HOu
    rw [hIl] at HRu
    clear hIl
    go_upto_region 4 with fail
    go_region_held3 (fun w' => w'.cell? ⟨w.heap.size, 0, none⟩ = some (.string s) ∧ w'.cell? ⟨w.heap.size, 1, none⟩ = some (.slice oa ND ca)) (first | go_keep | assumption | exact kA9 | exact kB9 | exact kC9) (first
      | (go_at_call 21; (with_reducible refine (HCt.out _).mono ?_); rintro e wA ⟨rfl, bA⟩; have bA : Below w1.heap.size w1 wA := (by first | exact ⟨bA.os, bA.tape, bA.output, bA.size, bA.block⟩ | exact bA); have kA9 : wA.cell? ⟨w.heap.size, 0, none⟩ = some (.string s) ∧ wA.cell? ⟨w.heap.size, 1, none⟩ = some (.slice oa ND ca) := ⟨(bA.cell (p := ⟨w.heap.size, 0, none⟩) hl1).trans k0, (bA.cell (p := ⟨w.heap.size, 1, none⟩) hl1).trans k1⟩; have HbA := hideS bA; clear bA)
      | (go_at_call 33; (with_reducible refine (HOu.out _ (bupS H1.out.2 HbA.out)).mono ?_); rintro e wB ⟨o2, cp2, rfl, hc2, _, _, hR2, bB⟩; have bB : Below w1.heap.size w1 wB := bupS HbA.out bB; have kB9 : wB.cell? ⟨w.heap.size, 0, none⟩ = some (.string s) ∧ wB.cell? ⟨w.heap.size, 1, none⟩ = some (.slice oa ND ca) := ⟨(bB.cell (p := ⟨w.heap.size, 0, none⟩) hl1).trans k0, (bB.cell (p := ⟨w.heap.size, 1, none⟩) hl1).trans k1⟩; have HbB := hideS (And.intro bB hR2); clear bB hR2)
      | (go_at_call 32; (with_reducible refine (HRu.out _ o2 cp2 hc2 HbB.out.2).mono ?_); rintro e wC ⟨v3, rfl, own3, bC⟩; have own3 := own_from own3 (show w.heap.size ≤ _ from Nat.le_trans H1.out.2.size HbB.out.1.size); have bC : Below w1.heap.size w1 wC := bupS HbB.out.1 bC; have kC9 : wC.cell? ⟨w.heap.size, 0, none⟩ = some (.string s) ∧ wC.cell? ⟨w.heap.size, 1, none⟩ = some (.slice oa ND ca) := ⟨(bC.cell (p := ⟨w.heap.size, 0, none⟩) hl1).trans k0, (bC.cell (p := ⟨w.heap.size, 1, none⟩) hl1).trans k1⟩; have HbC := hideS (And.intro bC own3); clear bC own3))
    all_goals
      go_wp2_with fail
      rw [HPO.out]
      refine ⟨bupS H1.out.2 HbC.out.1, .inr ⟨HX.out.1, v3, rfl, ?_⟩⟩
      rw [HX.out.2.1]
      exact HbC.out.2
  · have e1b : (c1 != 0) = true := by simpa using e1
    go_wp2_with fail
    rw [HPO.out]
    refine ⟨H1.out.2, .inl ⟨by rw [HX.out.1]; exact e1, ?_⟩⟩
    rw [HX.out.1]
    rfl
end Go.Proofs.YtjfhlddbkdkjbaaGreatDoor

/- The head of the statements of chapter 7: its first example. -/
namespace Go.Proofs.YtjfhlddbkdkjbaaGreatDoor
open Go.RowKit Go.Shelf
attribute [local go_sem] Oper.semAt_some

def hdS : ByteArray := ⟨#[97, 98, 99, 100]⟩
def hdU : ByteArray := ⟨#[120]⟩
def hdD : List Sp := [⟨0, 4, 1, 0⟩, ⟨1, 3, 2, 0⟩]
theorem hd_sort : isort ltS hdD = hdD := by first | rfl | kernel_rfl | decide
theorem hd_cross : crB hdD = false := by unfold crB; rw [hd_sort]; first | rfl | kernel_rfl | decide
theorem hd_signs : (signs hdS).length = 4 := by kernel_rfl
theorem hd_check : chkT hdS hdD = 0 := by
  unfold chkT
  rw [hd_cross, hd_signs]
  kernel_rfl
theorem hd_checku : chkT hdU [] = 0 := by kernel_rfl
theorem hd_bnds : bndS 4 hdD = [0, 0, 1, 3, 4, 4] := by
  unfold bndS
  simp [bndL, hdD, List.mergeSort]
theorem hd_runs : runsM 4 hdD = [⟨0, 1, ⟨true, false, false, false, 0⟩⟩, ⟨1, 3, ⟨true, true, false, false, 0⟩⟩, ⟨3, 4, ⟨true, false, false, false, 0⟩⟩] := by
  unfold runsM bndM bndC
  rw [hd_bnds]
  kernel_rfl
theorem hd_glue : glueM [cutM hdS 0 1, hdU, cutM hdS 1 4] = (⟨#[97, 120, 98, 99, 100]⟩, 0) := by kernel_rfl
theorem hd_splice : splM hdS hdD 1 1 hdU [] = (0, ⟨#[97, 120, 98, 99, 100]⟩, [⟨0, 5, 1, 0⟩, ⟨2, 4, 2, 0⟩]) := by
  unfold splM
  rw [hd_check, hd_checku, hd_sort, hd_signs]
  have e1 : (1 : Int).toNat = 1 := rfl
  rw [e1, hd_glue, if_neg (by simp), if_neg (by simp), if_neg (by simp [betB]), if_neg (by simp)]
  have e2 : aroundM 1 1 ((signs hdU).length : Nat) hdD ++ List.map (mvS 1) [] = [⟨0, 5, 1, 0⟩, ⟨2, 4, 2, 0⟩] := by kernel_rfl
  rw [e2, if_neg (by simp)]
theorem hd_run_eq (W : World) : (binOp .eql 27 (.agg #[.int .i64 1, .int .i64 3, .bool true, .bool true, .bool false, .bool false, .int .i64 0]) (.agg #[.int .i64 1, .int .i64 3, .bool true, .bool true, .bool false, .bool false, .int .i64 0])).run Tryz.prog W = .ok (.bool true) W := by kernel_rfl
theorem run_guard : Tryz.prog.eqGuardType Tryz.prog.depth 27 = false := by kernel_rfl
set_option maxRecDepth 100000 in
set_option maxHeartbeats 4000000 in
theorem head7 (w : World) (hw : 2 ≤ w.heap.size) (hT : Lib.Utf8Tabs 0 1 w) : Calls Tryz.prog 6 #[] w fun e w' => e = .returned (.bool true) ∧ Below w.heap.size w w' := by
  have HT := hideS hT
  clear hT
  go_enter Tryz.func6, Tryz.ntmps6
  go_wp2_with fail
  obtain ⟨W0, hW0⟩ : ∃ W0, (w.alloc (.cells #[.int .i64 0, .int .i64 4, .int .i64 1, .int .i64 0, .int .i64 1, .int .i64 3, .int .i64 2, .int .i64 0] 44)).alloc (.cells #[.string ⟨#[97, 98, 99, 100]⟩, .slice (some ⟨w.heap.size, 0, none⟩) 2 2] 30) = W0 := ⟨_, rfl⟩
  have n0 : W0.heap[w.heap.size]? = some (.cells #[.int .i64 0, .int .i64 4, .int .i64 1, .int .i64 0, .int .i64 1, .int .i64 3, .int .i64 2, .int .i64 0] 44 (0, 0)) := by rw [← hW0]; exact (Below.heap_alloc _ _ _ (by simp)).trans (World.alloc_heap_new w _)
  have n1 : Tx W0 (w.heap.size + 1) (.string ⟨#[97, 98, 99, 100]⟩) (.slice (some ⟨w.heap.size, 0, none⟩) 2 2) := by
    rw [← hW0]
    have h9 := Tx.new (w.alloc (.cells #[.int .i64 0, .int .i64 4, .int .i64 1, .int .i64 0, .int .i64 1, .int .i64 3, .int .i64 2, .int .i64 0] 44)) (.string ⟨#[97, 98, 99, 100]⟩) (.slice (some ⟨w.heap.size, 0, none⟩) 2 2)
    rw [World.size_alloc] at h9
    exact h9
  have b0 : Below w.heap.size w W0 := by rw [← hW0]; exact bupS (bel1S _ _) (bel1S _ _)
  have sp0 : SpO W0 (some ⟨w.heap.size, 0, none⟩) hdD := SC.spo ⟨_, n0, rfl, fun i p hp => by
    match i, hp with
    | 0, hp =>
      obtain rfl : (⟨0, 4, 1, 0⟩ : Sp) = p := by simpa [hdD] using hp
      exact ⟨rfl, rfl, rfl, rfl⟩
    | 1, hp =>
      obtain rfl : (⟨1, 3, 2, 0⟩ : Sp) = p := by simpa [hdD] using hp
      exact ⟨rfl, rfl, rfl, rfl⟩
    | n + 2, hp => simp [hdD] at hp⟩
  rw [hW0]
  have hmx : (2 : Nat) ≤ maxLen := by decide
  have HRn : Hid (Calls Tryz.prog 18 #[.agg #[.string ⟨#[97, 98, 99, 100]⟩, .slice (some ⟨w.heap.size, 0, none⟩) 2 2]] W0 (RunAns W0 hdS hdD)) := hideS (runs_any hdS hdD (some ⟨w.heap.size, 0, none⟩) 2 (by decide) ⟨by decide, hmx⟩ (fun e => nomatch e) W0 sp0)
  have H0 := hideS (And.intro n1 (And.intro b0 sp0))
  clear hW0 n0 n1 b0 sp0
  refine HRn.out.mono ?_
  rintro e w1 ⟨b1, ⟨h, _⟩ | ⟨_, v, rfl, own⟩⟩
  · exact absurd hd_check h
  rw [hd_signs, hd_sort] at own
  change w1.ownsRow W0.heap.size 27 7 v (runsM 4 hdD).length (flat7 (runsM 4 hdD)) at own
  rw [hd_runs] at own
  obtain ⟨gr, cp, rfl⟩ : ∃ gr cp, v = .slice (some ⟨gr, 0, none⟩) 3 cp := by
    rcases own.2 with ⟨_, e0⟩ | ⟨gr, cp, cur, e0, _⟩
    · simp at e0
    · exact ⟨gr, cp, e0⟩
  have H1 := hideS (And.intro own (And.intro (H0.out.1.keep b1) (And.intro (bupS H0.out.2.1 b1) (H0.out.2.2.keep b1))))
  clear own b1 H0 HRn
  obtain ⟨k0, k1, _, _⟩ := H1.out.2.1.cells
  have HSp : Hid (Calls Tryz.prog 19 #[.agg #[.string ⟨#[97, 98, 99, 100]⟩, .slice (some ⟨w.heap.size, 0, none⟩) 2 2], .int .i64 1, .int .i64 1, .agg #[.string ⟨#[120]⟩, .slice none 0 0]] w1 (SplAns w1 (splM hdS hdD 1 1 hdU []))) := hideS (splice_any hdS hdU hdD [] (some ⟨w.heap.size, 0, none⟩) none 2 0 1 1 (by decide) (by decide) ⟨by decide, hmx⟩ ⟨by decide, by decide⟩ (fun e => nomatch e) (fun _ => ⟨rfl, rfl⟩) w1 (Nat.le_trans hw H1.out.2.2.1.size) (tabs_below hw HT.out H1.out.2.2.1) H1.out.2.2.2 (SpO.nil _ _))
  go_wp2_with fail
  refine HSp.out.mono ?_
  rw [hd_splice]
  rintro e w2 ⟨v2, rfl, own2, b2⟩
  simp only at own2 ⊢
  obtain ⟨g2, cp2, rfl⟩ : ∃ g2 cp2, v2 = .slice (some ⟨g2, 0, none⟩) 2 cp2 := by
    rcases own2.2 with ⟨_, e0⟩ | ⟨g2, cp2, cur, e0, _⟩
    · simp at e0
    · exact ⟨g2, cp2, e0⟩
  have own1 := own_keep H1.out.1 b2
  obtain ⟨r0, _, hgr, _⟩ := own_cells own1 7 (.int .i64 1) rfl
  have r1 := (own_cells own1 8 (.int .i64 3) rfl).1
  have r2 := (own_cells own1 9 (.bool true) rfl).1
  have r3 := (own_cells own1 10 (.bool true) rfl).1
  have r4 := (own_cells own1 11 (.bool false) rfl).1
  have r5 := (own_cells own1 12 (.bool false) rfl).1
  have r6 := (own_cells own1 13 (.int .i64 0) rfl).1
  obtain ⟨q0, _, hg2, _⟩ := own_cells own2 4 (.int .i64 2) rfl
  have H2 := hideS (bupS H1.out.2.2.1 b2)
  have hgd := run_guard
  have hre := hd_run_eq
  clear own1 own2 b2 H1 HSp k0 k1
  go_wp2_with fail
  go_ret
  exact ⟨rfl, bupS H2.out (bel1S _ _)⟩
end Go.Proofs.YtjfhlddbkdkjbaaGreatDoor

/- Runs compared (P0705): slices.Equal over runs. -/
namespace Go.Proofs.YtjfhlddbkdkjbaaGreatDoor
open Go.RowKit Go.Shelf
attribute [local go_sem] Oper.semAt_some

def Rn.val (r : Rn) : Value := .agg #[.int .i64 r.fr, .int .i64 r.tt, .bool r.a.b, .bool r.a.i, .bool r.a.u, .bool r.a.s, .int .i64 r.a.c]
set_option maxRecDepth 100000 in
theorem at_equal (d : Nat) (x y : At) (w : World) : (Op.equalIn (d + 2) 25 x.val y.val).run Tryz.prog w = .ok (decide (x = y)) w := by
  obtain ⟨a, b, c, e, f⟩ := x
  obtain ⟨a', b', c', e', f'⟩ := y
  unfold At.val
  rw [run_equalIn_agg _ _ _ _ _ at_under at_held]
  have hf := at_fields
  match h : (Tryz.prog.fieldsOf 25).toList, hf with
  | [f0, f1, f2, f3, f4], hf =>
    clear h
    simp only [List.map_cons, List.map_nil, List.cons.injEq, Prod.mk.injEq, and_true] at hf
    obtain ⟨⟨n0, t0, o0⟩, ⟨n1, t1, o1⟩, ⟨n2, t2, o2⟩, ⟨n3, t3, o3⟩, ⟨n4, t4, o4⟩⟩ := hf
    have u3 : Tryz.prog.underlying 3 = some (.int .i64) := Tryz.underlying3
    have u4 : Tryz.prog.underlying 4 = some .bool := Tryz.underlying4
    simp [Op.eqFields, n0, n1, n2, n3, n4, t0, t1, t2, t3, t4, o0, o1, o2, o3, o4, go_sem, u3, u4]
    by_cases h0 : a = a' <;> by_cases h1 : b = b' <;> by_cases h2 : c = c' <;> by_cases h3 : e = e' <;> by_cases h4 : f = f' <;> simp [h0, h1, h2, h3, h4]
  | [], hf => simp at hf
  | [_], hf => simp at hf
  | [_, _], hf => simp at hf
  | [_, _, _], hf => simp at hf
  | [_, _, _, _], hf => simp at hf
  | _ :: _ :: _ :: _ :: _ :: _ :: _, hf => simp at hf
theorem at_neq (x y : At) (w : World) : (binOp .neq 25 x.val y.val).run Tryz.prog w = .ok (.bool (!decide (x = y))) w := by
  have h := at_equal 9998 x y w
  unfold At.val at h ⊢
  rw [run_neq_struct, h]
  rfl
theorem rn_under : Tryz.prog.underlying 27 = some (.struct (Tryz.prog.fieldsOf 27)) := by kernel_rfl
theorem rn_held : Tryz.prog.stoodInHeld 27 = false := by kernel_rfl
theorem rn_fields : (Tryz.prog.fieldsOf 27).toList.map (fun f => (f.name, f.type, f.offset)) = [("From", 3, 0), ("To", 3, 1), ("Attr", 25, 2)] := by kernel_rfl
theorem at_size : Tryz.prog.cellsOf 25 = 5 := by kernel_rfl
set_option maxRecDepth 100000 in
theorem rn_neq (x y : Rn) (w : World) : (binOp .neq 27 x.val y.val).run Tryz.prog w = .ok (.bool (!decide (x = y))) w := by
  obtain ⟨a, b, c⟩ := x
  obtain ⟨a', b', c'⟩ := y
  unfold Rn.val
  simp only
  rw [run_neq_struct, run_equalIn_agg _ _ _ _ _ rn_under rn_held]
  have hf := rn_fields
  match h : (Tryz.prog.fieldsOf 27).toList, hf with
  | [f0, f1, f2], hf =>
    clear h
    simp only [List.map_cons, List.map_nil, List.cons.injEq, Prod.mk.injEq, and_true] at hf
    obtain ⟨⟨n0, t0, o0⟩, ⟨n1, t1, o1⟩, ⟨n2, t2, o2⟩⟩ := hf
    have u3 : Tryz.prog.underlying 3 = some (.int .i64) := Tryz.underlying3
    simp [Op.eqFields, n0, n1, n2, t0, t1, t2, o0, o1, o2, go_sem, u3]
    by_cases h0 : a = a'
    · by_cases h1 : b = b'
      · subst h0 h1
        obtain ⟨c0, c1, c2, c3, c4⟩ := c
        obtain ⟨e0, e1, e2, e3, e4⟩ := c'
        simp
        by_cases h0 : c0 = e0 <;> by_cases h1 : c1 = e1 <;> by_cases h2 : c2 = e2 <;> by_cases h3 : c3 = e3 <;> by_cases h4 : c4 = e4 <;> simp [h0, h1, h2, h3, h4]
      · simp [h0, h1]
    · simp [h0]
  | [], hf => simp at hf
  | [_], hf => simp at hf
  | [_, _], hf => simp at hf
  | _ :: _ :: _ :: _ :: _, hf => simp at hf
/-- A row of runs that can be read; a row of looks. -/
def RnO (W : World) (o : Option Addr) (L : List Rn) : Prop := ∀ (i : Nat) (r : Rn), L[i]? = some r → ∃ a, o = some a ∧ a.block < W.heap.size ∧ W.cell? (a.add (i * 7)) = some (.int .i64 r.fr) ∧ W.cell? ⟨(a.add (i * 7)).block, (a.add (i * 7)).off + 1, none⟩ = some (.int .i64 r.tt) ∧ W.cell? ⟨(a.add (i * 7)).block, (a.add (i * 7)).off + 2, none⟩ = some (.bool r.a.b) ∧ W.cell? ⟨(a.add (i * 7)).block, (a.add (i * 7)).off + 3, none⟩ = some (.bool r.a.i) ∧ W.cell? ⟨(a.add (i * 7)).block, (a.add (i * 7)).off + 4, none⟩ = some (.bool r.a.u) ∧ W.cell? ⟨(a.add (i * 7)).block, (a.add (i * 7)).off + 5, none⟩ = some (.bool r.a.s) ∧ W.cell? ⟨(a.add (i * 7)).block, (a.add (i * 7)).off + 6, none⟩ = some (.int .i64 r.a.c)
def AtO (W : World) (o : Option Addr) (L : List At) : Prop := ∀ (i : Nat) (r : At), L[i]? = some r → ∃ a, o = some a ∧ a.block < W.heap.size ∧ W.cell? (a.add (i * 5)) = some (.bool r.b) ∧ W.cell? ⟨(a.add (i * 5)).block, (a.add (i * 5)).off + 1, none⟩ = some (.bool r.i) ∧ W.cell? ⟨(a.add (i * 5)).block, (a.add (i * 5)).off + 2, none⟩ = some (.bool r.u) ∧ W.cell? ⟨(a.add (i * 5)).block, (a.add (i * 5)).off + 3, none⟩ = some (.bool r.s) ∧ W.cell? ⟨(a.add (i * 5)).block, (a.add (i * 5)).off + 4, none⟩ = some (.int .i64 r.c)
theorem RnO.keep {W V : World} {o : Option Addr} {L : List Rn} (h : RnO W o L) (b : Below W.heap.size W V) : RnO V o L := fun i r hr => by
  obtain ⟨a, e, hb, c0, c1, c2, c3, c4, c5, c6⟩ := h i r hr
  have hk : (a.add (i * 7)).block < W.heap.size := by rw [addrS_block]; exact hb
  exact ⟨a, e, Nat.lt_of_lt_of_le hb b.size, (b.cell hk).trans c0, (b.cell (p := ⟨(a.add (i * 7)).block, _, none⟩) hk).trans c1, (b.cell (p := ⟨(a.add (i * 7)).block, _, none⟩) hk).trans c2, (b.cell (p := ⟨(a.add (i * 7)).block, _, none⟩) hk).trans c3, (b.cell (p := ⟨(a.add (i * 7)).block, _, none⟩) hk).trans c4, (b.cell (p := ⟨(a.add (i * 7)).block, _, none⟩) hk).trans c5, (b.cell (p := ⟨(a.add (i * 7)).block, _, none⟩) hk).trans c6⟩
theorem AtO.keep {W V : World} {o : Option Addr} {L : List At} (h : AtO W o L) (b : Below W.heap.size W V) : AtO V o L := fun i r hr => by
  obtain ⟨a, e, hb, c0, c1, c2, c3, c4⟩ := h i r hr
  have hk : (a.add (i * 5)).block < W.heap.size := by rw [addrS_block]; exact hb
  exact ⟨a, e, Nat.lt_of_lt_of_le hb b.size, (b.cell hk).trans c0, (b.cell (p := ⟨(a.add (i * 5)).block, _, none⟩) hk).trans c1, (b.cell (p := ⟨(a.add (i * 5)).block, _, none⟩) hk).trans c2, (b.cell (p := ⟨(a.add (i * 5)).block, _, none⟩) hk).trans c3, (b.cell (p := ⟨(a.add (i * 5)).block, _, none⟩) hk).trans c4⟩
theorem add_zeroK (g k : Nat) : (⟨g, 0, none⟩ : Addr).add k = ⟨g, k, none⟩ := by
  unfold Addr.add
  split
  · rename_i h0
    rw [h0]
  · simp
theorem own_cap {W : World} {base n : Nat} {e : TypeId} {size : Nat} {v : Value} {xs : List Value} (h : W.ownsRow base e size v n xs) : ∃ o c, v = .slice o n c ∧ (n ≤ c ∧ c ≤ maxLen) ∧ ∀ j u, xs[j]? = some u → ∃ g, o = some ⟨g, 0, none⟩ ∧ g < W.heap.size ∧ W.cell? ⟨g, j, none⟩ = some u := by
  have h9 := h
  rcases h.2 with ⟨e0, e1⟩ | ⟨g, cap, cur, e0, hb, hg, hcn, hcm, hs, h4⟩
  · subst e1
    refine ⟨none, 0, e0, ⟨Nat.le_refl _, by unfold maxLen; omega⟩, fun j u hj => ?_⟩
    have hl := h.1
    rw [Nat.zero_mul] at hl
    rw [List.length_eq_zero_iff.1 hl] at hj
    simp at hj
  · subst e0
    exact ⟨some ⟨g, 0, none⟩, cap, rfl, ⟨hcn, hcm⟩, fun j u hj => ⟨g, rfl, (own_cells h9 j u hj).2.2.1, (own_cells h9 j u hj).1⟩⟩
theorem rn_of_own {W : World} {base n : Nat} {v : Value} {L : List Rn} (h : W.ownsRow base 27 7 v n (flat7 L)) : ∃ o c, v = .slice o n c ∧ (n ≤ c ∧ c ≤ maxLen) ∧ RnO W o L := by
  obtain ⟨o, c, e, hc, hx⟩ := own_cap h
  refine ⟨o, c, e, hc, fun i r hr => ?_⟩
  have ha := flat7_at L i r hr
  obtain ⟨g, rfl, hg, c0⟩ := hx (i * 7 + 0) _ (ha 0 _ rfl)
  obtain ⟨g1, e1, _, c1⟩ := hx (i * 7 + 1) _ (ha 1 _ rfl)
  obtain ⟨g2, e2, _, c2⟩ := hx (i * 7 + 2) _ (ha 2 _ rfl)
  obtain ⟨g3, e3, _, c3⟩ := hx (i * 7 + 3) _ (ha 3 _ rfl)
  obtain ⟨g4, e4, _, c4⟩ := hx (i * 7 + 4) _ (ha 4 _ rfl)
  obtain ⟨g5, e5, _, c5⟩ := hx (i * 7 + 5) _ (ha 5 _ rfl)
  obtain ⟨g6, e6, _, c6⟩ := hx (i * 7 + 6) _ (ha 6 _ rfl)
  obtain rfl : g = g1 := by simpa using e1
  obtain rfl : g = g2 := by simpa using e2
  obtain rfl : g = g3 := by simpa using e3
  obtain rfl : g = g4 := by simpa using e4
  obtain rfl : g = g5 := by simpa using e5
  obtain rfl : g = g6 := by simpa using e6
  refine ⟨_, rfl, hg, ?_⟩
  rw [add_zeroK]
  exact ⟨c0, c1, c2, c3, c4, c5, c6⟩
def At.cells (r : At) : List Value := [.bool r.b, .bool r.i, .bool r.u, .bool r.s, .int .i64 r.c]
def flat5 (L : List At) : List Value := L.flatMap At.cells
theorem flat5_len (L : List At) : (flat5 L).length = L.length * 5 := by
  induction L with
  | nil => rfl
  | cons x L ih =>
    have : flat5 (x :: L) = x.cells ++ flat5 L := rfl
    rw [this, List.length_append, ih, List.length_cons]
    simp [At.cells]
    omega
theorem flat5_snoc (L : List At) (x : At) : flat5 (L ++ [x]) = flat5 L ++ x.cells := by simp [flat5]
theorem flat5_at : ∀ (Q : List At) (i : Nat) (p : At), Q[i]? = some p → ∀ j v, p.cells[j]? = some v → (flat5 Q)[i * 5 + j]? = some v
  | [], i, p, h => by simp at h
  | x :: Q, 0, p, h => fun j v hj => by
    simp at h
    subst h
    have hl : j < x.cells.length := (List.getElem?_eq_some_iff.1 hj).1
    show (x.cells ++ flat5 Q)[0 * 5 + j]? = some v
    rw [Nat.zero_mul, Nat.zero_add, List.getElem?_append_left hl]
    exact hj
  | x :: Q, i + 1, p, h => fun j v hj => by
    have ih := flat5_at Q i p (by simpa using h) j v hj
    show (x.cells ++ flat5 Q)[(i + 1) * 5 + j]? = some v
    have hl : x.cells.length = 5 := rfl
    rw [List.getElem?_append_right (by omega), hl, show (i + 1) * 5 + j - 5 = i * 5 + j by omega]
    exact ih
theorem at_of_own {W : World} {base n : Nat} {v : Value} {L : List At} (h : W.ownsRow base 25 5 v n (flat5 L)) : ∃ o c, v = .slice o n c ∧ (n ≤ c ∧ c ≤ maxLen) ∧ AtO W o L := by
  obtain ⟨o, c, e, hc, hx⟩ := own_cap h
  refine ⟨o, c, e, hc, fun i r hr => ?_⟩
  have ha := flat5_at L i r hr
  obtain ⟨g, rfl, hg, c0⟩ := hx (i * 5 + 0) _ (ha 0 _ rfl)
  obtain ⟨g1, e1, _, c1⟩ := hx (i * 5 + 1) _ (ha 1 _ rfl)
  obtain ⟨g2, e2, _, c2⟩ := hx (i * 5 + 2) _ (ha 2 _ rfl)
  obtain ⟨g3, e3, _, c3⟩ := hx (i * 5 + 3) _ (ha 3 _ rfl)
  obtain ⟨g4, e4, _, c4⟩ := hx (i * 5 + 4) _ (ha 4 _ rfl)
  obtain rfl : g = g1 := by simpa using e1
  obtain rfl : g = g2 := by simpa using e2
  obtain rfl : g = g3 := by simpa using e3
  obtain rfl : g = g4 := by simpa using e4
  refine ⟨_, rfl, hg, ?_⟩
  rw [add_zeroK]
  exact ⟨c0, c1, c2, c3, c4⟩
end Go.Proofs.YtjfhlddbkdkjbaaGreatDoor

/- Looks of all signs by the reference; Same of both (P0705). -/
namespace Go.Proofs.YtjfhlddbkdkjbaaGreatDoor
open Go.RowKit Go.Shelf
attribute [local go_sem] Oper.semAt_some

/-- The looks of so many signs by the reference. -/
def alls (D : List Sp) (n : Nat) : List At := (List.range n).map fun (k : Nat) => (rfoldA D (k : Int)).1
theorem alls_snoc (D : List Sp) (n : Nat) : alls D (n + 1) = alls D n ++ [(rfoldA D (n : Int)).1] := by simp [alls, List.range_succ]
theorem alls_len (D : List Sp) (n : Nat) : (alls D n).length = n := by simp [alls]
theorem chk_all {s : ByteArray} {D : List Sp} (h : chkT s D = 0) : (∀ x ∈ D, (0 ≤ x.fr ∧ x.fr < x.tt ∧ x.tt ≤ (signs s).length) ∧ 1 ≤ x.kd ∧ x.kd ≤ 5) ∧ ∀ x ∈ D, ∀ y ∈ D, ¬ crS x y := by
  have h0 := h
  obtain ⟨h1, h2⟩ := chkT_ok h
  unfold chkT at h
  rw [if_neg (by omega), if_neg (by omega)] at h
  by_cases k : allB D (signs s).length = true ∧ crB D = false
  · have hf : ∀ x ∈ D, (0 ≤ x.fr ∧ x.fr < x.tt ∧ x.tt ≤ (signs s).length) ∧ 1 ≤ x.kd ∧ x.kd ≤ 5 := fun x hx => by
      have k1 := List.all_eq_true.1 k.1 x hx
      unfold fitB at k1
      have k2 := of_decide_eq_true k1
      omega
    refine ⟨hf, fun x hx y hy hc => ?_⟩
    have := (crB_iff D (fun z hz => (hf z hz).1.2.1)).2 ⟨y, hy, x, hx, hc⟩
    rw [k.2] at this
    cases this
  · rw [if_neg k] at h; omega
theorem alls_seg {s : ByteArray} {D : List Sp} (h : chkT s D = 0) (n : Nat) : alls D n = seg (isort ltS D) 0 n := by
  obtain ⟨h1, h2⟩ := chk_all h
  unfold alls seg
  refine List.map_congr_left fun k _ => ?_
  rw [look_ref k D (fun x hx => (h1 x hx).2) h2, look_form, Int.zero_add]
theorem runs_seg {s : ByteArray} {D : List Sp} (h : chkT s D = 0) : runsM (signs s).length (isort ltS D) = rleL [] 0 (alls D (signs s).length) := by
  rw [alls_seg h, runs_rle _ _ (fun x hx => ((chk_all h).1 x ((isort_mem' ltS x D).1 hx)).1)]
/-- Are two texts alike? -/
def samB (s : ByteArray) (D : List Sp) (u : ByteArray) (E : List Sp) : Bool := decide (chkT s D = 0 ∧ chkT u E = 0 ∧ s = u ∧ alls D (signs s).length = alls E (signs u).length)
theorem sam_runs {s u : ByteArray} {D E : List Sp} (h1 : chkT s D = 0) (h2 : chkT u E = 0) : (runsM (signs s).length (isort ltS D) = runsM (signs u).length (isort ltS E)) ↔ alls D (signs s).length = alls E (signs u).length := by
  rw [runs_seg h1, runs_seg h2]
  exact ⟨fun h => rle_inj h, fun h => by rw [h]⟩
theorem infoAt : (Tryz.prog.info? 25).map (fun i => (i.zero, i.size, i.bytes)) = some (some (.agg #[.bool false, .bool false, .bool false, .bool false, .int .i64 0]), 5, 16) := by kernel_rfl
theorem cell_fiveS (w : World) (a b c d e : Value) (t : TypeId) : ∀ j u, [a, b, c, d, e][j]? = some u → (w.alloc (.cells #[a, b, c, d, e] t)).cell? ((⟨w.heap.size, 0, none⟩ : Addr).add j) = some u := by
  intro j u hj
  have e0 : (w.alloc (.cells #[a, b, c, d, e] t)).heap[w.heap.size]? = _ := World.alloc_heap_new w _
  match j, hj with
  | 0, hj | 1, hj | 2, hj | 3, hj | 4, hj =>
    simp at hj
    subst hj
    unfold World.cell?
    rw [addrS_block, e0]
    rfl
  | n + 5, hj => simp at hj
set_option maxRecDepth 100000 in
set_option maxHeartbeats 2000000 in
theorem rall_any (s : ByteArray) (D : List Sp) (oa : Option Addr) (ca : Nat) (hs : s.size ≤ 1048576) (hl : D.length ≤ 5000) (w : World) (hR : SpO w oa D) :
    Calls Tryz.prog 29 #[.agg #[.string s, .slice oa D.length ca]] w fun e w' => ∃ v, e = .returned v ∧ w'.ownsRow w.heap.size 25 5 v (signs s).length (flat5 (alls D (signs s).length)) ∧ Below w.heap.size w w' := by
  obtain ⟨i0, hi, hz0, hz1, hz2⟩ := info_parts infoAt
  have HCt := hideS (fun (W : World) => rcountR s hs W)
  have HLk := hideS (fun (W : World) (h : Below w.heap.size w W) (k : Nat) => rlooks_any s D oa ca k hl W (hR.keep h))
  obtain ⟨n, hn⟩ : ∃ n, (signs s).length = n := ⟨_, rfl⟩
  have hn4 := signs_le s
  obtain ⟨ND, hND⟩ : ∃ ND, D.length = ND := ⟨_, rfl⟩
  rw [hn] at HCt hn4 ⊢
  rw [hND] at HLk ⊢
  obtain ⟨PO, hPO⟩ : ∃ PO : Ending → World → Prop, PO = fun e w' => ∃ v, e = .returned v ∧ w'.ownsRow w.heap.size 25 5 v n (flat5 (alls D n)) ∧ Below w.heap.size w w' := ⟨_, rfl⟩
  rw [← hPO]
  have HPO := hideS hPO
  clear hn hND hPO hR
  go_enter Tryz.func29, Tryz.ntmps29
  go_wp2_with fail
  obtain ⟨W0, hW0⟩ : ∃ W0, w.alloc (.cells #[.string s, .slice oa ND ca] 30) = W0 := ⟨_, rfl⟩
  have t0 : Tx W0 w.heap.size (.string s) (.slice oa ND ca) := by rw [← hW0]; exact Tx.new w _ _
  have b0 : Below w.heap.size w W0 := by rw [← hW0]; exact bel1S _ _
  try rw [hW0]
  have H0 := hideS (And.intro t0 b0)
  clear hW0 t0 b0
  refine (HCt.out W0).mono ?_
  rintro e w1 ⟨rfl, b1⟩
  have H1 := hideS (And.intro (H0.out.1.keep b1) (bupS H0.out.2 b1))
  have hP1 : w.heap.size < w1.heap.size := H1.out.1.lt
  clear b1 H0 HCt
  go_wp2_with fail
  go_loopw [4, 5] (fun v iv wq => ∃ i : Nat, iv = .int .i64 (i : Nat) ∧ i ≤ n ∧ wq.ownsRow w1.heap.size 25 5 v i (flat5 (alls D i)) ∧ Below w1.heap.size w1 wq) (fun _ iv _ => n - (intOf iv).toNat)
  case atStart => exact ⟨0, rfl, Nat.zero_le _, World.ownsRow_nil _ _ _ _, Below.refl _ _⟩
  case round =>
    obtain ⟨i, rfl, hiN, hO, hb⟩ := hrel
    obtain ⟨wq, rfl⟩ : ∃ wq, wq = wr := ⟨_, rfl⟩
    by_cases hlt : i < n
    · have d1 : (i : Int) < (n : Int) := by omega
      have wi : IntKind.i64.wrap ((i : Int) + 1) = ((i + 1 : Nat) : Int) := by rw [show ((i + 1 : Nat) : Int) = (i : Int) + 1 by omega]; exact IntWalk.i64_in _ ⟨by omega, by omega⟩
      have tq := (H1.out.1.keep hb)
      obtain ⟨k0, k1, _, _⟩ := tq.cells
      have HL := hideS (HLk.out wq (bupS H1.out.2 hb) i)
      have hnx := alls_snoc D i
      obtain ⟨ra, hra⟩ : ∃ ra, (rfoldA D (i : Int)).1 = ra := ⟨_, rfl⟩
      rw [hra] at HL hnx
      obtain ⟨a0, a1, a2, a3, a4⟩ := ra
      unfold At.val at HL
      simp only at HL
      have HA := hideS (And.intro hO (And.intro hnx hb))
      clear hO hnx hb hra tq
      go_wp2_with fail
      refine HL.out.mono ?_
      rintro e V ⟨rfl, bV⟩
      have HGx := hideS (own_keepS HA.out.1 bV)
      have HBV := hideS (bupS HA.out.2.2 bV)
      have sx : w1.heap.size ≤ V.heap.size := Nat.le_trans HA.out.2.2.size bV.size
      clear bV HL k0 k1
      go_wp2_with (at_builtin; refine wpList_append_own _ rfl _ _ 56 rfl w1.heap.size 25 i0 (.agg #[.bool false, .bool false, .bool false, .bool false, .int .i64 0]) 5 16 Tryz.underlying56 hi hz0 hz1 hz2 rfl (by decide) _ _ _ rfl (HGx.out.alloc _) ⟨V.heap.size, 0, none⟩ 1 1 [.bool a0, .bool a1, .bool a2, .bool a3, .int .i64 a4] rfl rfl (cell_fiveS _ _ _ _ _ _ _) (fun u hu => by simp at hu; rcases hu with rfl | rfl | rfl | rfl | rfl <;> rfl) (by unfold maxLen; omega) (by omega) (by simp; omega) ?_; intro v' w3 hown' hgrow _; have hB3 : Below w1.heap.size w1 w3 := Below.grown (HBV.out.alloc sx (.cells #[.bool a0, .bool a1, .bool a2, .bool a3, .int .i64 a4] 25)) hgrow (by simp; omega) (fun j hj => (HGx.out.lt j hj).1); have H3 := hideS (And.intro hown' hB3); clear hown' hgrow hB3)
      go_roundw
      case rel => exact ⟨i + 1, by first | rfl | simp, by omega, by rw [HA.out.2.1, flat5_snoc]; exact H3.out.1, H3.out.2⟩
      case measure => simp [intOf]; omega
    · have d1 : ¬ (i : Int) < (n : Int) := by omega
      rw [show i = n by omega] at hO
      have HA := hideS (And.intro hO hb)
      clear hO hb
      go_wp2_with fail
      rw [HPO.out]
      exact ⟨_, rfl, own_fromS HA.out.1 H1.out.2.size, bupS H1.out.2 HA.out.2⟩
end Go.Proofs.YtjfhlddbkdkjbaaGreatDoor

/- surtitlelaw7: SameSpans, SameText, Lend, Back; both Plain (chapter 7). -/
namespace Go.Proofs.YtjfhlddbkdkjbaaGreatDoor
open Go.RowKit Go.Shelf
attribute [local go_sem] Oper.semAt_some

theorem sp_under : Tryz.prog.underlying 44 = some (.struct (Tryz.prog.fieldsOf 44)) := by kernel_rfl
theorem sp_held : Tryz.prog.stoodInHeld 44 = false := by kernel_rfl
theorem sp_guard : Tryz.prog.eqGuardType Tryz.prog.depth 44 = false := by kernel_rfl
theorem sp_fields : (Tryz.prog.fieldsOf 44).toList.map (fun f => (f.name, f.type, f.offset)) = [("From", 3, 0), ("To", 3, 1), ("Kind", 3, 2), ("Value", 3, 3)] := by kernel_rfl
set_option maxRecDepth 100000 in
theorem sp_same (a b c d : Int) (w : World) : (Op.equalIn 10000 44 (.agg #[.int .i64 a, .int .i64 b, .int .i64 c, .int .i64 d]) (.agg #[.int .i64 a, .int .i64 b, .int .i64 c, .int .i64 d])).run Tryz.prog w = .ok true w := by
  rw [run_equalIn_agg _ _ _ _ _ sp_under sp_held]
  have hf := sp_fields
  match h : (Tryz.prog.fieldsOf 44).toList, hf with
  | [f0, f1, f2, f3], hf =>
    clear h
    simp only [List.map_cons, List.map_nil, List.cons.injEq, Prod.mk.injEq, and_true] at hf
    obtain ⟨⟨n0, t0, o0⟩, ⟨n1, t1, o1⟩, ⟨n2, t2, o2⟩, ⟨n3, t3, o3⟩⟩ := hf
    have u3 : Tryz.prog.underlying 3 = some (.int .i64) := Tryz.underlying3
    simp [Op.eqFields, n0, n1, n2, n3, t0, t1, t2, t3, o0, o1, o2, o3, go_sem, u3]
  | [], hf => simp at hf
  | [_], hf => simp at hf
  | [_, _], hf => simp at hf
  | [_, _, _], hf => simp at hf
  | _ :: _ :: _ :: _ :: _ :: _, hf => simp at hf
theorem sp_neq (a b c d : Int) (w : World) : (binOp .neq 44 (.agg #[.int .i64 a, .int .i64 b, .int .i64 c, .int .i64 d]) (.agg #[.int .i64 a, .int .i64 b, .int .i64 c, .int .i64 d])).run Tryz.prog w = .ok (.bool false) w := by
  rw [run_neq_struct, sp_same]; rfl
theorem sp_eql (a b c d : Int) (w : World) : (binOp .eql 44 (.agg #[.int .i64 a, .int .i64 b, .int .i64 c, .int .i64 d]) (.agg #[.int .i64 a, .int .i64 b, .int .i64 c, .int .i64 d])).run Tryz.prog w = .ok (.bool true) w := by
  rw [run_eql_struct, sp_same]; rfl
set_option maxRecDepth 100000 in
set_option maxHeartbeats 2000000 in
theorem samesp_any (D : List Sp) (o1 o2 : Option Addr) (c1 c2 : Nat) (hc1 : D.length ≤ c1 ∧ c1 ≤ maxLen) (w : World) (hR1 : SpO w o1 D) (hR2 : SpO w o2 D) :
    Calls Tryz.prog 27 #[.slice o1 D.length c1, .slice o2 D.length c2] w fun e w' => e = .returned (.bool true) ∧ Below w.heap.size w w' := by
  obtain ⟨N, hN⟩ : ∃ N, D.length = N := ⟨_, rfl⟩
  have HN := hideS (And.intro hN (And.intro hR1 hR2))
  rw [hN] at hc1 ⊢
  have hcm : c1 ≤ 9223372036854775807 := hc1.2
  clear hN hR1 hR2
  have hgd := sp_guard
  have hne := sp_neq
  go_enter Tryz.func27, Tryz.ntmps27
  go_wp2_with fail
  go_loopw [5] (fun iv wq => ∃ i : Nat, iv = .int .i64 (i : Nat) ∧ i ≤ N ∧ Below w.heap.size w wq) (fun iv _ => N - (intOf iv).toNat)
  case atStart => exact ⟨0, rfl, Nat.zero_le _, Below.refl _ _⟩
  case round =>
    obtain ⟨i, rfl, hiN, hb⟩ := hrel
    obtain ⟨wq, rfl⟩ : ∃ wq, wq = wr := ⟨_, rfl⟩
    by_cases hlt : i < N
    · obtain ⟨x, hx⟩ : ∃ x, D[i]? = some x := ⟨_, List.getElem?_eq_getElem (by rw [HN.out.1]; exact hlt)⟩
      obtain ⟨a, rfl, _, k0, k1, k2, k3⟩ := HN.out.2.1.keep hb i x hx
      obtain ⟨b, rfl, _, e0, e1, e2, e3⟩ := HN.out.2.2.keep hb i x hx
      have d1 : (i : Int) < (N : Int) := by omega
      have wi : IntKind.i64.wrap ((i : Int) + 1) = ((i + 1 : Nat) : Int) := by rw [show ((i + 1 : Nat) : Int) = (i : Int) + 1 by omega]; exact IntWalk.i64_in _ ⟨by omega, by omega⟩
      have HB := hideS hb
      clear hb hx
      go_wp2_with fail
      go_quiet (fail)
      go_wp2_with fail
      go_roundw
      case rel => exact ⟨i + 1, by first | rfl | simp, by omega, HB.out.trans ((below_dnS (Below.refl _ _) nq).mono HB.out.size)⟩
      case measure => simp [intOf]; omega
    · have d1 : ¬ (i : Int) < (N : Int) := by omega
      have HB := hideS hb
      clear hb
      go_wp2_with fail
      go_ret
      exact ⟨rfl, HB.out⟩
set_option maxRecDepth 100000 in
set_option maxHeartbeats 1000000 in
theorem sametx_any (s : ByteArray) (w : World) : Calls Tryz.prog 9 #[.agg #[.string s, .slice none 0 0], .agg #[.string s, .slice none 0 0]] w fun e w' => e = .returned (.bool true) ∧ Below w.heap.size w w' := by
  have HS := hideS (fun (W : World) => samesp_any [] none none 0 0 ⟨by simp, by simp⟩ W (SpO.nil _ _) (SpO.nil _ _))
  change Hid (∀ W : World, Calls Tryz.prog 27 #[.slice none 0 0, .slice none 0 0] W fun e w' => e = .returned (.bool true) ∧ Below W.heap.size W w') at HS
  have hss : (s.toList == s.toList) = true := by simp
  have HB := hideS (bupS (bel1S w (.cells #[.string s, .slice none 0 0] 30)) (bel1S _ (.cells #[.string s, .slice none 0 0] 30)))
  go_enter Tryz.func9, Tryz.ntmps9
  go_wp2_with fail
  refine (HS.out _).mono ?_
  rintro e w1 ⟨rfl, b1⟩
  have H1 := hideS (bupS HB.out b1)
  clear b1
  go_wp2_with fail
  go_ret
  exact ⟨rfl, H1.out⟩
/-- What both Plain tell. -/
def plaV (s : ByteArray) : Value := if 4096 < s.size then .tuple #[.agg #[.string ⟨#[]⟩, .slice none 0 0], .int .i64 3] else .tuple #[.agg #[.string s, .slice none 0 0], .int .i64 0]
end Go.Proofs.YtjfhlddbkdkjbaaGreatDoor

/- surtitlelaw7: Lend, Back (chapter 7). -/
namespace Go.Proofs.YtjfhlddbkdkjbaaGreatDoor
open Go.RowKit Go.Shelf
attribute [local go_sem] Oper.semAt_some

def mkS : Sp := ⟨-77, 0, 0, 0⟩
/-- append to a row of one's own, of a slice that may be nil: a step of a region that draws. -/
theorem step_spans {P : Program} (w : World) {ops : Array Oper} {o : Oper} {a : Act} {K : Act → World → Prop} {Q : Exit → Act → World → Prop} {E : Prop} (hg : o.guard = none) (s x : Operand) (t : TypeId)
    (ho : o.op = .call { callee := .builtin .append, args := #[s, x], argTypes := #[t, t] })
    (base : Nat) (e : TypeId) (i : TypeInfo) (z : Value) (size bytes : Nat) (ht : P.underlying t = some (.slice e)) (hi : P.info? e = some i) (hz : i.zero = some z)
    (hsize : i.size = size) (hby : i.bytes = bytes) (hzs : z.cells.size = size) (hsz : 0 < size)
    (v : Value) (n : Nat) (xs : List Value) (hs : a.eval s = v) (hown : w.ownsRow base e size v n xs)
    (oa : Option Addr) (m c : Nat) (news : List Value) (hx : a.eval x = .slice oa m c) (hn : oa = none → m = 0 ∧ c = 0) (hl : news.length = m * size) (hnews : ∀ ad, oa = some ad → ∀ j u, news[j]? = some u → w.cell? (ad.add j) = some u) (h1 : ∀ u ∈ news, u.oneCell' = true)
    (h63 : n + m ≤ maxLen) (hbytes : (n + m) * bytes ≤ 140737488355328) (hbase : base ≤ w.heap.size)
    (hvn : v ≠ .slice none 0 0) (h : ∀ v' w', w'.ownsRow base e size v' (n + m) (xs ++ news) → w.grownBy w' v.ownBlock → v' ≠ .slice none 0 0 → K (a.put o.dst v') w') :
    if Region.wanted o (yielded ops a.tmps) = true then Oper.wp P o a w K Q else E := by
  have hw : Region.wanted o (yielded ops a.tmps) = true := by simp [Region.wanted, hg]
  rw [if_pos hw]
  cases oa with
  | none =>
    obtain ⟨rfl, rfl⟩ := hn rfl
    have hbv : news = [] := List.length_eq_zero_iff.1 (by rw [hl, Nat.zero_mul])
    subst hbv
    have h2 := h v w (by rw [List.append_nil]; exact hown) (World.grownBy.refl w _) hvn
    have hrun := run_append_owned_none (P := P) (w := w) base t o.type e i size ht hi v n xs hown
    unfold Oper.wp
    simp [execOp, ho, resolve, invoke, builtin, hs, hx, hrun, Result.andThen]
    exact h2
  | some ad => exact wp_append_own w s x t ho base e i z size bytes ht hi hz hsize hby hzs hsz v n xs hs hown ad m c news hx hl (hnews ad rfl) h1 h63 hbytes hbase fun v' w' h2 h3 h4 => h v' w' h2 h3 (fun e9 => hvn (h4.1 e9).1)
theorem own_some {W : World} {base n : Nat} {e : TypeId} {size : Nat} {v : Value} {xs : List Value} (h : W.ownsRow base e size v (n + 1) xs) : ∃ g c, v = .slice (some ⟨g, 0, none⟩) (n + 1) c ∧ n + 1 ≤ c := by
  rcases h.2 with ⟨_, e0⟩ | ⟨g, c, cur, e0, _, _, h3, _⟩
  · omega
  · exact ⟨g, c, e0, h3⟩
theorem make_spans (n : Nat) (hn : n ≤ 8796093022208) : ∃ mk : World → World, ∀ W : World, (Instr.makeSlice 28 (.int .i64 0) (.int .i64 (n : Int))).run Tryz.prog W = .ok (.slice (some ⟨W.heap.size, 0, none⟩) 0 n) (mk W) ∧
    (mk W).ownsRow W.heap.size 44 4 (.slice (some ⟨W.heap.size, 0, none⟩) 0 n) 0 [] ∧ W.grownBy (mk W) none := by
  obtain ⟨i0, hi, hz0, hz1, hz2⟩ := info_parts infoSp
  obtain ⟨mk, h⟩ := Classical.axiomOfChoice (fun W : World => run_make_own (P := Tryz.prog) W W.heap.size 28 44 i0 (.agg #[.int .i64 0, .int .i64 0, .int .i64 0, .int .i64 0]) 4 Tryz.underlying28 hi hz0 hz1 .i64 .i64 n (by rw [hz2]; omega) (by unfold maxLen; omega) (Nat.le_refl _))
  exact ⟨mk, h⟩
set_option maxRecDepth 100000 in
set_option maxHeartbeats 4000000 in
theorem lend_any7 (s : ByteArray) (D : List Sp) (oa : Option Addr) (ca : Nat) (hl : D.length ≤ 4398046510976) (hna : oa = none → D = [] ∧ ca = 0) (w : World) (hRa : SpO w oa D) :
    Calls Tryz.prog 12 #[.agg #[.string s, .slice oa D.length ca]] w fun e w' => ∃ g c, e = .returned (.agg #[.string s, .slice (some ⟨g, 0, none⟩) D.length c]) ∧ w'.ownsRow w.heap.size 44 4 (.slice (some ⟨g, 0, none⟩) (D.length + 1) c) (D.length + 1) (flat4 (D ++ [mkS])) ∧ Below w.heap.size w w' := by
  obtain ⟨i0, hi, hz0, hz1, hz2⟩ := info_parts infoSp
  obtain ⟨N, hN⟩ : ∃ N, D.length = N := ⟨_, rfl⟩
  have HX := hideS (And.intro hN (And.intro hRa hna))
  rw [hN] at hl ⊢
  obtain ⟨M, hM⟩ : ∃ M, N + 3 = M := ⟨_, rfl⟩
  obtain ⟨mk, hmk⟩ := make_spans M (by omega)
  have HMR : ∀ W : World, (Instr.makeSlice 28 (.int .i64 0) (.int .i64 (M : Int))).run Tryz.prog W = .ok (.slice (some ⟨W.heap.size, 0, none⟩) 0 M) (mk W) := fun W => (hmk W).1
  have HMO := hideS (fun W => (hmk W).2)
  clear hmk hN hRa hna
  have w1 : (N : Int) + 3 = (M : Int) := by omega
  have w2 : IntKind.i64.wrap (M : Int) = (M : Int) := IntWalk.i64_in _ ⟨by omega, by omega⟩
  obtain ⟨V, hV⟩ : ∃ V, (w.alloc (.cells #[.string s, .slice oa N ca] 30)).alloc (.cells #[.string ⟨#[]⟩, .slice none 0 0] 30) = V := ⟨_, rfl⟩
  have t0 : Tx V w.heap.size (.string s) (.slice oa N ca) := by rw [← hV]; exact (Tx.new w _ _).keep (bel1S _ _)
  have t1 : Tx V (w.heap.size + 1) (.string ⟨#[]⟩) (.slice none 0 0) := by
    rw [← hV]
    have h9 := Tx.new (w.alloc (.cells #[.string s, .slice oa N ca] 30)) (.string ⟨#[]⟩) (.slice none 0 0)
    rw [World.size_alloc] at h9
    exact h9
  have bV : Below w.heap.size w V := by rw [← hV]; exact bupS (bel1S _ _) (bel1S _ _)
  have HV := hideS (And.intro t0 (And.intro t1 bV))
  obtain ⟨k0, k1, _, _⟩ := t0.cells
  have hl0 := t0.lt
  clear t0 t1 bV
  obtain ⟨PO, hPO⟩ : ∃ PO : Ending → World → Prop, PO = fun e w' => ∃ g c, e = .returned (.agg #[.string s, .slice (some ⟨g, 0, none⟩) N c]) ∧ w'.ownsRow w.heap.size 44 4 (.slice (some ⟨g, 0, none⟩) (N + 1) c) (N + 1) (flat4 (D ++ [mkS])) ∧ Below w.heap.size w w' := ⟨_, rfl⟩
  rw [← hPO]
  have HPO := hideS hPO
  clear hPO
  have hFl : (flat4 D).length = N * 4 := by rw [flat4_len, HX.out.1]
  have kK : ∀ W : World, Below V.heap.size V W → W.cell? ⟨w.heap.size, 1, none⟩ = some (.slice oa N ca) := fun W h => (h.cell (p := ⟨w.heap.size, 1, none⟩) hl0).trans k1
  have HKK := hideS kK
  clear kK
  have bM : Below V.heap.size V (mk V.drew) := Below.grown ((Below.refl V.heap.size V).drew) (HMO.out V.drew).2 (Nat.le_refl _) (fun k hk => by cases hk)
  have HM := hideS (And.intro bM (HMO.out V.drew).1)
  clear bM
  go_enter Tryz.func12, Tryz.ntmps12
  go_upto_region 1 with fail
  try rw [hV]
  clear hV
  go_cut [3] (fun o wx => ∃ gg cap, o = .slice (some ⟨gg, 0, none⟩) N cap ∧ wx.ownsRow V.heap.size 44 4 o N (flat4 D) ∧ Below V.heap.size V wx)
  case first =>
    go_region_held3 (fun w' => w'.cell? ⟨w.heap.size, 1, none⟩ = some (.slice oa N ca)) (first | exact HKK.out _ HM.out.1 | exact HKK.out _ bC | go_keep | assumption)
      (first | ((refine step_spans _ (by rfl) _ _ _ (by rfl) V.heap.size 44 i0 (.agg #[.int .i64 0, .int .i64 0, .int .i64 0, .int .i64 0]) 4 32 Tryz.underlying28 hi hz0 hz1 hz2 rfl (by decide) (.slice (some ⟨V.heap.size, 0, none⟩) 0 M) 0 [] (by rfl) HM.out.2 oa N ca (flat4 D) (by rfl) (fun h => by obtain ⟨h1, h2⟩ := HX.out.2.2 h; have h3 := HX.out.1; rw [h1] at h3; exact ⟨h3.symm, h2⟩) hFl (fun ad h j u hj => (SpO.flat (Q := D) (a := ad) (by have h9 := HX.out.2.1.keep (bupS HV.out.2.2 HM.out.1); rw [h] at h9; exact h9)) j u hj) (flat4_one D) (by unfold maxLen; omega) (by omega) (show V.heap.size ≤ (mk V.drew).heap.size from HM.out.1.size) (by simp) ?_); intro vC wC ownC growC hvC; have bC : Below V.heap.size V wC := Below.grown HM.out.1 growC HM.out.1.size (fun k hk => (HM.out.2.lt k hk).1)))
    all_goals first | go_wp2_with fail | skip
    all_goals go_meet
    all_goals
      rw [Nat.zero_add, List.nil_append] at ownC
      obtain ⟨gg, cap, e9⟩ : ∃ gg cap, vC = .slice (some ⟨gg, 0, none⟩) N cap := by
        rcases ownC.2 with ⟨e0, _⟩ | ⟨gg, cap, cur, e0, _⟩
        · exact absurd e0 hvC
        · exact ⟨gg, cap, e0⟩
      exact ⟨gg, cap, e9, ownC, bC⟩
  case rest =>
    obtain ⟨gg, cap, rfl, ownC, bC⟩ := hcut
    have tC := HV.out.1.keep bC
    have tD := HV.out.2.1.keep bC
    have bW := bupS HV.out.2.2 bC
    have HC := hideS (And.intro ownC (And.intro tC (And.intro tD (And.intro bW bC))))
    have sC := bC.size
    have hlV : w.heap.size + 1 < V.heap.size := HV.out.2.1.lt
    have wn : IntKind.i64.wrap (N : Int) = (N : Int) := IntWalk.i64_in _ ⟨by omega, by omega⟩
    clear ownC tC tD bW bC HKK HM HMO HMR k0 k1
    obtain ⟨Z, hZ⟩ : ∃ Z, wc.alloc (.cells #[.int .i64 (-77), .int .i64 0, .int .i64 0, .int .i64 0] 44) = Z := ⟨_, rfl⟩
    have bZ : Below wc.heap.size wc Z := by rw [← hZ]; exact bel1S _ _
    have cZ := cell_fourS wc (.int .i64 (-77)) (.int .i64 0) (.int .i64 0) (.int .i64 0) 44
    rw [hZ] at cZ
    have HZ := hideS (And.intro (own_keepS HC.out.1 bZ) (And.intro bZ cZ))
    clear bZ cZ
    go_wp2_with (at_builtin; refine wpList_append_own _ rfl _ _ 28 rfl V.heap.size 44 i0 (.agg #[.int .i64 0, .int .i64 0, .int .i64 0, .int .i64 0]) 4 32 Tryz.underlying28 hi hz0 hz1 hz2 rfl (by decide) _ N (flat4 D) rfl HZ.out.1 ⟨wc.heap.size, 0, none⟩ 1 1 [.int .i64 (-77), .int .i64 0, .int .i64 0, .int .i64 0] rfl rfl HZ.out.2.2 (fun u hu => by simp at hu; rcases hu with rfl | rfl | rfl | rfl <;> rfl) (by unfold maxLen; omega) (by omega) (Nat.le_trans sC HZ.out.2.1.size) ?_; intro vE wE ownE growE _; obtain ⟨ge, ce, rfl, hce⟩ := own_some ownE; have cN : (N : Int) ≤ (ce : Int) := (by omega); have bE : Below V.heap.size V wE := Below.grown (bupS HC.out.2.2.2.2 HZ.out.2.1) growE (Nat.le_trans sC HZ.out.2.1.size) (fun k hk => (HZ.out.1.lt k hk).1); have tE := HV.out.1.keep bE; obtain ⟨k0, k1, f0, f1⟩ := tE.cells; have tF := HV.out.2.1.keep bE; obtain ⟨m0, m1, g0, g1⟩ := tF.cells; have HE := hideS (And.intro ownE (And.intro tE (And.intro tF bE))); clear ownE tE tF bE growE)
    have bF : Below w.heap.size w wE := bupS HV.out.2.2 HE.out.2.2.2
    have tG : Tx (wE.setCell ⟨w.heap.size, 1, none⟩ (.slice (some ⟨ge, 0, none⟩) N ce)) (w.heap.size + 1) (.string ⟨#[]⟩) (.slice none 0 0) := ((But.set (M := fun k => k = w.heap.size) wE ⟨w.heap.size, 1, none⟩ (.slice (some ⟨ge, 0, none⟩) N ce) rfl).same (w.heap.size + 1) HE.out.2.2.1.lt (by omega)).trans HE.out.2.2.1
    have tH := tG.set (.string s) (.slice (some ⟨ge, 0, none⟩) N ce)
    have HF := hideS (show Tx (((wE.setCell ⟨w.heap.size, 1, none⟩ (.slice (some ⟨ge, 0, none⟩) N ce)).setCell ⟨w.heap.size + 1, 0, none⟩ (.string s)).setCell ⟨w.heap.size + 1, 1, none⟩ (.slice (some ⟨ge, 0, none⟩) N ce)) (w.heap.size + 1) (.string s) (.slice (some ⟨ge, 0, none⟩) N ce) ∧ PO (.returned (.agg #[.string s, .slice (some ⟨ge, 0, none⟩) N ce])) (((wE.setCell ⟨w.heap.size, 1, none⟩ (.slice (some ⟨ge, 0, none⟩) N ce)).setCell ⟨w.heap.size + 1, 0, none⟩ (.string s)).setCell ⟨w.heap.size + 1, 1, none⟩ (.slice (some ⟨ge, 0, none⟩) N ce)) from ⟨tH, by
      rw [HPO.out]
      refine ⟨ge, ce, rfl, ?_, ((bF.setCell (p := ⟨w.heap.size, 1, none⟩) (Nat.le_refl _) _).setCell (p := ⟨w.heap.size + 1, 0, none⟩) (Nat.le_succ _) _).setCell (p := ⟨w.heap.size + 1, 1, none⟩) (Nat.le_succ _) _⟩
      have h9 := HE.out.1
      rw [show flat4 D ++ [.int .i64 (-77), .int .i64 0, .int .i64 0, .int .i64 0] = flat4 (D ++ [mkS]) from (flat4_snoc D mkS).symm] at h9
      exact own_fromS (ownsRow_setCell_below (ownsRow_setCell_below (ownsRow_setCell_below h9 (a := ⟨w.heap.size, 1, none⟩) (show w.heap.size < V.heap.size by omega) _) (a := ⟨w.heap.size + 1, 0, none⟩) hlV _) (a := ⟨w.heap.size + 1, 1, none⟩) hlV _) HV.out.2.2.size⟩)
    clear bF tG tH
    generalize (((wE.setCell ⟨w.heap.size, 1, none⟩ (.slice (some ⟨ge, 0, none⟩) N ce)).setCell ⟨w.heap.size + 1, 0, none⟩ (.string s)).setCell ⟨w.heap.size + 1, 1, none⟩ (.slice (some ⟨ge, 0, none⟩) N ce)) = W9 at *
    obtain ⟨r0, r1, _, _⟩ := HF.out.1.cells
    exact bodyPost_ret (v := .agg #[.string s, .slice (some ⟨ge, 0, none⟩) N ce]) (by simp [results, Tryz.results12, go_sem, r0, r1]) rfl HF.out.2
set_option maxRecDepth 100000 in
set_option maxHeartbeats 4000000 in
theorem back_any7 (s s2 : ByteArray) (D : List Sp) (oa : Option Addr) (ca g c B : Nat) (hl : D.length ≤ 4398046510976) (w : World) (hRa : SpO w oa D) (hO : w.ownsRow B 44 4 (.slice (some ⟨g, 0, none⟩) (D.length + 1) c) (D.length + 1) (flat4 (D ++ [mkS]))) :
    Calls Tryz.prog 15 #[.agg #[.string s, .slice (some ⟨g, 0, none⟩) D.length c], .agg #[.string s2, .slice oa D.length ca]] w fun e w' => e = .returned (.bool true) ∧ But (fun k => k = g) w w' := by
  obtain ⟨N, hN⟩ : ∃ N, D.length = N := ⟨_, rfl⟩
  obtain ⟨M, hM⟩ : ∃ M, N + 1 = M := ⟨_, rfl⟩
  obtain ⟨o9, c9, e9, hc9, _, hsc, _⟩ := own_sc hO (by simp)
  obtain ⟨rfl, rfl⟩ : some (⟨g, 0, none⟩ : Addr) = o9 ∧ c = c9 := by simpa using e9
  obtain ⟨g9, e8, hBg, hSC⟩ := hsc _ rfl
  obtain rfl : g = g9 := by simpa using e8
  have hcl : N ≤ c ∧ c ≤ maxLen := by rw [hN] at hc9; exact ⟨by omega, hc9.2⟩
  have hcm : c ≤ 9223372036854775807 := hcl.2
  have hMc : M ≤ c := by rw [hN, hM] at hc9; exact hc9.1
  have hsp1 : SpO w (some ⟨g, 0, none⟩) D := fun i p hp => hSC.spo i p (by rw [List.getElem?_append_left (List.getElem?_eq_some_iff.1 hp).1]; exact hp)
  have hmk : (D ++ [mkS])[N]? = some mkS := by rw [← hN]; simp
  have hDM : (D ++ [mkS]).length = M := by rw [List.length_append, hN]; exact hM
  obtain ⟨V, hV⟩ : ∃ V, (w.alloc (.cells #[.string s, .slice (some ⟨g, 0, none⟩) N c] 30)).alloc (.cells #[.string s2, .slice oa N ca] 30) = V := ⟨_, rfl⟩
  have bV : Below w.heap.size w V := by rw [← hV]; exact bupS (bel1S _ _) (bel1S _ _)
  have t0 : Tx V w.heap.size (.string s) (.slice (some ⟨g, 0, none⟩) N c) := by rw [← hV]; exact (Tx.new w _ _).keep (bel1S _ _)
  have t1 : Tx V (w.heap.size + 1) (.string s2) (.slice oa N ca) := by
    rw [← hV]
    have h9 := Tx.new (w.alloc (.cells #[.string s, .slice (some ⟨g, 0, none⟩) N c] 30)) (.string s2) (.slice oa N ca)
    rw [World.size_alloc] at h9
    exact h9
  have HS := hideS (samesp_any D (some ⟨g, 0, none⟩) oa c ca (by rw [hN]; exact hcl) V (hsp1.keep bV) (hRa.keep bV))
  rw [hN] at HS hl ⊢
  have hgw := hSC.lt
  have HX := hideS (And.intro hSC (And.intro bV (And.intro hmk hDM)))
  have HT := hideS (And.intro t0 t1)
  obtain ⟨k0, k1, _, _⟩ := t0.cells
  obtain ⟨k2, k3, _, _⟩ := t1.cells
  clear hsp1 bV hRa hO hSC hmk hDM t0 t1 hsc hN hc9 e9
  have w1 : (N : Int) + 1 = (M : Int) := by omega
  have w2 : IntKind.i64.wrap (M : Int) = (M : Int) := IntWalk.i64_in _ ⟨by omega, by omega⟩
  have w3 : (M : Int) ≤ (c : Int) := by omega
  have w4 : (N : Int) < (M : Int) := by omega
  have hgd := sp_guard
  have heq := sp_eql
  go_enter Tryz.func15, Tryz.ntmps15
  go_wp2_with fail
  refine HS.out.mono ?_
  rintro e w5 ⟨rfl, b5⟩
  have hS5 := (HX.out.1.keep (bupS HX.out.2.1 b5))
  obtain ⟨⟨m0, m1, m2, m3⟩, _⟩ := hS5.at HX.out.2.2.1
  change w5.cell? ⟨g, N * 4, none⟩ = some (.int .i64 (-77)) at m0
  change w5.cell? ⟨g, N * 4 + 1, none⟩ = some (.int .i64 0) at m1
  change w5.cell? ⟨g, N * 4 + 2, none⟩ = some (.int .i64 0) at m2
  change w5.cell? ⟨g, N * 4 + 3, none⟩ = some (.int .i64 0) at m3
  have q3 := (HT.out.2.keep b5).cells.2.1
  have H5 := hideS (And.intro hS5 (bupS HX.out.2.1 b5))
  clear hS5 b5 k0 k1 k2 k3 HS hV
  go_wp2_with fail
  go_loopw [7] (fun iv wz => ∃ (κ i : Nat) (Q : List Sp), iv = .int .i64 (i : Nat) ∧ i ≤ M ∧ Q.length = M ∧ SC κ wz g Q ∧ But (fun k => k = g) w wz) (fun iv _ => M - (intOf iv).toNat)
  case atStart => exact ⟨_, 0, D ++ [mkS], rfl, Nat.zero_le _, HX.out.2.2.2, H5.out.1, But.grown H5.out.2⟩
  case round =>
    obtain ⟨κ, i, Q, rfl, hiM, hQ, hSC, hBt⟩ := hrel
    obtain ⟨wz, rfl⟩ : ∃ wz, wz = wr := ⟨_, rfl⟩
    clear H5 m0 m1 m2 m3 q3
    by_cases hlt : i < M
    · obtain ⟨x, hx⟩ : ∃ x, Q[i]? = some x := ⟨_, List.getElem?_eq_getElem (by omega)⟩
      obtain ⟨⟨c0, c1, c2, c3⟩, f0, f1, f2, f3⟩ := hSC.at hx
      have d1 : (i : Int) < (M : Int) := by omega
      have wi : IntKind.i64.wrap ((i : Int) + 1) = ((i + 1 : Nat) : Int) := by rw [show ((i + 1 : Nat) : Int) = (i : Int) + 1 by omega]; exact IntWalk.i64_in _ ⟨by omega, by omega⟩
      have HZ : Hid (SC κ (put4 wz g i ⟨7, 9, 1, 0⟩) g (Q.set i ⟨7, 9, 1, 0⟩) ∧ But (fun k => k = g) w (put4 wz g i ⟨7, 9, 1, 0⟩)) := hideS ⟨hSC.set i _, hBt.trans (put4_but _ _ _ _)⟩
      unfold put4 at HZ
      have HQl := hideS hQ
      clear hSC hBt hx hQ
      go_wp2_with fail
      go_roundw
      case rel => exact ⟨κ, i + 1, Q.set i ⟨7, 9, 1, 0⟩, by first | rfl | simp, by omega, by rw [List.length_set]; exact HQl.out, HZ.out.1, HZ.out.2⟩
      case measure => simp [intOf]; omega
    · have d1 : ¬ (i : Int) < (M : Int) := by omega
      have HZ := hideS hBt
      clear hBt hSC hQ
      go_wp2_with fail
      go_ret
      exact ⟨rfl, HZ.out⟩
end Go.Proofs.YtjfhlddbkdkjbaaGreatDoor

/- surtitlelaw7.SameText of two texts that are the same (chapter 7). -/
namespace Go.Proofs.YtjfhlddbkdkjbaaGreatDoor
open Go.RowKit Go.Shelf
attribute [local go_sem] Oper.semAt_some

set_option maxRecDepth 100000 in
set_option maxHeartbeats 1000000 in
theorem sametx_sp (s : ByteArray) (D : List Sp) (o1 o2 : Option Addr) (c1 c2 : Nat) (hc1 : D.length ≤ c1 ∧ c1 ≤ maxLen) (w : World) (hR1 : SpO w o1 D) (hR2 : SpO w o2 D) :
    Calls Tryz.prog 9 #[.agg #[.string s, .slice o1 D.length c1], .agg #[.string s, .slice o2 D.length c2]] w fun e w' => e = .returned (.bool true) ∧ Below w.heap.size w w' := by
  have HB0 := bupS (bel1S w (.cells #[.string s, .slice o1 D.length c1] 30)) (bel1S _ (.cells #[.string s, .slice o2 D.length c2] 30))
  have HS := hideS (fun (W : World) (h : Below w.heap.size w W) => samesp_any D o1 o2 c1 c2 hc1 W (hR1.keep h) (hR2.keep h))
  have hss : (s.toList == s.toList) = true := by simp
  have HB := hideS HB0
  clear hR1 hR2 HB0
  obtain ⟨N, hN⟩ : ∃ N, D.length = N := ⟨_, rfl⟩
  rw [hN] at HS HB ⊢
  clear hN hc1
  go_enter Tryz.func9, Tryz.ntmps9
  go_wp2_with fail
  refine (HS.out _ HB.out).mono ?_
  rintro e w1 ⟨rfl, b1⟩
  have H1 := hideS (bupS HB.out b1)
  clear b1
  go_wp2_with fail
  go_ret
  exact ⟨rfl, H1.out⟩
end Go.Proofs.YtjfhlddbkdkjbaaGreatDoor

/- Texts in memory: rows read, blocks kept. -/
namespace Go.Proofs.YtjfhlddbkdkjbaaGreatDoor
open Go.RowKit Go.Shelf

theorem front_spoB {W : World} {B g c n : Nat} {D : List Sp} (h : W.ownsRow B 44 4 (.slice (some ⟨g, 0, none⟩) (n + 1) c) (n + 1) (flat4 (D ++ [mkS]))) (hn : D.length = n) : SpO W (some ⟨g, 0, none⟩) D ∧ B ≤ g ∧ (n ≤ c ∧ c ≤ maxLen) := by
  obtain ⟨o9, c9, e9, hc9, _, hsc, _⟩ := own_sc h (by simp [hn])
  obtain ⟨rfl, rfl⟩ : some (⟨g, 0, none⟩ : Addr) = o9 ∧ c = c9 := by simpa using e9
  obtain ⟨g9, e8, hBg, hSC⟩ := hsc _ rfl
  obtain rfl : g = g9 := by simpa using e8
  exact ⟨fun i p hp => hSC.spo i p (by rw [List.getElem?_append_left (List.getElem?_eq_some_iff.1 hp).1]; exact hp), hBg, by omega, hc9.2⟩
theorem own_ltB {W : World} {base g n c : Nat} {e : TypeId} {size : Nat} {xs : List Value} (h : W.ownsRow base e size (.slice (some ⟨g, 0, none⟩) n c) n xs) : g < W.heap.size := by
  rcases h.2 with ⟨e0, _⟩ | ⟨g2, c2, cur, e0, _, hg, _⟩
  · simp at e0
  · obtain ⟨rfl, rfl⟩ : g = g2 ∧ c = c2 := by simpa using e0
    exact (Array.getElem?_eq_some_iff.1 hg).1
theorem Tx.butB {W V : World} {P g : Nat} {a b : Value} (h : Tx W P a b) (k : But (fun k => k = g) W V) (hne : P ≠ g) : Tx V P a b := (k.same P h.lt hne).trans h
theorem own_readB {W : World} {base n : Nat} {v : Value} {Q : List Sp} (h : W.ownsRow base 44 4 v n (flat4 Q)) (hn : Q.length = n) : ∃ o cap, v = .slice o n cap ∧ (n ≤ cap ∧ cap ≤ maxLen) ∧ SpO W o Q ∧ (∀ a, o = some a → base ≤ a.block) := by
  obtain ⟨o, cap, e, hc, _, hs, hel⟩ := own_sc h hn
  refine ⟨o, cap, e, hc, ?_, fun a ha => ?_⟩
  · cases o with
    | none => rw [hel rfl]; exact SpO.nil _ _
    | some ad =>
      obtain ⟨g, rfl, _, hsc⟩ := hs ad rfl
      exact hsc.spo
  · obtain ⟨g, rfl, hg, _⟩ := hs a ha
    exact hg
end Go.Proofs.YtjfhlddbkdkjbaaGreatDoor

/- A text with spans that is handed in, opened (chapter 7). -/
namespace Go.Proofs.YtjfhlddbkdkjbaaGreatDoor
open Go.ChangeShapes Go.WideShapes Go.ChangeAt Go.RowKit Go.Joins

instance : Inhabited Sp := ⟨⟨0, 0, 0, 0⟩⟩
theorem cellsTx : Tryz.prog.cellsOf 30 = 2 := by kernel_rfl
theorem cellsSp : Tryz.prog.cellsOf 44 = 4 := by kernel_rfl
theorem bytesSp : Tryz.prog.bytesOf 44 = 32 := by kernel_rfl
theorem addrS_zero (a : Addr) : a.add 0 = a := by unfold Addr.add; rw [if_pos rfl]
theorem addrS_succ (a : Addr) (j : Nat) : a.add (j + 1) = ⟨a.block, a.off + (j + 1), none⟩ := by unfold Addr.add; rw [if_neg (by omega)]
set_option maxRecDepth 100000 in
theorem open_sp {H : Type} {enc : TypeId × Value → H} {W : World} {base : Nat} {spare : Nat → Bool} {held : Bool} {fuel : Nat} {v : Value} {x : DataW H × List MemPlace}
    (h : DataW.trod enc Tryz.prog W base spare held fuel 28 [v] = some x) :
    ∃ (D : List Sp) (o : Option Addr) (cap : Nat), v = .slice o D.length cap ∧ (D.length ≤ cap ∧ cap ≤ maxLen) ∧ (o = none → D = [] ∧ cap = 0) ∧ SpO W o D ∧
      ((x.1 = .nil ∧ D = []) ∨ ∃ el sp, x.1 = .slice el sp ∧ el.length = D.length) := by
  rcases Deep.open_slice Tryz.underlying28 h with ⟨hcs, hx⟩ | ⟨a, len, cap, m, n, E, Pl, hcs, hb, hl, hm, hmm, hx, hel⟩
  · simp at hcs
    subst hcs
    exact ⟨[], none, 0, rfl, ⟨by simp, by decide⟩, fun _ => ⟨rfl, rfl⟩, SpO.nil W none, .inl ⟨by rw [hx], rfl⟩⟩
  · simp at hcs
    subst hcs
    have hlm : len ≤ m := by rw [hmm]; split <;> omega
    have key : ∀ i, i < len → ∃ q : Sp, a.block < W.heap.size ∧
        W.cell? (a.add (i * 4)) = some (.int .i64 q.fr) ∧ W.cell? ⟨(a.add (i * 4)).block, (a.add (i * 4)).off + 1, none⟩ = some (.int .i64 q.tt) ∧ W.cell? ⟨(a.add (i * 4)).block, (a.add (i * 4)).off + 2, none⟩ = some (.int .i64 q.kd) ∧ W.cell? ⟨(a.add (i * 4)).block, (a.add (i * 4)).off + 3, none⟩ = some (.int .i64 q.vl) := by
      intro i hi
      obtain ⟨cs', h1, h2⟩ := hel i (by omega)
      rw [cellsSp] at h1
      have hbl := World.cells?_block h1 (by decide)
      rw [addrS_block] at hbl
      obtain ⟨_, hlen, hcell⟩ := World.cells?_some h1
      match cs', hlen with
      | [v0, v1, v2, v3], _ =>
        obtain ⟨y0, y1, y2, y3, k, _, _, t0, t1, t2, t3⟩ := trod_struct4 Tryz.underlying44 h2
        obtain ⟨k0, a0, _, w0⟩ := DataW.trod_int Tryz.underlying3 t0
        obtain ⟨k1, a1, _, w1⟩ := DataW.trod_int Tryz.underlying3 t1
        obtain ⟨k2, a2, _, w2⟩ := DataW.trod_int Tryz.underlying3 t2
        obtain ⟨k3, a3, _, w3⟩ := DataW.trod_int Tryz.underlying3 t3
        have c3 : Tryz.prog.cellsOf 3 = 1 := by kernel_rfl
        simp [c3] at a0 a1 a2 a3
        subst a0 a1 a2 a3
        have e0 := hcell 0 (by omega)
        have e1 := hcell 1 (by omega)
        have e2 := hcell 2 (by omega)
        have e3 := hcell 3 (by omega)
        rw [addrS_zero] at e0
        rw [addrS_succ] at e1 e2 e3
        exact ⟨⟨k0, k1, k2, k3⟩, hbl, e0, e1, e2, e3⟩
    obtain ⟨q, hq⟩ := Deep.choose_lt key
    refine ⟨(List.range len).map q, some a, cap, by simp, ⟨by simpa using hl, hm⟩, (fun e => nomatch e), fun i r hr => ?_, .inr ⟨_, _, by rw [hx], by simp⟩⟩
    have hi : i < len := by
      have := (List.getElem?_eq_some_iff.1 hr).1
      simpa using this
    have er : r = q i := by
      rw [List.getElem?_map, List.getElem?_range hi] at hr
      simpa using hr.symm
    rw [er]
    exact ⟨a, rfl, hq i hi⟩
set_option maxRecDepth 100000 in
theorem open_text {H : Type} {enc : TypeId × Value → H} {W : World} {r : Reach} {b0 base : Nat} {spare : Nat → Bool} {held : Bool} {v : Value} {d : DataW H} {p : List MemPlace}
    (hv : Value.okWide Tryz.prog W r b0 30 v) (h : DataW.Trod enc Tryz.prog W base spare held 30 v d p)
    (hsz : (DataW.weights Tryz.prog 30 d).all (· ≤ reachBytes) = true) :
    ∃ (s : ByteArray) (D : List Sp) (o : Option Addr) (cap : Nat), v = .agg #[.string s, .slice o D.length cap] ∧ (D.length ≤ cap ∧ cap ≤ maxLen) ∧ (o = none → D = [] ∧ cap = 0) ∧ SpO W o D ∧ s.size ≤ 140737488355328 ∧ D.length ≤ 4398046510976 := by
  obtain ⟨c0, c1, y0, y1, m, rfl, rfl, rfl, hy0, hy1⟩ := open_agg2 Tryz.underlying30 (by kernel_rfl) cellsTx hv h
  obtain ⟨s, e0, rfl, _⟩ := DataW.trod_string Tryz.underlying9 hy0
  simp at e0
  subst e0
  obtain ⟨D, o, cap, rfl, hc, hn, hR, hd⟩ := open_sp hy1
  have hu : Tryz.prog.underlying 30 = _ := Tryz.underlying30
  unfold DataW.weights at hsz
  rw [hu] at hsz
  simp only [List.map_cons, List.map_nil, DataW.weightsEach, List.all_append, Bool.and_eq_true, List.append_nil, reachBytes] at hsz
  obtain ⟨hs0, hs1⟩ := hsz
  refine ⟨s, D, o, cap, rfl, hc, hn, hR, ?_, ?_⟩
  · simp only [DataW.weights, List.all_cons, Bool.and_eq_true] at hs0
    have h1 := of_decide_eq_true (by first | exact hs0 | exact hs0.1 : decide _ = true)
    rw [Lib.size_eq]
    omega
  · rcases hd with ⟨_, rfl⟩ | ⟨el, sp, e, hl⟩
    · simp
    · rw [e] at hs1
      unfold DataW.weights at hs1
      have hv2 : Tryz.prog.underlying 28 = _ := Tryz.underlying28
      rw [hv2] at hs1
      simp only [List.all_cons, Bool.and_eq_true, bytesSp] at hs1
      have h1 := of_decide_eq_true hs1.1
      omega
end Go.Proofs.YtjfhlddbkdkjbaaGreatDoor
