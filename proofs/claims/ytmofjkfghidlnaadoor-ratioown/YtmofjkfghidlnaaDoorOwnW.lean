/- The walk of surtitlelaw3.RatioOwn. -/
import Derived.Test.YtmofjkfghidlnaaDoorOwnA
import Derived.Test.YtmofjkfghidlnaaDoorRatFine
import Derived.BigQuiet
namespace Go.Proofs.YtmofjkfghidlnaaDoor
open Go.RowKit Go.Shelf
attribute [local go_sem] Oper.semAt_some

theorem infoRt : (Tryd.prog.info? 26).map (fun i => (i.zero, i.size, i.bytes)) = some (some (.agg #[.int .i64 0, .int .i64 0]), 2, 16) := by kernel_rfl

/-- Ratios that can be read one behind the other. -/
def Cells (l : List Rt) (a : Addr) (V : World) : Prop := ∀ (i : Nat) (p : Rt), l[i]? = some p → V.cell? (a.add (i * 2)) = some (.int .i64 p.N) ∧ V.cell? (a.add (i * 2 + 1)) = some (.int .i64 p.D)
theorem Cells.pair {l : List Rt} {a : Addr} {V : World} (h : Cells l a V) {i : Nat} {p : Rt} (hp : l[i]? = some p) : V.cell? (a.add (i * 2)) = some (.int .i64 p.N) ∧ V.cell? ⟨(a.add (i * 2)).block, (a.add (i * 2)).off + 1, none⟩ = some (.int .i64 p.D) := by
  obtain ⟨h1, h2⟩ := h i p hp
  rw [addr_next] at h2
  exact ⟨h1, h2⟩
theorem Cells.flat {l : List Rt} {a : Addr} {V : World} (h : Cells l a V) (j : Nat) (u : Value) (hu : (flatR l)[j]? = some u) : V.cell? (a.add j) = some u := by
  have hj : j < l.length * 2 := by rw [← flatR_length]; exact (List.getElem?_eq_some_iff.1 hu).1
  obtain ⟨p, hp⟩ : ∃ p, l[j / 2]? = some p := ⟨_, List.getElem?_eq_getElem (by omega)⟩
  obtain ⟨g0, g1⟩ := flatR_get l _ p hp
  obtain ⟨c0, c1⟩ := h _ p hp
  by_cases hm : j % 2 = 0
  · have e : j / 2 * 2 = j := by omega
    rw [e] at g0 c0
    rw [c0, ← g0, hu]
  · have e : j / 2 * 2 + 1 = j := by omega
    rw [e] at g1 c1
    rw [c1, ← g1, hu]

/-- What RatioOwn has laid down. -/
def Fill (l : List Rt) (C : Nat → Value) (k : Nat) : Prop := (∀ (i : Nat) (p : Rt), l[i]? = some p → C (i * 2) = .int .i64 p.N ∧ C (i * 2 + 1) = .int .i64 p.D) ∧ ∀ i, l.length ≤ i → i < k → C (i * 2 + 1) = .int .i64 (-77)
theorem Fill.step {l : List Rt} {C : Nat → Value} {k : Nat} (h : Fill l C k) (hk : l.length ≤ k) : Fill l (upd (upd C (k * 2) (.int .i64 (-77))) (k * 2 + 1) (.int .i64 (-77))) (k + 1) := by
  refine ⟨fun i p hp => ?_, fun i h1 h2 => ?_⟩
  · have hi : i < l.length := (List.getElem?_eq_some_iff.1 hp).1
    unfold upd
    rw [if_neg (by omega), if_neg (by omega), if_neg (by omega), if_neg (by omega)]
    exact h.1 i p hp
  · unfold upd
    by_cases e : i = k
    · rw [if_pos (by omega)]
    · rw [if_neg (by omega), if_neg (by omega)]
      exact h.2 i h1 (by omega)
theorem own_row {l : List Rt} {C : Nat → Value} {k g : Nat} {V : World} (h : Own V g ((l.length + 3) * 2) C) (f : Fill l C k) : RowAt l ⟨g, 0, none⟩ V := by
  refine ⟨h.1, fun i p hp => ?_⟩
  have hi : i < l.length := (List.getElem?_eq_some_iff.1 hp).1
  rw [addr_flat, addr_flat, Nat.zero_add, Nat.zero_add, (h.2 (i * 2) (by omega)).1, (h.2 (i * 2 + 1) (by omega)).1, (f.1 i p hp).1, (f.1 i p hp).2]
  exact ⟨rfl, rfl⟩
theorem own_start {l : List Rt} {V : World} {base g : Nat} {t : TypeId} (h : V.ownsRow base t 2 (.slice (some ⟨g, 0, none⟩) (0 + l.length) (l.length + 3)) (0 + l.length) ([] ++ flatR l)) : ∃ C, Own V g ((l.length + 3) * 2) C ∧ Fill l C l.length := by
  rcases h.2 with ⟨h0, _⟩ | ⟨g', cap', cur, hv, _, hg, _, _, hcs, htake⟩
  · simp at h0
  · simp only [Value.slice.injEq, Option.some.injEq, Addr.mk.injEq, and_true] at hv
    obtain ⟨rfl, _, rfl⟩ := hv
    refine ⟨_, own_of_block hg hcs, fun i p hp => ?_, fun i h1 h2 => by omega⟩
    have hi : i < l.length := (List.getElem?_eq_some_iff.1 hp).1
    obtain ⟨f0, f1⟩ := flatR_get l i p hp
    rw [List.nil_append, Nat.zero_add] at htake
    rw [← htake, List.getElem?_take, if_pos (by omega), Array.getElem?_toList] at f0 f1
    simp only
    rw [f0, f1]
    exact ⟨rfl, rfl⟩

set_option maxRecDepth 100000 in
set_option maxHeartbeats 4000000 in
theorem own_walk (l : List Rt) (a : Addr) (cap : Nat) (hc : l.length ≤ cap ∧ cap ≤ maxLen) (w : World) (hR : ∀ V : World, Below w.heap.size w V → Cells l a V) (sn sd se xn xd yn yd : Int) (xo yo : Bool)
    (H1 : l.length ≤ 3000 → ∀ (g : Nat) (w0 : World), RowAt l ⟨g, 0, none⟩ w0 → Calls Tryd.prog 34 #[.slice (some ⟨g, 0, none⟩) l.length (l.length + 3)] w0 fun e w' => e = .returned (.tuple #[.agg #[.int .i64 sn, .int .i64 sd], .int .i64 se]) ∧ Below w0.heap.size w0 w')
    (H2 : l.length ≤ 3000 → ∀ (g : Nat) (w0 : World), RowAt l ⟨g, 0, none⟩ w0 → Calls Tryd.prog 36 #[.slice (some ⟨g, 0, none⟩) l.length (l.length + 3)] w0 fun e w' => e = .returned (.tuple #[.agg #[.int .i64 xn, .int .i64 xd], .bool xo]) ∧ Below w0.heap.size w0 w')
    (H3 : l.length ≤ 3000 → ∀ (g : Nat) (w0 : World), RowAt l ⟨g, 0, none⟩ w0 → Calls Tryd.prog 38 #[.slice (some ⟨g, 0, none⟩) l.length (l.length + 3)] w0 fun e w' => e = .returned (.tuple #[.agg #[.int .i64 yn, .int .i64 yd], .bool yo]) ∧ Below w0.heap.size w0 w') :
    Calls Tryd.prog 16 #[.slice (some a) l.length cap] w fun e w' => e = .returned (.bool true) ∧ Below w.heap.size w w' := by
  have hmx : maxLen ≤ 9223372036854775807 := by decide
  have hm3 : 3003 ≤ maxLen := by decide
  have HK := hideR known_any
  obtain ⟨i0, hi, hz0, hz1, hz2⟩ := info_parts infoRt
  by_cases hbig : 3000 < l.length
  · go_enter Tryd.func16, Tryd.ntmps16
    go_wp2_with fail
    go_at_call 17
    refine Calls.mono (HK.out _) ?_
    rintro e w1 ⟨rfl, b1⟩
    go_wp2_with fail
    go_ret
    exact ⟨rfl, b1⟩
  · have H1 := hideR (H1 (by omega))
    have H2 := hideR (H2 (by omega))
    have H3 := hideR (H3 (by omega))
    have hR := hideR hR
    go_enter Tryd.func16, Tryd.ntmps16
    go_wp2_with fail
    go_at_call 17
    refine Calls.mono (HK.out _) ?_
    rintro e w1 ⟨rfl, b1⟩
    have z1 := b1.size
    go_wp2_with (first | (at_make; refine wpList_make_own _ rfl _ _ 39 rfl w.heap.size 26 i0 (.agg #[.int .i64 0, .int .i64 0]) 2 Tryd.underlying39 hi hz0 hz1 .i64 .i64 _ (l.length + 3) rfl rfl (by simp) (by rw [hz2]; omega) (by omega) (by omega) ?_; intro w2 own2 gr2; have B2 := Below.grown b1 gr2 (by omega) (fun k hk => by cases hk); have R2 := hR.out _ B2) | (at_builtin; refine wpList_append_own_spare _ rfl _ _ 39 rfl w.heap.size 26 i0 2 Tryd.underlying39 hi hz1 w1.heap.size 0 (l.length + 3) [] rfl own2 a l.length cap (flatR l) rfl (flatR_length l) R2.flat (flatR_one l) (by omega) ?_; intro w3 own3 gr3))
    have B3 := Below.grown B2 gr3 (by have := gr2.size; omega) (fun k hk => by cases hk; omega)
    obtain ⟨C0, O3, F3⟩ := own_start own3
    clear own2 own3 gr2 gr3 B2 R2 b1
    go_loopw [5] (fun i wr => ∃ (k : Nat) (C : Nat → Value), i = .int .i64 k ∧ l.length ≤ k ∧ k ≤ l.length + 3 ∧ Own wr w1.heap.size ((l.length + 3) * 2) C ∧ Fill l C k ∧ Below w.heap.size w wr) (fun i _ => l.length + 3 - (intOf i).toNat)
    case atStart => exact ⟨l.length, C0, rfl, Nat.le_refl _, by omega, O3, F3, B3⟩
    case round =>
      clear O3 F3 B3
      obtain ⟨k, C, rfl, hk1, hk, hO, hF, hB⟩ := hrel
      by_cases hk2 : k < l.length + 3
      · obtain ⟨c0, f0⟩ := hO.2 (k * 2) (by omega)
        obtain ⟨c1, f1⟩ := hO.2 (k * 2 + 1) (by omega)
        have O4 := (hO.put (j := k * 2) (v := .int .i64 (-77)) (by omega)).put (j := k * 2 + 1) (v := .int .i64 (-77)) (by omega)
        have B4 := (hB.setCell (p := ⟨w1.heap.size, k * 2, none⟩) (by simp; omega) (.int .i64 (-77))).setCell (p := ⟨w1.heap.size, k * 2 + 1, none⟩) (by simp; omega) (.int .i64 (-77))
        go_wp2_with fail
        refine ⟨⟨k + 1, _, by go_num, by omega, by omega, O4, hF.step hk1, B4⟩, ?_⟩
        simp [intOf]
        omega
      · obtain rfl : k = l.length + 3 := by omega
        go_wp2_with fail
        go_at_call 34
        refine Calls.mono (H1.out _ _ (own_row hO hF)) ?_
        rintro e w5 ⟨rfl, b5⟩
        have O5 := hO.keep b5
        have B5 := bup hB b5
        clear hO hB b5
        go_wp2_with fail
        go_at_call 36
        refine Calls.mono (H2.out _ _ (own_row O5 hF)) ?_
        rintro e w6 ⟨rfl, b6⟩
        have O6 := O5.keep b6
        have B6 := bup B5 b6
        clear O5 B5 b6
        go_wp2_with fail
        go_at_call 38
        refine Calls.mono (H3.out _ _ (own_row O6 hF)) ?_
        rintro e w7 ⟨rfl, b7⟩
        have O7 := O6.keep b7
        have B7 := bup B6 b7
        clear O6 B6 b7
        go_wp2_with fail
        go_loopw [6] (fun i wr => ∃ k : Nat, i = .int .i64 k ∧ k ≤ l.length + 3 ∧ Own wr w1.heap.size ((l.length + 3) * 2) C ∧ Below w.heap.size w wr) (fun i _ => l.length + 3 - (intOf i).toNat)
        case atStart => exact ⟨0, rfl, Nat.zero_le _, O7, B7⟩
        case round =>
          clear O7 B7 hk1 hk hk2
          obtain ⟨k, rfl, hk, hO, hB⟩ := hrel
          by_cases hk2 : k < l.length + 3
          · obtain ⟨c0, f0⟩ := hO.2 (k * 2) (by omega)
            obtain ⟨c1, f1⟩ := hO.2 (k * 2 + 1) (by omega)
            by_cases hk3 : k < l.length
            · obtain ⟨p, hp⟩ : ∃ p, l[k]? = some p := ⟨_, List.getElem?_eq_getElem hk3⟩
              obtain ⟨d0, d1⟩ := (hR.out _ hB).pair hp
              rw [(hF.1 k p hp).1] at c0
              rw [(hF.1 k p hp).2] at c1
              clear hp
              have t1 : (k : Int) < (l.length : Int) := by omega
              have t2 : (k : Int) < (l.length : Int) + 3 := by omega
              have t3 : decide ((k : Int) < (l.length : Int)) = true := decide_eq_true t1
              have t4 : decide ((l.length : Int) ≤ (k : Int)) = false := decide_eq_false (by omega)
              have t5 : ¬ (l.length : Int) ≤ (k : Int) := by omega
              have t6 : ¬ l.length ≤ k := by omega
              have t7 : decide (l.length ≤ k) = false := decide_eq_false t6
              go_wp2_with fail
              go_quiet (fail)
              go_wp2_with fail
              refine ⟨⟨k + 1, by go_num, by omega, hO, by first | exact hB | exact hB.drew | exact below_drewN hB _⟩, ?_⟩
              simp [intOf]
              omega
            · rw [hF.2 k (by omega) (by omega)] at c1
              have t1 : ¬ (k : Int) < (l.length : Int) := by omega
              have t2 : (k : Int) < (l.length : Int) + 3 := by omega
              have t3 : decide ((k : Int) < (l.length : Int)) = false := decide_eq_false t1
              have t4 : decide ((l.length : Int) ≤ (k : Int)) = true := decide_eq_true (by omega)
              have t5 : (l.length : Int) ≤ (k : Int) := by omega
              go_wp2_with fail
              go_quiet (fail)
              go_wp2_with fail
              refine ⟨⟨k + 1, by go_num, by omega, hO, by first | exact hB | exact hB.drew | exact below_drewN hB _⟩, ?_⟩
              simp [intOf]
              omega
          · go_wp2_with fail
            go_ret
            exact ⟨rfl, hB⟩
end Go.Proofs.YtmofjkfghidlnaaDoor
