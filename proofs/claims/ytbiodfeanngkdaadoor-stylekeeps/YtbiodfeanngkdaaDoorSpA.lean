/- Spans that are read, by any address; style.fits, style.allFit (chapter 7). -/
import Derived.Test.YtbiodfeanngkdaaDoorSoA
namespace Go.Proofs.YtbiodfeanngkdaaDoor
open Go.RowKit Go.Shelf
attribute [local go_sem] Oper.semAt_some
variable {κ : Nat}

/-- Spans that lie one behind the other at an address, if there are any. -/
def SpO (V : World) (oa : Option Addr) (Q : List Sp) : Prop := ∀ (i : Nat) (p : Sp), Q[i]? = some p → ∃ a : Addr, oa = some a ∧ a.block < V.heap.size ∧
  V.cell? (a.add (i * 4)) = some (.int .i64 p.fr) ∧ V.cell? ⟨(a.add (i * 4)).block, (a.add (i * 4)).off + 1, none⟩ = some (.int .i64 p.tt) ∧ V.cell? ⟨(a.add (i * 4)).block, (a.add (i * 4)).off + 2, none⟩ = some (.int .i64 p.kd) ∧ V.cell? ⟨(a.add (i * 4)).block, (a.add (i * 4)).off + 3, none⟩ = some (.int .i64 p.vl)
theorem addrS_block (a : Addr) (n : Nat) : (a.add n).block = a.block := by unfold Addr.add; split <;> rfl
theorem SpO.nil (V : World) (oa : Option Addr) : SpO V oa [] := fun i p h => by simp at h
theorem SpO.keep {V V2 : World} {oa : Option Addr} {Q : List Sp} (h : SpO V oa Q) (b : Below V.heap.size V V2) : SpO V2 oa Q := fun i p hp => by
  obtain ⟨a, ha, hb, h0, h1, h2, h3⟩ := h i p hp
  have k : (a.add (i * 4)).block < V.heap.size := by rw [addrS_block]; exact hb
  exact ⟨a, ha, Nat.lt_of_lt_of_le hb b.size, (b.cell k).trans h0, (b.cell (p := ⟨(a.add (i * 4)).block, _, none⟩) k).trans h1, (b.cell (p := ⟨(a.add (i * 4)).block, _, none⟩) k).trans h2, (b.cell (p := ⟨(a.add (i * 4)).block, _, none⟩) k).trans h3⟩
theorem SpO.but {V V2 : World} {oa : Option Addr} {Q : List Sp} {M : Nat → Prop} (h : SpO V oa Q) (b : But M V V2) (hM : ∀ a, oa = some a → ¬ M a.block) : SpO V2 oa Q := fun i p hp => by
  obtain ⟨a, ha, hb, h0, h1, h2, h3⟩ := h i p hp
  have hk := b.same a.block hb (hM a ha)
  have e : ∀ q : Addr, q.block = a.block → V2.cell? q = V.cell? q := fun q hq => by unfold World.cell?; rw [hq, hk]
  have k := addrS_block a (i * 4)
  exact ⟨a, ha, Nat.lt_of_lt_of_le hb b.size, (e _ k).trans h0, (e ⟨(a.add (i * 4)).block, _, none⟩ k).trans h1, (e ⟨(a.add (i * 4)).block, _, none⟩ k).trans h2, (e ⟨(a.add (i * 4)).block, _, none⟩ k).trans h3⟩
theorem SC.spo {W : World} {G : Nat} {Q : List Sp} (h : SC κ W G Q) : SpO W (some ⟨G, 0, none⟩) Q := fun i p hp => by
  obtain ⟨⟨c0, c1, c2, c3⟩, _⟩ := h.at hp
  have e : (⟨G, 0, none⟩ : Addr).add (i * 4) = ⟨G, i * 4, none⟩ := by
    unfold Addr.add
    split
    · rename_i h0
      rw [h0]
    · simp
  refine ⟨⟨G, 0, none⟩, rfl, h.lt, ?_⟩
  rw [e]
  exact ⟨c0, c1, c2, c3⟩
/-- May a span be one of a text with n signs? -/
def fitB (x : Sp) (n : Int) : Bool := decide (1 ≤ x.kd ∧ x.kd ≤ 5 ∧ 0 ≤ x.vl ∧ x.vl ≤ (if x.kd = 5 then 16777215 else 0) ∧ 0 ≤ x.fr ∧ x.fr < x.tt ∧ x.tt ≤ n)
set_option maxRecDepth 100000 in
set_option maxHeartbeats 1000000 in
theorem fits_any (x : Sp) (n : Int) (w : World) : Calls Tryd.prog 30 #[x.val, .int .i64 n] w fun e w' => e = .returned (.bool (fitB x n)) ∧ Below w.heap.size w w' := by
  obtain ⟨f, t, k, v⟩ := x
  unfold fitB Sp.val
  simp only
  by_cases hk : k = 5
  · subst hk
    rw [if_pos rfl]
    by_cases h2 : 0 ≤ v
    rotate_left
    · rw [decide_eq_false (by omega)]
      go_enter Tryd.func30, Tryd.ntmps30
      go_wp2_with fail
      go_ret
      exact ⟨rfl, bel1S w _⟩
    by_cases h3 : v ≤ 16777215
    rotate_left
    · rw [decide_eq_false (by omega)]
      go_enter Tryd.func30, Tryd.ntmps30
      go_wp2_with fail
      go_ret
      exact ⟨rfl, bel1S w _⟩
    by_cases h4 : 0 ≤ f
    rotate_left
    · rw [decide_eq_false (by omega)]
      go_enter Tryd.func30, Tryd.ntmps30
      go_wp2_with fail
      go_ret
      exact ⟨rfl, bel1S w _⟩
    by_cases h5 : f < t
    rotate_left
    · rw [decide_eq_false (by omega)]
      go_enter Tryd.func30, Tryd.ntmps30
      go_wp2_with fail
      go_ret
      exact ⟨rfl, bel1S w _⟩
    by_cases h6 : t ≤ n
    rotate_left
    · rw [decide_eq_false (by omega)]
      go_enter Tryd.func30, Tryd.ntmps30
      go_wp2_with fail
      go_ret
      exact ⟨rfl, bel1S w _⟩
    rw [decide_eq_true (by omega)]
    go_enter Tryd.func30, Tryd.ntmps30
    go_wp2_with fail
    go_ret
    exact ⟨rfl, bel1S w _⟩
  · have hke : (k == 5) = false := by simpa using hk
    rw [if_neg hk]
    by_cases h0 : 1 ≤ k
    rotate_left
    · rw [decide_eq_false (by omega)]
      go_enter Tryd.func30, Tryd.ntmps30
      go_wp2_with fail
      go_ret
      exact ⟨rfl, bel1S w _⟩
    by_cases h1 : k ≤ 5
    rotate_left
    · rw [decide_eq_false (by omega)]
      go_enter Tryd.func30, Tryd.ntmps30
      go_wp2_with fail
      go_ret
      exact ⟨rfl, bel1S w _⟩
    by_cases h2 : 0 ≤ v
    rotate_left
    · rw [decide_eq_false (by omega)]
      go_enter Tryd.func30, Tryd.ntmps30
      go_wp2_with fail
      go_ret
      exact ⟨rfl, bel1S w _⟩
    by_cases h3 : v ≤ 0
    rotate_left
    · rw [decide_eq_false (by omega)]
      go_enter Tryd.func30, Tryd.ntmps30
      go_wp2_with fail
      go_ret
      exact ⟨rfl, bel1S w _⟩
    by_cases h4 : 0 ≤ f
    rotate_left
    · rw [decide_eq_false (by omega)]
      go_enter Tryd.func30, Tryd.ntmps30
      go_wp2_with fail
      go_ret
      exact ⟨rfl, bel1S w _⟩
    by_cases h5 : f < t
    rotate_left
    · rw [decide_eq_false (by omega)]
      go_enter Tryd.func30, Tryd.ntmps30
      go_wp2_with fail
      go_ret
      exact ⟨rfl, bel1S w _⟩
    by_cases h6 : t ≤ n
    rotate_left
    · rw [decide_eq_false (by omega)]
      go_enter Tryd.func30, Tryd.ntmps30
      go_wp2_with fail
      go_ret
      exact ⟨rfl, bel1S w _⟩
    rw [decide_eq_true (by omega)]
    go_enter Tryd.func30, Tryd.ntmps30
    go_wp2_with fail
    go_ret
    exact ⟨rfl, bel1S w _⟩
/-- Does each span fit? -/
def allB (D : List Sp) (n : Int) : Bool := D.all fun x => fitB x n
set_option maxRecDepth 100000 in
set_option maxHeartbeats 1000000 in
theorem allFit_any (D : List Sp) (oa : Option Addr) (cap : Nat) (n : Int) (hc : D.length ≤ cap ∧ cap ≤ maxLen) (w : World) (hR : SpO w oa D) :
    Calls Tryd.prog 13 #[.slice oa D.length cap, .int .i64 n] w fun e w' => e = .returned (.bool (allB D n)) ∧ Below w.heap.size w w' := by
  obtain ⟨N, hN⟩ : ∃ N, D.length = N := ⟨_, rfl⟩
  obtain ⟨B, hB⟩ : ∃ B, allB D n = B := ⟨_, rfl⟩
  have HN := hideS (And.intro hN hB)
  rw [hN] at hc
  rw [hB, hN]
  have hcm : cap ≤ 9223372036854775807 := hc.2
  have HR := hideS hR
  clear hR hN hB
  go_enter Tryd.func13, Tryd.ntmps13
  go_wp2_with fail
  go_loopw [9] (fun iv wq => ∃ i : Nat, iv = .int .i64 (i : Nat) ∧ i ≤ N ∧ (D.take i).all (fun x => fitB x n) = true ∧ Below w.heap.size w wq) (fun iv _ => N - (intOf iv).toNat)
  case atStart => exact ⟨0, rfl, Nat.zero_le _, rfl, Below.refl _ _⟩
  case round =>
    obtain ⟨i, rfl, hi, hall, hb⟩ := hrel
    obtain ⟨wq, rfl⟩ : ∃ wq, wq = wr := ⟨_, rfl⟩
    by_cases hlt : i < N
    · obtain ⟨x, hx⟩ : ∃ x, D[i]? = some x := ⟨_, List.getElem?_eq_getElem (by rw [HN.out.1]; exact hlt)⟩
      obtain ⟨a, rfl, hab, c0, c1, c2, c3⟩ := HR.out.keep hb i x hx
      have d1 : (i : Int) < (N : Int) := by omega
      have wi : IntKind.i64.wrap ((i : Int) + 1) = ((i + 1 : Nat) : Int) := by rw [show ((i + 1 : Nat) : Int) = (i : Int) + 1 by omega]; exact IntWalk.i64_in _ ⟨by omega, by omega⟩
      have HF := hideS (fits_any x n)
      unfold Sp.val at HF
      obtain ⟨g, hg⟩ : ∃ g, fitB x n = g := ⟨_, rfl⟩
      rw [hg] at HF
      have HA := hideS (And.intro (And.intro hall hg) (And.intro hb hx))
      clear hall hg hb hx
      go_wp2_with fail
      obtain ⟨V, hV⟩ : ∃ V, wq.alloc (.cells #[.int .i64 x.fr, .int .i64 x.tt, .int .i64 x.kd, .int .i64 x.vl] 45) = V := ⟨_, rfl⟩
      have HV : Hid (Below wq.heap.size wq V) := hideS (by rw [← hV]; exact bel1S _ _)
      rw [hV]
      refine (HF.out V).mono ?_
      rintro e w5 ⟨rfl, b5⟩
      have H5 := hideS (HA.out.2.1.trans ((bupS HV.out b5).mono HA.out.2.1.size))
      clear b5 HV hV c0 c1 c2 c3
      cases g with
      | true =>
        go_wp2_with fail
        go_roundw
        case rel =>
          refine ⟨i + 1, by first | rfl | simp, by omega, ?_, H5.out⟩
          rw [List.take_add_one, HA.out.2.2, List.all_append, HA.out.1.1]
          simp [HA.out.1.2]
        case measure => simp [intOf]; omega
      | false =>
        go_wp2_with fail
        go_ret
        refine ⟨?_, H5.out⟩
        rw [← HN.out.2]
        unfold allB
        have hm : x ∈ D := List.mem_of_getElem? HA.out.2.2
        rw [show (D.all fun x => fitB x n) = false from List.all_eq_false.2 ⟨x, hm, by rw [HA.out.1.2]; simp⟩]
        rfl
    · have d1 : ¬ (i : Int) < (N : Int) := by omega
      have HA := hideS (And.intro hall hb)
      clear hall hb
      go_wp2_with fail
      go_ret
      refine ⟨?_, HA.out.2⟩
      have := HA.out.1
      rw [List.take_of_length_le (by rw [HN.out.1]; omega)] at this
      rw [← HN.out.2]
      unfold allB
      rw [this]
      rfl
end Go.Proofs.YtbiodfeanngkdaaDoor
