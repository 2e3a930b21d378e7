/- Contracts of package cell's small functions: widths, controls, flag letters; a cluster that grows. -/
import Derived.WalkKit
import Derived.WalkSpells
import Derived.WalkLawsBesides
import Derived.Test.YtbehlaclffjkbaaDoorProg
import Derived.Test.YtbehlaclffjkbaaDoorCellM
namespace Go.Proofs.YtbehlaclffjkbaaDoor
open Go.RowKit

set_option maxHeartbeats 400000 in
theorem isFlag_any (r : Int) (w : World) : Calls Tryd.prog 54 #[.int .i32 r] w fun e w' => e = .returned (.bool (flagB r)) ∧ w' = w := by
  unfold flagB
  by_cases h1 : 127462 ≤ r
  all_goals by_cases h2 : r ≤ 127487
  all_goals
    go_enter Tryd.func54, Tryd.ntmps54
    go_wp2
    go_ret
    exact ⟨by simp [h1, h2], rfl⟩

set_option maxHeartbeats 400000 in
theorem isSymbol_any (r : Int) (w : World) : Calls Tryd.prog 55 #[.int .i32 r] w fun e w' => e = .returned (.bool (symB r)) ∧ w' = w := by
  unfold symB
  by_cases h1 : 8592 ≤ r
  all_goals by_cases h2 : r ≤ 11263
  all_goals
    go_enter Tryd.func55, Tryd.ntmps55
    go_wp2
    go_ret
    exact ⟨by simp [h1, h2], rfl⟩

set_option maxHeartbeats 1000000 in
theorem isControl_any (r : Int) (w : World) : Calls Tryd.prog 53 #[.int .i32 r] w fun e w' => e = .returned (.bool (ctlB r)) ∧ w' = w := by
  have hr : r < 0 ∨ (0 ≤ r ∧ r ≤ 31) ∨ (31 < r ∧ r < 127) ∨ (127 ≤ r ∧ r ≤ 159) ∨ (159 < r ∧ r < 1564) ∨ r = 1564 ∨ (1564 < r ∧ r < 8206) ∨ r = 8206 ∨ r = 8207 ∨ (8207 < r ∧ r < 8232) ∨ (8232 ≤ r ∧ r ≤ 8238) ∨ (8238 < r ∧ r < 8294) ∨ (8294 ≤ r ∧ r ≤ 8297) ∨ 8297 < r := by omega
  have e1 : r ≠ 1564 → (r == 1564) = false := fun h => beq_eq_false_iff_ne.2 h
  have e2 : r ≠ 8206 → (r == 8206) = false := fun h => beq_eq_false_iff_ne.2 h
  have e3 : r ≠ 8207 → (r == 8207) = false := fun h => beq_eq_false_iff_ne.2 h
  rcases hr with h | h | h | h | h | rfl | h | rfl | rfl | h | h | h | h | h
  all_goals
    first
    | (have e1 := e1 (by omega); have e2 := e2 (by omega); have e3 := e3 (by omega))
    | (clear e1 e2 e3)
    try obtain ⟨h, h'⟩ := h
    go_enter Tryd.func53, Tryd.ntmps53
    go_wp2
    go_ret
    refine ⟨?_, rfl⟩
    first | rfl | (congr 2; simp [ctlB]; omega) | (congr 2; simp [ctlB])

/-- What the table's front up to i has told: nothing. -/
def missed (l : List (Int × Int)) (i : Nat) (r : Int) : Prop := ∀ p ∈ l.take i, ¬ (p.1 ≤ r ∧ r ≤ p.2)
theorem missed_all {l : List (Int × Int)} {r : Int} (h : missed l l.length r) : inTab l r = false := by
  unfold missed at h
  rw [List.take_length] at h
  unfold inTab
  rw [List.any_eq_false]
  intro p hp
  have := h p hp
  simp
  omega
theorem missed_step {l : List (Int × Int)} {i : Nat} {r : Int} {p : Int × Int} (h : missed l i r) (hp : l[i]? = some p) (hn : ¬ (p.1 ≤ r ∧ r ≤ p.2)) : missed l (i + 1) r := by
  unfold missed at *
  intro q hq
  rw [List.take_add_one, hp] at hq
  simp at hq
  rcases hq with hq | rfl
  · exact h q hq
  · exact hn
theorem hit {l : List (Int × Int)} {i : Nat} {r : Int} {p : Int × Int} (hp : l[i]? = some p) (h : p.1 ≤ r ∧ r ≤ p.2) : inTab l r = true := by
  unfold inTab
  rw [List.any_eq_true]
  exact ⟨p, List.mem_of_getElem? hp, by simp [h.1, h.2]⟩

theorem add_next (a : Addr) (n : Nat) : a.add (n + 1) = ⟨(a.add n).block, (a.add n).off + 1, none⟩ := by
  unfold Addr.add
  by_cases h : n = 0
  · subst h; rfl
  · simp [h]; omega

set_option maxRecDepth 100000 in
set_option maxHeartbeats 1000000 in
theorem width_any (r : Int) (N : Nat) (w : World) (hT : Tabs N w) : Calls Tryd.prog 52 #[.int .i32 r] w fun e w' => e = .returned (.int .i64 (widthI r)) ∧ Below w.heap.size w w' := by
  by_cases ha : 32 ≤ r ∧ r ≤ 126
  · obtain ⟨h1, h2⟩ := ha
    go_enter Tryd.func52, Tryd.ntmps52
    go_wp2
    go_ret
    exact ⟨by simp [widthI, h1, h2], Below.refl _ _⟩
  · unfold widthI
    rw [if_neg ha]
    obtain ⟨hT0, hT2⟩ := hT
    have hm0 : tab0.length ≤ 34 := by decide
    have hm2 : tab2.length ≤ 24 := by decide
    generalize tab0 = l0 at *
    generalize tab2 = l2 at *
    generalize hv : (if inTab l0 r = true then (0 : Int) else if inTab l2 r = true then 2 else 1) = v
    have HV := hideC hv
    clear hv
    have hr : r < 32 ∨ (32 ≤ r ∧ 126 < r) := by omega
    obtain ⟨⟨g1, g2⟩, a, cap, ⟨g3, g4, g5⟩, g6, g7⟩ := hT0
    rcases hr with h1 | ⟨h1, h2⟩
    all_goals
      go_enter Tryd.func52, Tryd.ntmps52
      go_wp2
      go_loopw [15] (fun i wr => ∃ k : Nat, i = .int .i64 k ∧ k ≤ l0.length ∧ Below w.heap.size w wr ∧ missed l0 k r) (fun i _ => l0.length - (intOf i).toNat)
      case atStart => exact ⟨0, rfl, Nat.zero_le _, Below.refl _ _, by simp [missed]⟩
      case round =>
        obtain ⟨k, rfl, hk, hb, hm⟩ := hrel
        by_cases hk2 : k < l0.length
        · obtain ⟨p, hp⟩ : ∃ p, l0[k]? = some p := ⟨_, List.getElem?_eq_getElem hk2⟩
          obtain ⟨c0, c1⟩ := g7 k p hp
          have d0 := (hb.cell (p := a.add (k * 2)) (by rw [add_block]; omega)).trans c0
          have d1 := (hb.cell (p := a.add (k * 2 + 1)) (by rw [add_block]; omega)).trans c1
          rw [add_next] at d1
          clear c0 c1 g7
          have hz := hb.size
          have hal := hb.alloc (o := .cells #[.int .i32 p.1, .int .i32 p.2] 105) hz
          by_cases q1 : p.1 ≤ r
          · by_cases q2 : r ≤ p.2
            · have hh := hit hp ⟨q1, q2⟩
              go_wp2
              go_ret
              exact ⟨by rw [← HV.out]; simp [hh], hal⟩
            · have hm2 := missed_step hm hp (fun e => q2 e.2)
              go_wp2
              go_roundw
              case rel => exact ⟨k + 1, by go_num, by omega, hal, hm2⟩
              case measure => first | omega | (simp [intOf]; omega) | (show _ < _; simp; omega)
          · have hm2 := missed_step hm hp (fun e => q1 e.1)
            go_wp2
            go_roundw
            case rel => exact ⟨k + 1, by go_num, by omega, hal, hm2⟩
            case measure => first | omega | (simp [intOf]; omega) | (show _ < _; simp; omega)
        · obtain rfl : k = l0.length := by omega
          have hno := missed_all hm
          obtain ⟨⟨k1, k2⟩, a', cap', ⟨k3, k4, k5⟩, k6, k7⟩ := hT2
          have k6' := (hb.cell (p := ⟨3, 0, none⟩) (by show 3 < _; omega)).trans k6
          clear g7
          go_wp2
          go_loopw [32] (fun i wr => ∃ k : Nat, i = .int .i64 k ∧ k ≤ l2.length ∧ Below w.heap.size w wr ∧ missed l2 k r) (fun i _ => l2.length - (intOf i).toNat)
          case atStart => exact ⟨0, rfl, Nat.zero_le _, hb, by simp [missed]⟩
          case round =>
            clear hb hm hk hk2
            obtain ⟨k, rfl, hk, hb, hm⟩ := hrel
            have hz := hb.size
            by_cases hk2 : k < l2.length
            · obtain ⟨p, hp⟩ : ∃ p, l2[k]? = some p := ⟨_, List.getElem?_eq_getElem hk2⟩
              obtain ⟨c0, c1⟩ := k7 k p hp
              have d0 := (hb.cell (p := a'.add (k * 2)) (by rw [add_block]; omega)).trans c0
              have d1 := (hb.cell (p := a'.add (k * 2 + 1)) (by rw [add_block]; omega)).trans c1
              rw [add_next] at d1
              clear c0 c1 k7
              have hal := hb.alloc (o := .cells #[.int .i32 p.1, .int .i32 p.2] 105) hz
              by_cases q1 : p.1 ≤ r
              · by_cases q2 : r ≤ p.2
                · have hh := hit hp ⟨q1, q2⟩
                  go_wp2
                  go_ret
                  exact ⟨by rw [← HV.out]; simp [hh, hno], hal⟩
                · have hm2 := missed_step hm hp (fun e => q2 e.2)
                  go_wp2
                  go_roundw
                  case rel => exact ⟨k + 1, by go_num, by omega, hal, hm2⟩
                  case measure => first | omega | (simp [intOf]; omega) | (show _ < _; simp; omega)
              · have hm2 := missed_step hm hp (fun e => q1 e.1)
                go_wp2
                go_roundw
                case rel => exact ⟨k + 1, by go_num, by omega, hal, hm2⟩
                case measure => first | omega | (simp [intOf]; omega) | (show _ < _; simp; omega)
            · obtain rfl : k = l2.length := by omega
              have hno2 := missed_all hm
              go_wp2
              go_ret
              exact ⟨by rw [← HV.out]; simp [hno, hno2], hb⟩

end Go.Proofs.YtbehlaclffjkbaaDoor
