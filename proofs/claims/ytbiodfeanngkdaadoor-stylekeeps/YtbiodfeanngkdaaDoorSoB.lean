/- The order of outerFirst: cmp.Compare, cmp.Or, compareStretch (chapter 7). -/
import Derived.Test.YtbiodfeanngkdaaDoorSoA
namespace Go.Proofs.YtbiodfeanngkdaaDoor
open Go.RowKit Go.Shelf
attribute [local go_sem] Oper.semAt_some

def cpI (a b : Int) : Int := if a < b then -1 else if b < a then 1 else 0
set_option maxRecDepth 100000 in
theorem nan_any (a : Int) (w : World) : Calls Tryd.prog 59 #[.int .i64 a] w fun e w' => e = .returned (.bool false) ∧ w' = w := by
  have h : (a != a) = false := by simp
  go_enter Tryd.func59, Tryd.ntmps59
  go_wp2
  go_ret
  exact ⟨rfl, rfl⟩
set_option maxRecDepth 100000 in
set_option maxHeartbeats 400000 in
theorem cmpI_any (a b : Int) (w : World) : Calls Tryd.prog 52 #[.int .i64 a, .int .i64 b] w fun e w' => e = .returned (.int .i64 (cpI a b)) ∧ w' = w := by
  have HA := hideS (nan_any a)
  have HB := hideS (nan_any b)
  unfold cpI
  by_cases h1 : a < b
  · rw [if_pos h1]
    go_enter Tryd.func52, Tryd.ntmps52
    go_wp2_with fail
    refine (HA.out _).mono ?_
    rintro e w1 ⟨rfl, rfl⟩
    go_wp2_with fail
    refine (HB.out _).mono ?_
    rintro e w2 ⟨rfl, rfl⟩
    go_wp2_with fail
    go_ret
    exact ⟨rfl, rfl⟩
  · rw [if_neg h1]
    by_cases h2 : b < a
    · rw [if_pos h2]
      go_enter Tryd.func52, Tryd.ntmps52
      go_wp2_with fail
      refine (HA.out _).mono ?_
      rintro e w1 ⟨rfl, rfl⟩
      go_wp2_with fail
      refine (HB.out _).mono ?_
      rintro e w2 ⟨rfl, rfl⟩
      go_wp2_with fail
      go_ret
      exact ⟨rfl, rfl⟩
    · rw [if_neg h2]
      go_enter Tryd.func52, Tryd.ntmps52
      go_wp2_with fail
      refine (HA.out _).mono ?_
      rintro e w1 ⟨rfl, rfl⟩
      go_wp2_with fail
      refine (HB.out _).mono ?_
      rintro e w2 ⟨rfl, rfl⟩
      go_wp2_with fail
      go_ret
      exact ⟨rfl, rfl⟩
set_option maxRecDepth 100000 in
set_option maxHeartbeats 400000 in
theorem orI_any (a b : Int) (B : Nat) (w : World) (c0 : w.cell? ⟨B, 0, none⟩ = some (.int .i64 a)) (c1 : w.cell? ⟨B, 1, none⟩ = some (.int .i64 b)) :
    Calls Tryd.prog 51 #[.slice (some ⟨B, 0, none⟩) 2 2] w fun e w' => e = .returned (.int .i64 (if a = 0 then b else a)) ∧ w' = w := by
  generalize hv : (if a = 0 then b else a) = V at *
  have HW := hideS hv
  clear hv
  go_enter Tryd.func51, Tryd.ntmps51
  go_wp2
  go_loopw [5, 8] (fun _ i wr => wr = w ∧ ((i = .int .i64 0) ∨ (i = .int .i64 1 ∧ a = 0) ∨ (i = .int .i64 2 ∧ a = 0 ∧ b = 0))) (fun _ i _ => 2 - (intOf i).toNat)
  case atStart => exact ⟨rfl, .inl rfl⟩
  case round =>
    obtain ⟨rfl, rfl | ⟨rfl, ha⟩ | ⟨rfl, ha, hb⟩⟩ := hrel
    · by_cases h : a = 0
      · subst h
        go_wp2
        go_roundw
        case rel => exact ⟨trivial, .inr (.inl ⟨by go_num, trivial⟩)⟩
        case measure => decide
      · go_wp2
        go_ret
        refine ⟨?_, rfl⟩
        have := HW.out
        rw [if_neg h] at this
        rw [← this]
        rfl
    · by_cases h : b = 0
      · subst h ha
        go_wp2
        go_roundw
        case rel => exact ⟨trivial, .inr (.inr ⟨by go_num, trivial, trivial⟩)⟩
        case measure => decide
      · go_wp2
        go_ret
        refine ⟨?_, rfl⟩
        have := HW.out
        rw [if_pos ha] at this
        rw [← this]
        rfl
    · go_wp2
      go_ret
      refine ⟨?_, rfl⟩
      have := HW.out
      rw [if_pos ha, hb] at this
      rw [← this]
      rfl
theorem cs_eq (a b : Sp) : csI a b = if cpI a.fr b.fr = 0 then cpI b.tt a.tt else cpI a.fr b.fr := by
  unfold csI cpI
  by_cases h1 : a.fr < b.fr
  · rw [if_pos h1, if_pos h1, if_neg (by decide)]
  · rw [if_neg h1, if_neg h1]
    by_cases h2 : b.fr < a.fr
    · rw [if_pos h2, if_pos h2, if_neg (by decide)]
    · rw [if_neg h2, if_neg h2, if_pos rfl]
set_option maxRecDepth 100000 in
set_option maxHeartbeats 1000000 in
theorem stretch_any (a b : Sp) (w : World) : Calls Tryd.prog 43 #[a.val, b.val] w fun e w' => e = .returned (.int .i64 (csI a b)) ∧ Below w.heap.size w w' := by
  rw [cs_eq]
  obtain ⟨af, at_, ak, av⟩ := a
  obtain ⟨bf, bt, bk, bv⟩ := b
  unfold Sp.val
  have H1 := hideS (cmpI_any af bf)
  have H2 := hideS (cmpI_any bt at_)
  simp only
  generalize cpI af bf = x at *
  generalize cpI bt at_ = y at *
  have HO := hideS (orI_any x y)
  generalize hz : (if x = 0 then y else x) = z at *
  clear hz
  have HB := hideS (bupS (bel1S w (.cells #[.int .i64 af, .int .i64 at_, .int .i64 ak, .int .i64 av] 45)) (bel1S _ (.cells #[.int .i64 bf, .int .i64 bt, .int .i64 bk, .int .i64 bv] 45)))
  go_enter Tryd.func43, Tryd.ntmps43
  go_wp2_with fail
  obtain ⟨V, hV⟩ : ∃ V, (w.alloc (.cells #[.int .i64 af, .int .i64 at_, .int .i64 ak, .int .i64 av] 45)).alloc (.cells #[.int .i64 bf, .int .i64 bt, .int .i64 bk, .int .i64 bv] 45) = V := ⟨_, rfl⟩
  have n0 : V.heap[w.heap.size]? = some (.cells #[.int .i64 af, .int .i64 at_, .int .i64 ak, .int .i64 av] 45) := by
    rw [← hV]
    exact (Below.heap_alloc _ _ _ (by simp)).trans (World.alloc_heap_new w _)
  have n1 : V.heap[w.heap.size + 1]? = some (.cells #[.int .i64 bf, .int .i64 bt, .int .i64 bk, .int .i64 bv] 45) := by
    rw [← hV]
    have := World.alloc_heap_new (w.alloc (.cells #[.int .i64 af, .int .i64 at_, .int .i64 ak, .int .i64 av] 45)) (.cells #[.int .i64 bf, .int .i64 bt, .int .i64 bk, .int .i64 bv] 45)
    rw [World.size_alloc] at this
    exact this
  rw [hV] at HB ⊢
  have a0 : V.cell? ⟨w.heap.size, 0, none⟩ = some (.int .i64 af) := by simp [World.cell?, n0]
  have a1 : V.cell? ⟨w.heap.size, 1, none⟩ = some (.int .i64 at_) := by simp [World.cell?, n0]
  have b0 : V.cell? ⟨w.heap.size + 1, 0, none⟩ = some (.int .i64 bf) := by simp [World.cell?, n1]
  have b1 : V.cell? ⟨w.heap.size + 1, 1, none⟩ = some (.int .i64 bt) := by simp [World.cell?, n1]
  have HF := hideS (bupS HB.out (bel1S V (.cells #[.int .i64 x, .int .i64 y] 3)))
  clear hV n0 n1
  go_region_held3 (fun w' => w'.cell? ⟨w.heap.size, 0, none⟩ = some (.int .i64 af) ∧ w'.cell? ⟨w.heap.size, 1, none⟩ = some (.int .i64 at_) ∧ w'.cell? ⟨w.heap.size + 1, 0, none⟩ = some (.int .i64 bf) ∧ w'.cell? ⟨w.heap.size + 1, 1, none⟩ = some (.int .i64 bt)) (first | go_keep | assumption)
    (first | (go_at_call 52; first | ((with_reducible refine (H1.out _).mono ?_); rintro e w3 ⟨rfl, rfl⟩) | ((with_reducible refine (H2.out _).mono ?_); rintro e w3 ⟨rfl, rfl⟩)) | (go_at_call 51; (with_reducible refine (HO.out V.heap.size _ (by simp) (by simp)).mono ?_); rintro e w3 ⟨rfl, rfl⟩))
  all_goals
    go_wp2_with fail
    refine bodyPost_ret (v := .int .i64 z) (by simp [results, Tryd.results43, go_sem]) rfl ⟨rfl, ?_⟩
    first | exact HF.out | exact HF.out.drew
end Go.Proofs.YtbiodfeanngkdaaDoor
