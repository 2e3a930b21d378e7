/- Contracts for package ratio's texts: read. -/
import Derived.Test.YtmofjkfghidlnaaDoorMgC
namespace Go.Proofs.YtmofjkfghidlnaaDoor
open Go.RowKit Go.Shelf
attribute [local go_sem] Oper.semAt_some bs_toList

structure Wr where
  below : Bool
  whole : List UInt8
  under : List UInt8
  behind : List UInt8
def wrv (x : Wr) : Value := .agg #[.bool x.below, .string (bs x.whole), .string (bs x.under), .string (bs x.behind)]

theorem prefix_any (l : List UInt8) (w : World) :
    Calls Tryd.prog 99 #[.string (bs l), .string ⟨#[45]⟩] w fun e w' => e = .returned (.tuple #[.string (bs (Lib.trimPrefix l [45])), .bool (Lib.hasPrefix l [45])]) ∧ w' = w := by
  have := Any.strings_CutPrefix (ρ := lay103Ren) lay103 (bs l) ⟨#[45]⟩ w
  rw [bs_list] at this
  exact this

theorem keepC {B : Nat} {V V2 : World} {x0 x1 x2 x3 : Value} (b : Below V.heap.size V V2) (z : B < V.heap.size) (h : V.cell? ⟨B, 0, none⟩ = some x0 ∧ V.cell? ⟨B, 1, none⟩ = some x1 ∧ V.cell? ⟨B, 2, none⟩ = some x2 ∧ V.cell? ⟨B, 3, none⟩ = some x3) :
    V2.cell? ⟨B, 0, none⟩ = some x0 ∧ V2.cell? ⟨B, 1, none⟩ = some x1 ∧ V2.cell? ⟨B, 2, none⟩ = some x2 ∧ V2.cell? ⟨B, 3, none⟩ = some x3 :=
  ⟨(b.cell (p := ⟨B, 0, none⟩) z).trans h.1, (b.cell (p := ⟨B, 1, none⟩) z).trans h.2.1, (b.cell (p := ⟨B, 2, none⟩) z).trans h.2.2.1, (b.cell (p := ⟨B, 3, none⟩) z).trans h.2.2.2⟩
theorem keepF {B : Nat} {V V2 : World} (b : Below V.heap.size V V2) (z : B < V.heap.size) (h : V.frozen? ⟨B, 0, none⟩ = false ∧ V.frozen? ⟨B, 1, none⟩ = false ∧ V.frozen? ⟨B, 2, none⟩ = false ∧ V.frozen? ⟨B, 3, none⟩ = false) :
    V2.frozen? ⟨B, 0, none⟩ = false ∧ V2.frozen? ⟨B, 1, none⟩ = false ∧ V2.frozen? ⟨B, 2, none⟩ = false ∧ V2.frozen? ⟨B, 3, none⟩ = false :=
  ⟨(b.frozen (p := ⟨B, 0, none⟩) z).trans h.1, (b.frozen (p := ⟨B, 1, none⟩) z).trans h.2.1, (b.frozen (p := ⟨B, 2, none⟩) z).trans h.2.2.1, (b.frozen (p := ⟨B, 3, none⟩) z).trans h.2.2.2⟩
theorem cell_apart {V : World} {A B i j : Nat} {x : Value} (h : A ≠ B) : (V.setCell ⟨A, i, none⟩ x).cell? ⟨B, j, none⟩ = V.cell? ⟨B, j, none⟩ :=
  World.cell?_setCell_other _ _ _ _ (fun e => h (congrArg Addr.block e))
theorem keepS {A B : Nat} {V : World} {x0 x1 x2 x3 y0 y1 y2 y3 : Value} (n : A ≠ B) (h : V.cell? ⟨B, 0, none⟩ = some x0 ∧ V.cell? ⟨B, 1, none⟩ = some x1 ∧ V.cell? ⟨B, 2, none⟩ = some x2 ∧ V.cell? ⟨B, 3, none⟩ = some x3) :
    ((((V.setCell ⟨A, 0, none⟩ y0).setCell ⟨A, 1, none⟩ y1).setCell ⟨A, 2, none⟩ y2).setCell ⟨A, 3, none⟩ y3).cell? ⟨B, 0, none⟩ = some x0 ∧ ((((V.setCell ⟨A, 0, none⟩ y0).setCell ⟨A, 1, none⟩ y1).setCell ⟨A, 2, none⟩ y2).setCell ⟨A, 3, none⟩ y3).cell? ⟨B, 1, none⟩ = some x1 ∧ ((((V.setCell ⟨A, 0, none⟩ y0).setCell ⟨A, 1, none⟩ y1).setCell ⟨A, 2, none⟩ y2).setCell ⟨A, 3, none⟩ y3).cell? ⟨B, 2, none⟩ = some x2 ∧ ((((V.setCell ⟨A, 0, none⟩ y0).setCell ⟨A, 1, none⟩ y1).setCell ⟨A, 2, none⟩ y2).setCell ⟨A, 3, none⟩ y3).cell? ⟨B, 3, none⟩ = some x3 := by
  simp only [cell_apart n]
  exact h

set_option maxRecDepth 100000 in
set_option maxHeartbeats 1000000 in
theorem read_over (l t wh un : List UInt8) (below ok1 ok2 : Bool)
    (HP : ∀ w, Calls Tryd.prog 99 #[.string (bs l), .string ⟨#[45]⟩] w fun e w' => e = .returned (.tuple #[.string (bs t), .bool below]) ∧ w' = w)
    (HC : ∀ w, Calls Tryd.prog 100 #[.string (bs t), .string ⟨#[47]⟩] w fun e w' => e = .returned (.tuple #[.string (bs wh), .string (bs un), .bool true]) ∧ ∃ n, w' = w.drewN n)
    (HN1 : ∀ w, Calls Tryd.prog 101 #[.string (bs wh)] w fun e w' => e = .returned (.bool ok1) ∧ Below w.heap.size w w')
    (HN2 : ok1 = true → ∀ w, Calls Tryd.prog 101 #[.string (bs un)] w fun e w' => e = .returned (.bool ok2) ∧ Below w.heap.size w w') (w : World) :
    Calls Tryd.prog 79 #[.string (bs l)] w fun e w' => e = .returned (.tuple #[.agg #[.bool below, .string (bs wh), .string (bs un), .string (bs [])], .bool (ok1 && ok2)]) ∧ Below w.heap.size w w' := by
  rw [show bs [] = ⟨#[]⟩ from rfl]
  have HP := hideR HP
  have HC := hideR HC
  have HN1 := hideR HN1
  have HN2 := hideR HN2
  go_enter Tryd.func79, Tryd.ntmps79
  go_wp2_with fail
  go_at_call 99
  refine (HP.out _).mono ?_
  rintro e w1 ⟨rfl, hw⟩
  obtain rfl := hw.symm
  go_wp2_with fail
  go_at_call 100
  refine (HC.out _).mono ?_
  rintro e w2 ⟨rfl, n2, rfl⟩
  go_wp2_with fail
  have SV : (((((w.alloc (.cells #[.bool false, .string ⟨#[]⟩, .string ⟨#[]⟩, .string ⟨#[]⟩] 93)).alloc (.cells #[.bool below, .string ⟨#[]⟩, .string ⟨#[]⟩, .string ⟨#[]⟩] 93)).drewN n2).setCell ⟨w.heap.size + 1, 1, none⟩ (.string (bs wh))).setCell ⟨w.heap.size + 1, 2, none⟩ (.string (bs un))).cell? ⟨w.heap.size + 1, 0, none⟩ = some (.bool below) ∧ (((((w.alloc (.cells #[.bool false, .string ⟨#[]⟩, .string ⟨#[]⟩, .string ⟨#[]⟩] 93)).alloc (.cells #[.bool below, .string ⟨#[]⟩, .string ⟨#[]⟩, .string ⟨#[]⟩] 93)).drewN n2).setCell ⟨w.heap.size + 1, 1, none⟩ (.string (bs wh))).setCell ⟨w.heap.size + 1, 2, none⟩ (.string (bs un))).cell? ⟨w.heap.size + 1, 1, none⟩ = some (.string (bs wh)) ∧ (((((w.alloc (.cells #[.bool false, .string ⟨#[]⟩, .string ⟨#[]⟩, .string ⟨#[]⟩] 93)).alloc (.cells #[.bool below, .string ⟨#[]⟩, .string ⟨#[]⟩, .string ⟨#[]⟩] 93)).drewN n2).setCell ⟨w.heap.size + 1, 1, none⟩ (.string (bs wh))).setCell ⟨w.heap.size + 1, 2, none⟩ (.string (bs un))).cell? ⟨w.heap.size + 1, 2, none⟩ = some (.string (bs un)) ∧ (((((w.alloc (.cells #[.bool false, .string ⟨#[]⟩, .string ⟨#[]⟩, .string ⟨#[]⟩] 93)).alloc (.cells #[.bool below, .string ⟨#[]⟩, .string ⟨#[]⟩, .string ⟨#[]⟩] 93)).drewN n2).setCell ⟨w.heap.size + 1, 1, none⟩ (.string (bs wh))).setCell ⟨w.heap.size + 1, 2, none⟩ (.string (bs un))).cell? ⟨w.heap.size + 1, 3, none⟩ = some (.string ⟨#[]⟩) := ⟨by go_simp, by go_simp, by go_simp, by go_simp⟩
  have RV : (((((w.alloc (.cells #[.bool false, .string ⟨#[]⟩, .string ⟨#[]⟩, .string ⟨#[]⟩] 93)).alloc (.cells #[.bool below, .string ⟨#[]⟩, .string ⟨#[]⟩, .string ⟨#[]⟩] 93)).drewN n2).setCell ⟨w.heap.size + 1, 1, none⟩ (.string (bs wh))).setCell ⟨w.heap.size + 1, 2, none⟩ (.string (bs un))).cell? ⟨w.heap.size, 0, none⟩ = some (.bool false) ∧ (((((w.alloc (.cells #[.bool false, .string ⟨#[]⟩, .string ⟨#[]⟩, .string ⟨#[]⟩] 93)).alloc (.cells #[.bool below, .string ⟨#[]⟩, .string ⟨#[]⟩, .string ⟨#[]⟩] 93)).drewN n2).setCell ⟨w.heap.size + 1, 1, none⟩ (.string (bs wh))).setCell ⟨w.heap.size + 1, 2, none⟩ (.string (bs un))).cell? ⟨w.heap.size, 1, none⟩ = some (.string ⟨#[]⟩) ∧ (((((w.alloc (.cells #[.bool false, .string ⟨#[]⟩, .string ⟨#[]⟩, .string ⟨#[]⟩] 93)).alloc (.cells #[.bool below, .string ⟨#[]⟩, .string ⟨#[]⟩, .string ⟨#[]⟩] 93)).drewN n2).setCell ⟨w.heap.size + 1, 1, none⟩ (.string (bs wh))).setCell ⟨w.heap.size + 1, 2, none⟩ (.string (bs un))).cell? ⟨w.heap.size, 2, none⟩ = some (.string ⟨#[]⟩) ∧ (((((w.alloc (.cells #[.bool false, .string ⟨#[]⟩, .string ⟨#[]⟩, .string ⟨#[]⟩] 93)).alloc (.cells #[.bool below, .string ⟨#[]⟩, .string ⟨#[]⟩, .string ⟨#[]⟩] 93)).drewN n2).setCell ⟨w.heap.size + 1, 1, none⟩ (.string (bs wh))).setCell ⟨w.heap.size + 1, 2, none⟩ (.string (bs un))).cell? ⟨w.heap.size, 3, none⟩ = some (.string ⟨#[]⟩) := ⟨by go_simp, by go_simp, by go_simp, by go_simp⟩
  have FV : (((((w.alloc (.cells #[.bool false, .string ⟨#[]⟩, .string ⟨#[]⟩, .string ⟨#[]⟩] 93)).alloc (.cells #[.bool below, .string ⟨#[]⟩, .string ⟨#[]⟩, .string ⟨#[]⟩] 93)).drewN n2).setCell ⟨w.heap.size + 1, 1, none⟩ (.string (bs wh))).setCell ⟨w.heap.size + 1, 2, none⟩ (.string (bs un))).frozen? ⟨w.heap.size, 0, none⟩ = false ∧ (((((w.alloc (.cells #[.bool false, .string ⟨#[]⟩, .string ⟨#[]⟩, .string ⟨#[]⟩] 93)).alloc (.cells #[.bool below, .string ⟨#[]⟩, .string ⟨#[]⟩, .string ⟨#[]⟩] 93)).drewN n2).setCell ⟨w.heap.size + 1, 1, none⟩ (.string (bs wh))).setCell ⟨w.heap.size + 1, 2, none⟩ (.string (bs un))).frozen? ⟨w.heap.size, 1, none⟩ = false ∧ (((((w.alloc (.cells #[.bool false, .string ⟨#[]⟩, .string ⟨#[]⟩, .string ⟨#[]⟩] 93)).alloc (.cells #[.bool below, .string ⟨#[]⟩, .string ⟨#[]⟩, .string ⟨#[]⟩] 93)).drewN n2).setCell ⟨w.heap.size + 1, 1, none⟩ (.string (bs wh))).setCell ⟨w.heap.size + 1, 2, none⟩ (.string (bs un))).frozen? ⟨w.heap.size, 2, none⟩ = false ∧ (((((w.alloc (.cells #[.bool false, .string ⟨#[]⟩, .string ⟨#[]⟩, .string ⟨#[]⟩] 93)).alloc (.cells #[.bool below, .string ⟨#[]⟩, .string ⟨#[]⟩, .string ⟨#[]⟩] 93)).drewN n2).setCell ⟨w.heap.size + 1, 1, none⟩ (.string (bs wh))).setCell ⟨w.heap.size + 1, 2, none⟩ (.string (bs un))).frozen? ⟨w.heap.size, 3, none⟩ = false := ⟨by go_simp, by go_simp, by go_simp, by go_simp⟩
  have BV : Below w.heap.size w (((((w.alloc (.cells #[.bool false, .string ⟨#[]⟩, .string ⟨#[]⟩, .string ⟨#[]⟩] 93)).alloc (.cells #[.bool below, .string ⟨#[]⟩, .string ⟨#[]⟩, .string ⟨#[]⟩] 93)).drewN n2).setCell ⟨w.heap.size + 1, 1, none⟩ (.string (bs wh))).setCell ⟨w.heap.size + 1, 2, none⟩ (.string (bs un))) := ((below_drewN (bel2 w _ _) n2).setCell (by simp) _).setCell (by simp) _
  have zB : w.heap.size + 1 < (((((w.alloc (.cells #[.bool false, .string ⟨#[]⟩, .string ⟨#[]⟩, .string ⟨#[]⟩] 93)).alloc (.cells #[.bool below, .string ⟨#[]⟩, .string ⟨#[]⟩, .string ⟨#[]⟩] 93)).drewN n2).setCell ⟨w.heap.size + 1, 1, none⟩ (.string (bs wh))).setCell ⟨w.heap.size + 1, 2, none⟩ (.string (bs un))).heap.size := by simp
  have zA : w.heap.size < (((((w.alloc (.cells #[.bool false, .string ⟨#[]⟩, .string ⟨#[]⟩, .string ⟨#[]⟩] 93)).alloc (.cells #[.bool below, .string ⟨#[]⟩, .string ⟨#[]⟩, .string ⟨#[]⟩] 93)).drewN n2).setCell ⟨w.heap.size + 1, 1, none⟩ (.string (bs wh))).setCell ⟨w.heap.size + 1, 2, none⟩ (.string (bs un))).heap.size := by simp; omega
  generalize (((((w.alloc (.cells #[.bool false, .string ⟨#[]⟩, .string ⟨#[]⟩, .string ⟨#[]⟩] 93)).alloc (.cells #[.bool below, .string ⟨#[]⟩, .string ⟨#[]⟩, .string ⟨#[]⟩] 93)).drewN n2).setCell ⟨w.heap.size + 1, 1, none⟩ (.string (bs wh))).setCell ⟨w.heap.size + 1, 2, none⟩ (.string (bs un))) = V at *
  clear HP HC
  have nAB : w.heap.size ≠ w.heap.size + 1 := by omega
  obtain ⟨v0, v1, v2, v3⟩ := id SV
  cases ok1
  · first | (go_region_with (first | (go_at_call_of 101 wh; refine (HN1.out _).mono ?_; rintro e w3 ⟨rfl, b3⟩; obtain ⟨s0, s1, s2, s3⟩ := keepC b3 zB SV; obtain ⟨r0, r1, r2, r3⟩ := keepC b3 zA RV; obtain ⟨f0, f1, f2, f3⟩ := keepF b3 zA FV))) | fail
    all_goals (try go_wp2_with fail)
    all_goals exact bodyPost_ret (v := .tuple #[.agg #[.bool below, .string (bs wh), .string (bs un), .string ⟨#[]⟩], .bool false]) (by simp [results, Tryd.results79, go_sem, r0, r1, r2, r3]) rfl ⟨rfl, ((((bup BV.drew b3).setCell (Nat.le_refl _) _).setCell (Nat.le_refl _) _).setCell (Nat.le_refl _) _).setCell (Nat.le_refl _) _⟩
  · have HN3 := hideR (HN2.out rfl)
    clear HN2
    (go_region_held3 (fun w' => w'.cell? ⟨w.heap.size + 1, 0, none⟩ = some (.bool below) ∧ w'.cell? ⟨w.heap.size + 1, 1, none⟩ = some (.string (bs wh)) ∧ w'.cell? ⟨w.heap.size + 1, 2, none⟩ = some (.string (bs un)) ∧ w'.cell? ⟨w.heap.size + 1, 3, none⟩ = some (.string ⟨#[]⟩)) (first | assumption | exact keepS nAB (by assumption) | go_keep) (first | (go_at_call_of 101 wh; refine (HN1.out _).mono ?_; rintro e w3 ⟨rfl, b3⟩; have S3 := keepC b3 zB SV; obtain ⟨s0, s1, s2, s3⟩ := id S3; obtain ⟨r0, r1, r2, r3⟩ := keepC b3 zA RV; obtain ⟨f0, f1, f2, f3⟩ := keepF b3 zA FV) | (go_at_call_of 101 un; refine Calls.mono (HN3.out _) ?_; rintro e w4 ⟨rfl, b4⟩; have B4 := bup b3 b4; have S4 := keepC B4 zB SV; obtain ⟨r0, r1, r2, r3⟩ := keepC B4 zA RV; obtain ⟨f0, f1, f2, f3⟩ := keepF B4 zA FV)))
    all_goals (try go_wp2_with fail)
    all_goals exact bodyPost_ret (v := .tuple #[.agg #[.bool below, .string (bs wh), .string (bs un), .string ⟨#[]⟩], .bool ok2]) (by simp [results, Tryd.results79, go_sem, r0, r1, r2, r3]) rfl ⟨rfl, ((((bup BV.drew B4).setCell (Nat.le_refl _) _).setCell (Nat.le_refl _) _).setCell (Nat.le_refl _) _).setCell (Nat.le_refl _) _⟩
end Go.Proofs.YtmofjkfghidlnaaDoor
