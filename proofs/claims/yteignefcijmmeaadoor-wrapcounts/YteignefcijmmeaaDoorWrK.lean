/- Package wrap: kindAt. -/
import Derived.Test.YteignefcijmmeaaDoorWrA
import Derived.Deep.AppendLies
import Derived.Deep.Cut
import Derived.Deep.CutRange
import Derived.Deep.DeepCutAuto
import Derived.Deep.CutBlock
namespace Go.Proofs.YteignefcijmmeaaDoor
open Go.RowKit
attribute [local go_sem] Oper.semAt_some

theorem hideW {p : Prop} (h : p) : Hid p := h
/-- The kind of the place between two parts, another one being ahead of them or none (P1001's rules in their order). -/
def kindI (d : Bool) (x y : Pt) : Int :=
  if x.cl = 1 then 1 else if y.cl = 1 ∨ y.cl = 2 ∨ y.cl = 6 then 0 else if x.cl = 2 then 2 else if x.cl = 3 ∧ d = true then 2 else if (x.wd || y.wd) = true ∧ x.cl ≠ 4 ∧ y.cl ≠ 5 then 2 else 3
/-- A part in a block of its own. -/
def PtAt (V : World) (B : Nat) (p : Pt) : Prop := B < V.heap.size ∧ V.cell? ⟨B, 0, none⟩ = some (.int .i64 p.loc) ∧ V.cell? ⟨B, 1, none⟩ = some (.int .i64 p.sg) ∧ V.cell? ⟨B, 2, none⟩ = some (.int .i64 p.ce) ∧ V.cell? ⟨B, 3, none⟩ = some (.int .i64 p.cl) ∧ V.cell? ⟨B, 4, none⟩ = some (.bool p.wd)
theorem PtAt.keep {V U : World} {B : Nat} {p : Pt} (h : PtAt V B p) (b : Below V.heap.size V U) : PtAt U B p :=
  ⟨Nat.lt_of_lt_of_le h.1 b.size, (b.cell (p := ⟨B, 0, none⟩) h.1).trans h.2.1, (b.cell (p := ⟨B, 1, none⟩) h.1).trans h.2.2.1, (b.cell (p := ⟨B, 2, none⟩) h.1).trans h.2.2.2.1, (b.cell (p := ⟨B, 3, none⟩) h.1).trans h.2.2.2.2.1, (b.cell (p := ⟨B, 4, none⟩) h.1).trans h.2.2.2.2.2⟩
set_option maxRecDepth 100000 in
set_option maxHeartbeats 4000000 in
theorem kind_two (L : List Pt) (a : Addr) (cap m n : Nat) (x y z : Pt) (hc : L.length ≤ cap ∧ cap ≤ maxLen) (hn : n = m + 2) (hl : n < L.length) (hx : L[m + 1]? = some x) (hy : L[n]? = some y) (hz : L[m]? = some z) (w : World) (hR : PRow L a w) :
    Calls Tryd.prog 48 #[.slice (some a) L.length cap, .int .i64 n] w fun e w' => e = .returned (.int .i64 (kindI (dashB z) x y)) ∧ Below w.heap.size w w' := by
  have hmx : maxLen ≤ 9223372036854775807 := by decide
  have HR := hideW hR
  have HZ := hideW hz
  obtain ⟨x0, x1, x2, x3, x4⟩ := hR.five hx
  obtain ⟨y0, y1, y2, y3, y4⟩ := hR.five hy
  obtain ⟨z0, z1, z2, z3, z4⟩ := hR.five hz
  obtain ⟨m1, hm1⟩ : ∃ m1, m + 1 = m1 := ⟨_, rfl⟩
  rw [hm1] at x0 x1 x2 x3 x4
  have hw1 : (n : Int) - 1 = (m1 : Int) := by omega
  have hw2 : (n : Int) - 2 = (m : Int) := by omega
  have i1 : m1 < L.length := by omega
  have i3 : m < L.length := by omega
  have i4 : 1 < n := by omega
  have i5 : (m1 : Int) < (L.length : Int) := by omega
  have i6 : (m : Int) < (L.length : Int) := by omega
  have i7 : (1 : Int) < (n : Int) := by omega
  have j2 : (n : Int) ≤ 9223372036854775807 := by omega
  have j5 : (m1 : Int) ≤ 9223372036854775807 := by omega
  have j6 : (m : Int) ≤ 9223372036854775807 := by omega
  have k1 : IntKind.i64.wrap (m1 : Int) = (m1 : Int) := IntWalk.i64_in _ ⟨by omega, by omega⟩
  have k2 : IntKind.i64.wrap (m : Int) = (m : Int) := IntWalk.i64_in _ ⟨by omega, by omega⟩
  clear hx hy hz hm1 hR hn hmx hc
  go_enter Tryd.func48, Tryd.ntmps48
  go_upto_region 1 with fail
  go_cut [5, 6] (fun p q wx => ∃ B C, p = .pointer (some ⟨B, 0, none⟩) ∧ q = .pointer (some ⟨C, 0, none⟩) ∧ PtAt wx B x ∧ PtAt wx C y ∧ Below w.heap.size w wx)
  case first =>
    go_region_held3 (fun w' => (w'.cell? (a.add (m1 * 5)) = some (.int .i64 x.loc) ∧ w'.cell? ⟨(a.add (m1 * 5)).block, (a.add (m1 * 5)).off + 1, none⟩ = some (.int .i64 x.sg) ∧ w'.cell? ⟨(a.add (m1 * 5)).block, (a.add (m1 * 5)).off + 2, none⟩ = some (.int .i64 x.ce) ∧ w'.cell? ⟨(a.add (m1 * 5)).block, (a.add (m1 * 5)).off + 3, none⟩ = some (.int .i64 x.cl) ∧ w'.cell? ⟨(a.add (m1 * 5)).block, (a.add (m1 * 5)).off + 4, none⟩ = some (.bool x.wd)) ∧
      (w'.cell? (a.add (n * 5)) = some (.int .i64 y.loc) ∧ w'.cell? ⟨(a.add (n * 5)).block, (a.add (n * 5)).off + 1, none⟩ = some (.int .i64 y.sg) ∧ w'.cell? ⟨(a.add (n * 5)).block, (a.add (n * 5)).off + 2, none⟩ = some (.int .i64 y.ce) ∧ w'.cell? ⟨(a.add (n * 5)).block, (a.add (n * 5)).off + 3, none⟩ = some (.int .i64 y.cl) ∧ w'.cell? ⟨(a.add (n * 5)).block, (a.add (n * 5)).off + 4, none⟩ = some (.bool y.wd)))
      (go_keep) (fail)
    all_goals first | go_wp2_with fail | skip
    all_goals go_meet
    · refine ⟨w.heap.size, w.heap.size + 1, rfl, rfl, ?_, ?_, ?_⟩
      · exact ⟨by simp; omega, by go_simp, by go_simp, by go_simp, by go_simp, by go_simp⟩
      · exact ⟨by simp, by go_simp, by go_simp, by go_simp, by go_simp, by go_simp⟩
      · first | exact ((Below.refl _ w).alloc (Nat.le_refl _) _).alloc (by simp) _ | exact (((Below.refl _ w).alloc (Nat.le_refl _) _).alloc (by simp) _).drew
    · refine ⟨w.heap.size + 1, w.heap.size, rfl, rfl, ?_, ?_, ?_⟩
      · exact ⟨by simp, by go_simp, by go_simp, by go_simp, by go_simp, by go_simp⟩
      · exact ⟨by simp; omega, by go_simp, by go_simp, by go_simp, by go_simp, by go_simp⟩
      · first | exact ((Below.refl _ w).alloc (Nat.le_refl _) _).alloc (by simp) _ | exact (((Below.refl _ w).alloc (Nat.le_refl _) _).alloc (by simp) _).drew
  case rest =>
    obtain ⟨B, C, rfl, rfl, hX, hY, bc⟩ := hcut
    obtain ⟨z0, z1, z2, z3, z4⟩ := (HR.out.keep bc).five HZ.out
    obtain ⟨_, p0, p1, p2, p3, p4⟩ := id hX
    obtain ⟨_, q0, q1, q2, q3, q4⟩ := id hY
    clear HR HZ x0 x1 x2 x3 x4 y0 y1 y2 y3 y4
    have HD := hideW (dash_any z)
    unfold Pt.val at HD
    generalize wc = V at *
    go_wp2_with (go_at_call 72; refine (HD.out _).mono ?_; rintro e w2 ⟨rfl, b2⟩; have X2 := hX.keep b2; have Y2 := hY.keep b2; clear p0 p1 p2 p3 p4 q0 q1 q2 q3 q4; obtain ⟨_, p0, p1, p2, p3, p4⟩ := id X2; obtain ⟨_, q0, q1, q2, q3, q4⟩ := id Y2)
    all_goals go_ret
    all_goals refine ⟨?_, by first | exact bc | exact bc.trans (b2.mono bc.size)⟩
    all_goals clear p0 p1 p2 p3 p4 q0 q1 q2 q3 q4 z0 z1 z2 z3 z4 HD hX hY bc
    all_goals (try clear X2 Y2 b2)
    all_goals (unfold kindI; refine congrArg Ending.returned (congrArg (Value.int IntKind.i64) ?_))
    all_goals (simp_all; done)
set_option maxRecDepth 100000 in
set_option maxHeartbeats 4000000 in
theorem kind_one (L : List Pt) (a : Addr) (cap m n : Nat) (x y : Pt) (_hc : L.length ≤ cap ∧ cap ≤ maxLen) (hn : n = 1) (hm0 : m = 0) (hl : n < L.length) (hx : L[m]? = some x) (hy : L[n]? = some y) (w : World) (hR : PRow L a w) :
    Calls Tryd.prog 48 #[.slice (some a) L.length cap, .int .i64 n] w fun e w' => e = .returned (.int .i64 (kindI false x y)) ∧ Below w.heap.size w w' := by
  have hmx : maxLen ≤ 9223372036854775807 := by decide
  have HR := hideW hR
  obtain ⟨x0, x1, x2, x3, x4⟩ := hR.five hx
  obtain ⟨y0, y1, y2, y3, y4⟩ := hR.five hy
  have hw1 : (n : Int) - 1 = (m : Int) := by omega
  have i1 : m < L.length := by omega
  have i4 : ¬ 1 < n := by omega
  have i5 : (m : Int) < (L.length : Int) := by omega
  have i7 : ¬ (1 : Int) < (n : Int) := by omega
  have j2 : (n : Int) ≤ 9223372036854775807 := by omega
  have j5 : (m : Int) ≤ 9223372036854775807 := by omega
  have k1 : IntKind.i64.wrap (m : Int) = (m : Int) := IntWalk.i64_in _ ⟨by omega, by omega⟩
  clear hx hy hR hn hm0 hmx
  go_enter Tryd.func48, Tryd.ntmps48
  go_upto_region 1 with fail
  go_cut [5, 6] (fun p q wx => ∃ B C, p = .pointer (some ⟨B, 0, none⟩) ∧ q = .pointer (some ⟨C, 0, none⟩) ∧ PtAt wx B x ∧ PtAt wx C y ∧ Below w.heap.size w wx)
  case first =>
    go_region_held3 (fun w' => (w'.cell? (a.add (m * 5)) = some (.int .i64 x.loc) ∧ w'.cell? ⟨(a.add (m * 5)).block, (a.add (m * 5)).off + 1, none⟩ = some (.int .i64 x.sg) ∧ w'.cell? ⟨(a.add (m * 5)).block, (a.add (m * 5)).off + 2, none⟩ = some (.int .i64 x.ce) ∧ w'.cell? ⟨(a.add (m * 5)).block, (a.add (m * 5)).off + 3, none⟩ = some (.int .i64 x.cl) ∧ w'.cell? ⟨(a.add (m * 5)).block, (a.add (m * 5)).off + 4, none⟩ = some (.bool x.wd)) ∧
      (w'.cell? (a.add (n * 5)) = some (.int .i64 y.loc) ∧ w'.cell? ⟨(a.add (n * 5)).block, (a.add (n * 5)).off + 1, none⟩ = some (.int .i64 y.sg) ∧ w'.cell? ⟨(a.add (n * 5)).block, (a.add (n * 5)).off + 2, none⟩ = some (.int .i64 y.ce) ∧ w'.cell? ⟨(a.add (n * 5)).block, (a.add (n * 5)).off + 3, none⟩ = some (.int .i64 y.cl) ∧ w'.cell? ⟨(a.add (n * 5)).block, (a.add (n * 5)).off + 4, none⟩ = some (.bool y.wd)))
      (go_keep) (fail)
    all_goals first | go_wp2_with fail | skip
    all_goals go_meet
    · refine ⟨w.heap.size, w.heap.size + 1, rfl, rfl, ?_, ?_, ?_⟩
      · exact ⟨by simp; omega, by go_simp, by go_simp, by go_simp, by go_simp, by go_simp⟩
      · exact ⟨by simp, by go_simp, by go_simp, by go_simp, by go_simp, by go_simp⟩
      · first | exact ((Below.refl _ w).alloc (Nat.le_refl _) _).alloc (by simp) _ | exact (((Below.refl _ w).alloc (Nat.le_refl _) _).alloc (by simp) _).drew
    · refine ⟨w.heap.size + 1, w.heap.size, rfl, rfl, ?_, ?_, ?_⟩
      · exact ⟨by simp, by go_simp, by go_simp, by go_simp, by go_simp, by go_simp⟩
      · exact ⟨by simp; omega, by go_simp, by go_simp, by go_simp, by go_simp, by go_simp⟩
      · first | exact ((Below.refl _ w).alloc (Nat.le_refl _) _).alloc (by simp) _ | exact (((Below.refl _ w).alloc (Nat.le_refl _) _).alloc (by simp) _).drew
  case rest =>
    obtain ⟨B, C, rfl, rfl, hX, hY, bc⟩ := hcut
    obtain ⟨_, p0, p1, p2, p3, p4⟩ := id hX
    obtain ⟨_, q0, q1, q2, q3, q4⟩ := id hY
    clear HR x0 x1 x2 x3 x4 y0 y1 y2 y3 y4
    generalize wc = V at *
    go_wp2_with fail
    all_goals go_ret
    all_goals refine ⟨?_, bc⟩
    all_goals clear p0 p1 p2 p3 p4 q0 q1 q2 q3 q4 hX hY bc
    all_goals (unfold kindI; refine congrArg Ending.returned (congrArg (Value.int IntKind.i64) ?_))
    all_goals (simp_all; done)
/-- The kind of the place ahead of part n, as the list has it. -/
def kindL (L : List Pt) (n : Nat) : Int := kindI (match L[n - 2]? with | some z => decide (1 < n) && dashB z | none => false) (L.getD (n - 1) ⟨0, 0, 0, 0, false⟩) (L.getD n ⟨0, 0, 0, 0, false⟩)
theorem kindAt_any (L : List Pt) (a : Addr) (cap n : Nat) (hc : L.length ≤ cap ∧ cap ≤ maxLen) (h1 : 1 ≤ n) (hl : n < L.length) (w : World) (hR : PRow L a w) :
    Calls Tryd.prog 48 #[.slice (some a) L.length cap, .int .i64 n] w fun e w' => e = .returned (.int .i64 (kindL L n)) ∧ Below w.heap.size w w' := by
  have hx : L[n - 1]? = some (L.getD (n - 1) ⟨0, 0, 0, 0, false⟩) := by rw [List.getD, List.getElem?_eq_getElem (by omega)]; rfl
  have hy : L[n]? = some (L.getD n ⟨0, 0, 0, 0, false⟩) := by rw [List.getD, List.getElem?_eq_getElem (by omega)]; rfl
  have hz : L[n - 2]? = some (L.getD (n - 2) ⟨0, 0, 0, 0, false⟩) := by rw [List.getD, List.getElem?_eq_getElem (by omega)]; rfl
  unfold kindL
  rw [hz]
  simp only
  by_cases c : 1 < n
  · rw [decide_eq_true c, Bool.true_and]
    exact kind_two L a cap (n - 2) n _ _ _ hc (by omega) hl (by rw [show n - 2 + 1 = n - 1 by omega]; exact hx) hy hz w hR
  · rw [decide_eq_false c, Bool.false_and]
    exact kind_one L a cap (n - 1) n _ _ hc (by omega) (by omega) hl hx hy w hR
end Go.Proofs.YteignefcijmmeaaDoor
