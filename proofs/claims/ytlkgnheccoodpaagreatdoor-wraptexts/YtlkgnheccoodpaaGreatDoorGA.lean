import Derived.Deep.RegionHeld3
import Derived.Deep.AppendLies
import Derived.Deep.Cut
import Derived.Deep.CutRange
import Derived.Deep.DeepCutAuto
import Derived.Deep.CutBlock
import Derived.Test.YtlkgnheccoodpaaGreatDoorLawL
import Derived.Test.YtlkgnheccoodpaaGreatDoorWrC
namespace Go.Proofs.YtlkgnheccoodpaaGreatDoor
open Go.RowKit
attribute [local go_sem] Oper.semAt_some
structure Pt where
 loc : Int
 sg : Int
 ce : Int
 cl : Int
 wd : Bool
def PRow (l : List Pt) (a : Addr) (V : World) : Prop := a.block < V.heap.size ∧ ∀ (i : Nat) (p : Pt), l[i]? = some p →
 V.cell? (a.add (i * 5)) = some (.int .i64 p.loc) ∧ V.cell? (a.add (i * 5 + 1)) = some (.int .i64 p.sg) ∧ V.cell? (a.add (i * 5 + 2)) = some (.int .i64 p.ce) ∧ V.cell? (a.add (i * 5 + 3)) = some (.int .i64 p.cl) ∧ V.cell? (a.add (i * 5 + 4)) = some (.bool p.wd)
theorem addrW_block (a : Addr) (n : Nat) : (a.add n).block = a.block := by unfold Addr.add; split <;> rfl
theorem addrW_next (a : Addr) (n k : Nat) : a.add (n + (k + 1)) = ⟨(a.add n).block, (a.add n).off + (k + 1), none⟩ := by
 unfold Addr.add
 by_cases h : n = 0
 ·subst h; simp
 ·simp [h]; omega
theorem PRow.keep {l : List Pt} {a : Addr} {V V2 : World} (h : PRow l a V) (b : Below V.heap.size V V2) : PRow l a V2 :=
 ⟨Nat.lt_of_lt_of_le h.1 b.size, fun i p hp => by
  obtain ⟨h0, h1, h2, h3, h4⟩ := h.2 i p hp
  have k : ∀ n, (a.add n).block < V.heap.size := fun n => by rw [addrW_block]; exact h.1
  exact ⟨(b.cell (k _)).trans h0, (b.cell (k _)).trans h1, (b.cell (k _)).trans h2, (b.cell (k _)).trans h3, (b.cell (k _)).trans h4⟩⟩
theorem PRow.five {l : List Pt} {a : Addr} {V : World} (h : PRow l a V) {i : Nat} {p : Pt} (hp : l[i]? = some p) :
  V.cell? (a.add (i * 5)) = some (.int .i64 p.loc) ∧ V.cell? ⟨(a.add (i * 5)).block, (a.add (i * 5)).off + 1, none⟩ = some (.int .i64 p.sg) ∧ V.cell? ⟨(a.add (i * 5)).block, (a.add (i * 5)).off + 2, none⟩ = some (.int .i64 p.ce) ∧ V.cell? ⟨(a.add (i * 5)).block, (a.add (i * 5)).off + 3, none⟩ = some (.int .i64 p.cl) ∧ V.cell? ⟨(a.add (i * 5)).block, (a.add (i * 5)).off + 4, none⟩ = some (.bool p.wd) := by
 obtain ⟨h0, h1, h2, h3, h4⟩ := h.2 i p hp
 rw [addrW_next] at h1 h2 h3 h4
 exact ⟨h0, h1, h2, h3, h4⟩
theorem bel1W (w : World) (o : Obj) : Below w.heap.size w (w.alloc o) := (Below.refl _ w).alloc (Nat.le_refl _) o
theorem bupW {w a b : World} (h : Below w.heap.size w a) (k : Below a.heap.size a b) : Below w.heap.size w b := h.trans (k.mono h.size)
def Pt.val (p : Pt) : Value := .agg #[.int .i64 p.loc, .int .i64 p.sg, .int .i64 p.ce, .int .i64 p.cl, .bool p.wd]
def dashB (p : Pt) : Bool := p.cl != 2 && p.cl != 1 && p.cl != 3
set_option maxRecDepth 100000 in
theorem dash_any (p : Pt) (w : World) : Calls Tryz.prog 65 #[p.val] w fun e w' => e = .returned (.bool (dashB p)) ∧ Below w.heap.size w w' := by
 unfold Pt.val dashB
 by_cases h2 : p.cl = 2
 ·have t2 : (p.cl != 2) = false := by rw [h2]; rfl
  rw [t2]
  go_enter Tryz.func65, Tryz.ntmps65
  go_wp2_with fail
  go_ret
  exact ⟨rfl, bel1W w _⟩
 ·have t2 : (p.cl != 2) = true := by rw [bne_iff_ne]; exact h2
  by_cases h1 : p.cl = 1
  ·have t1 : (p.cl != 1) = false := by rw [h1]; rfl
   rw [t2, t1]
   go_enter Tryz.func65, Tryz.ntmps65
   go_wp2_with fail
   go_ret
   exact ⟨rfl, bel1W w _⟩
  ·have t1 : (p.cl != 1) = true := by rw [bne_iff_ne]; exact h1
   obtain ⟨b, hb⟩ : ∃ b, (p.cl != 3) = b := ⟨_, rfl⟩
   rw [t2, t1, hb]
   go_enter Tryz.func65, Tryz.ntmps65
   go_wp2_with fail
   go_ret
   exact ⟨by cases b <;> rfl, bel1W w _⟩
end Go.Proofs.YtlkgnheccoodpaaGreatDoor
namespace Go.Proofs.YtlkgnheccoodpaaGreatDoor
open Go.RowKit
attribute [local go_sem] Oper.semAt_some
theorem hideW {p : Prop} (h : p) : Hid p := h
def kindI (d : Bool) (x y : Pt) : Int :=
 if x.cl = 1 then 1 else if y.cl = 1 ∨ y.cl = 2 ∨ y.cl = 6 then 0 else if x.cl = 2 then 2 else if x.cl = 3 ∧ d = true then 2 else if (x.wd || y.wd) = true ∧ x.cl ≠ 4 ∧ y.cl ≠ 5 then 2 else 3
def PtAt (V : World) (B : Nat) (p : Pt) : Prop := B < V.heap.size ∧ V.cell? ⟨B, 0, none⟩ = some (.int .i64 p.loc) ∧ V.cell? ⟨B, 1, none⟩ = some (.int .i64 p.sg) ∧ V.cell? ⟨B, 2, none⟩ = some (.int .i64 p.ce) ∧ V.cell? ⟨B, 3, none⟩ = some (.int .i64 p.cl) ∧ V.cell? ⟨B, 4, none⟩ = some (.bool p.wd)
theorem PtAt.keep {V U : World} {B : Nat} {p : Pt} (h : PtAt V B p) (b : Below V.heap.size V U) : PtAt U B p :=
 ⟨Nat.lt_of_lt_of_le h.1 b.size, (b.cell (p := ⟨B, 0, none⟩) h.1).trans h.2.1, (b.cell (p := ⟨B, 1, none⟩) h.1).trans h.2.2.1, (b.cell (p := ⟨B, 2, none⟩) h.1).trans h.2.2.2.1, (b.cell (p := ⟨B, 3, none⟩) h.1).trans h.2.2.2.2.1, (b.cell (p := ⟨B, 4, none⟩) h.1).trans h.2.2.2.2.2⟩
set_option maxRecDepth 100000 in
set_option maxHeartbeats 4000000 in
theorem kind_two (L : List Pt) (a : Addr) (cap m n : Nat) (x y z : Pt) (hc : L.length ≤ cap ∧ cap ≤ maxLen) (hn : n = m + 2) (hl : n < L.length) (hx : L[m + 1]? = some x) (hy : L[n]? = some y) (hz : L[m]? = some z) (w : World) (hR : PRow L a w) :
  Calls Tryz.prog 36 #[.slice (some a) L.length cap, .int .i64 n] w fun e w' => e = .returned (.int .i64 (kindI (dashB z) x y)) ∧ Below w.heap.size w w' := by
 have hmx : maxLen ≤ 9223372036854775807 := by decide
 have HR := hideW hR
 have HZ := hideW hz
 obtain ⟨x0, x1, x2, x3, x4⟩ := hR.five hx
 obtain ⟨y0, y1, y2, y3, y4⟩ := hR.five hy
 obtain ⟨z0, z1, z2, z3, z4⟩ := hR.five hz
 obtain ⟨m1, hm1⟩ : ∃ m1, m + 1 = m1 := ⟨_, rfl⟩
 rw [hm1] at x0 x1 x2 x3 x4
 have hw1 : (n : Int) - 1 = (m1 : Int) := by omega
 have hw2 : (n : Int) - 2 = (m : Int) := by omega
 have i1 : m1 < L.length := by omega
 have i3 : m < L.length := by omega
 have i4 : 1 < n := by omega
 have i5 : (m1 : Int) < (L.length : Int) := by omega
 have i6 : (m : Int) < (L.length : Int) := by omega
 have i7 : (1 : Int) < (n : Int) := by omega
 have j2 : (n : Int) ≤ 9223372036854775807 := by omega
 have j5 : (m1 : Int) ≤ 9223372036854775807 := by omega
 have j6 : (m : Int) ≤ 9223372036854775807 := by omega
 have k1 : IntKind.i64.wrap (m1 : Int) = (m1 : Int) := IntWalk.i64_in _ ⟨by omega, by omega⟩
 have k2 : IntKind.i64.wrap (m : Int) = (m : Int) := IntWalk.i64_in _ ⟨by omega, by omega⟩
 clear hx hy hz hm1 hR hn hmx hc
 go_enter Tryz.func36, Tryz.ntmps36
 go_upto_region 1 with fail
 go_cut [5, 6] (fun p q wx => ∃ B C, p = .pointer (some ⟨B, 0, none⟩) ∧ q = .pointer (some ⟨C, 0, none⟩) ∧ PtAt wx B x ∧ PtAt wx C y ∧ Below w.heap.size w wx)
 case first =>
  go_region_held3 (fun w' => (w'.cell? (a.add (m1 * 5)) = some (.int .i64 x.loc) ∧ w'.cell? ⟨(a.add (m1 * 5)).block, (a.add (m1 * 5)).off + 1, none⟩ = some (.int .i64 x.sg) ∧ w'.cell? ⟨(a.add (m1 * 5)).block, (a.add (m1 * 5)).off + 2, none⟩ = some (.int .i64 x.ce) ∧ w'.cell? ⟨(a.add (m1 * 5)).block, (a.add (m1 * 5)).off + 3, none⟩ = some (.int .i64 x.cl) ∧ w'.cell? ⟨(a.add (m1 * 5)).block, (a.add (m1 * 5)).off + 4, none⟩ = some (.bool x.wd)) ∧
   (w'.cell? (a.add (n * 5)) = some (.int .i64 y.loc) ∧ w'.cell? ⟨(a.add (n * 5)).block, (a.add (n * 5)).off + 1, none⟩ = some (.int .i64 y.sg) ∧ w'.cell? ⟨(a.add (n * 5)).block, (a.add (n * 5)).off + 2, none⟩ = some (.int .i64 y.ce) ∧ w'.cell? ⟨(a.add (n * 5)).block, (a.add (n * 5)).off + 3, none⟩ = some (.int .i64 y.cl) ∧ w'.cell? ⟨(a.add (n * 5)).block, (a.add (n * 5)).off + 4, none⟩ = some (.bool y.wd)))
   (go_keep) (fail)
  all_goals first | go_wp2_with fail | skip
  all_goals go_meet
  ·refine ⟨w.heap.size, w.heap.size + 1, rfl, rfl, ?_, ?_, ?_⟩
   ·exact ⟨by simp; omega, by go_simp, by go_simp, by go_simp, by go_simp, by go_simp⟩
   ·exact ⟨by simp, by go_simp, by go_simp, by go_simp, by go_simp, by go_simp⟩
   ·first | exact ((Below.refl _ w).alloc (Nat.le_refl _) _).alloc (by simp) _ | exact (((Below.refl _ w).alloc (Nat.le_refl _) _).alloc (by simp) _).drew
  ·refine ⟨w.heap.size + 1, w.heap.size, rfl, rfl, ?_, ?_, ?_⟩
   ·exact ⟨by simp, by go_simp, by go_simp, by go_simp, by go_simp, by go_simp⟩
   ·exact ⟨by simp; omega, by go_simp, by go_simp, by go_simp, by go_simp, by go_simp⟩
   ·first | exact ((Below.refl _ w).alloc (Nat.le_refl _) _).alloc (by simp) _ | exact (((Below.refl _ w).alloc (Nat.le_refl _) _).alloc (by simp) _).drew
 case rest =>
  obtain ⟨B, C, rfl, rfl, hX, hY, bc⟩ := hcut
  obtain ⟨z0, z1, z2, z3, z4⟩ := (HR.out.keep bc).five HZ.out
  obtain ⟨_, p0, p1, p2, p3, p4⟩ := id hX
  obtain ⟨_, q0, q1, q2, q3, q4⟩ := id hY
  clear HR HZ x0 x1 x2 x3 x4 y0 y1 y2 y3 y4
  have HD := hideW (dash_any z)
  unfold Pt.val at HD
  generalize wc = V at *
  go_wp2_with (go_at_call 65; refine (HD.out _).mono ?_; rintro e w2 ⟨rfl, b2⟩; have X2 := hX.keep b2; have Y2 := hY.keep b2; clear p0 p1 p2 p3 p4 q0 q1 q2 q3 q4; obtain ⟨_, p0, p1, p2, p3, p4⟩ := id X2; obtain ⟨_, q0, q1, q2, q3, q4⟩ := id Y2)
  all_goals go_ret
  all_goals refine ⟨?_, by first | exact bc | exact bc.trans (b2.mono bc.size)⟩
  all_goals clear p0 p1 p2 p3 p4 q0 q1 q2 q3 q4 z0 z1 z2 z3 z4 HD hX hY bc
  all_goals (try clear X2 Y2 b2)
  all_goals (unfold kindI; refine congrArg Ending.returned (congrArg (Value.int IntKind.i64) ?_))
  all_goals (simp_all; done)
set_option maxRecDepth 100000 in
set_option maxHeartbeats 4000000 in
theorem kind_one (L : List Pt) (a : Addr) (cap m n : Nat) (x y : Pt) (_hc : L.length ≤ cap ∧ cap ≤ maxLen) (hn : n = 1) (hm0 : m = 0) (hl : n < L.length) (hx : L[m]? = some x) (hy : L[n]? = some y) (w : World) (hR : PRow L a w) :
  Calls Tryz.prog 36 #[.slice (some a) L.length cap, .int .i64 n] w fun e w' => e = .returned (.int .i64 (kindI false x y)) ∧ Below w.heap.size w w' := by
 have hmx : maxLen ≤ 9223372036854775807 := by decide
 have HR := hideW hR
 obtain ⟨x0, x1, x2, x3, x4⟩ := hR.five hx
 obtain ⟨y0, y1, y2, y3, y4⟩ := hR.five hy
 have hw1 : (n : Int) - 1 = (m : Int) := by omega
 have i1 : m < L.length := by omega
 have i4 : ¬ 1 < n := by omega
 have i5 : (m : Int) < (L.length : Int) := by omega
 have i7 : ¬ (1 : Int) < (n : Int) := by omega
 have j2 : (n : Int) ≤ 9223372036854775807 := by omega
 have j5 : (m : Int) ≤ 9223372036854775807 := by omega
 have k1 : IntKind.i64.wrap (m : Int) = (m : Int) := IntWalk.i64_in _ ⟨by omega, by omega⟩
 clear hx hy hR hn hm0 hmx
 go_enter Tryz.func36, Tryz.ntmps36
 go_upto_region 1 with fail
 go_cut [5, 6] (fun p q wx => ∃ B C, p = .pointer (some ⟨B, 0, none⟩) ∧ q = .pointer (some ⟨C, 0, none⟩) ∧ PtAt wx B x ∧ PtAt wx C y ∧ Below w.heap.size w wx)
 case first =>
  go_region_held3 (fun w' => (w'.cell? (a.add (m * 5)) = some (.int .i64 x.loc) ∧ w'.cell? ⟨(a.add (m * 5)).block, (a.add (m * 5)).off + 1, none⟩ = some (.int .i64 x.sg) ∧ w'.cell? ⟨(a.add (m * 5)).block, (a.add (m * 5)).off + 2, none⟩ = some (.int .i64 x.ce) ∧ w'.cell? ⟨(a.add (m * 5)).block, (a.add (m * 5)).off + 3, none⟩ = some (.int .i64 x.cl) ∧ w'.cell? ⟨(a.add (m * 5)).block, (a.add (m * 5)).off + 4, none⟩ = some (.bool x.wd)) ∧
   (w'.cell? (a.add (n * 5)) = some (.int .i64 y.loc) ∧ w'.cell? ⟨(a.add (n * 5)).block, (a.add (n * 5)).off + 1, none⟩ = some (.int .i64 y.sg) ∧ w'.cell? ⟨(a.add (n * 5)).block, (a.add (n * 5)).off + 2, none⟩ = some (.int .i64 y.ce) ∧ w'.cell? ⟨(a.add (n * 5)).block, (a.add (n * 5)).off + 3, none⟩ = some (.int .i64 y.cl) ∧ w'.cell? ⟨(a.add (n * 5)).block, (a.add (n * 5)).off + 4, none⟩ = some (.bool y.wd)))
   (go_keep) (fail)
  all_goals first | go_wp2_with fail | skip
  all_goals go_meet
  ·refine ⟨w.heap.size, w.heap.size + 1, rfl, rfl, ?_, ?_, ?_⟩
   ·exact ⟨by simp; omega, by go_simp, by go_simp, by go_simp, by go_simp, by go_simp⟩
   ·exact ⟨by simp, by go_simp, by go_simp, by go_simp, by go_simp, by go_simp⟩
   ·first | exact ((Below.refl _ w).alloc (Nat.le_refl _) _).alloc (by simp) _ | exact (((Below.refl _ w).alloc (Nat.le_refl _) _).alloc (by simp) _).drew
  ·refine ⟨w.heap.size + 1, w.heap.size, rfl, rfl, ?_, ?_, ?_⟩
   ·exact ⟨by simp, by go_simp, by go_simp, by go_simp, by go_simp, by go_simp⟩
   ·exact ⟨by simp; omega, by go_simp, by go_simp, by go_simp, by go_simp, by go_simp⟩
   ·first | exact ((Below.refl _ w).alloc (Nat.le_refl _) _).alloc (by simp) _ | exact (((Below.refl _ w).alloc (Nat.le_refl _) _).alloc (by simp) _).drew
 case rest =>
  obtain ⟨B, C, rfl, rfl, hX, hY, bc⟩ := hcut
  obtain ⟨_, p0, p1, p2, p3, p4⟩ := id hX
  obtain ⟨_, q0, q1, q2, q3, q4⟩ := id hY
  clear HR x0 x1 x2 x3 x4 y0 y1 y2 y3 y4
  generalize wc = V at *
  go_wp2_with fail
  all_goals go_ret
  all_goals refine ⟨?_, bc⟩
  all_goals clear p0 p1 p2 p3 p4 q0 q1 q2 q3 q4 hX hY bc
  all_goals (unfold kindI; refine congrArg Ending.returned (congrArg (Value.int IntKind.i64) ?_))
  all_goals (simp_all; done)
def kindL (L : List Pt) (n : Nat) : Int := kindI (match L[n - 2]? with | some z => decide (1 < n) && dashB z | none => false) (L.getD (n - 1) ⟨0, 0, 0, 0, false⟩) (L.getD n ⟨0, 0, 0, 0, false⟩)
theorem kindAt_any (L : List Pt) (a : Addr) (cap n : Nat) (hc : L.length ≤ cap ∧ cap ≤ maxLen) (h1 : 1 ≤ n) (hl : n < L.length) (w : World) (hR : PRow L a w) :
  Calls Tryz.prog 36 #[.slice (some a) L.length cap, .int .i64 n] w fun e w' => e = .returned (.int .i64 (kindL L n)) ∧ Below w.heap.size w w' := by
 have hx : L[n - 1]? = some (L.getD (n - 1) ⟨0, 0, 0, 0, false⟩) := by rw [List.getD, List.getElem?_eq_getElem (by omega)]; rfl
 have hy : L[n]? = some (L.getD n ⟨0, 0, 0, 0, false⟩) := by rw [List.getD, List.getElem?_eq_getElem (by omega)]; rfl
 have hz : L[n - 2]? = some (L.getD (n - 2) ⟨0, 0, 0, 0, false⟩) := by rw [List.getD, List.getElem?_eq_getElem (by omega)]; rfl
 unfold kindL
 rw [hz]
 simp only
 by_cases c : 1 < n
 ·rw [decide_eq_true c, Bool.true_and]
  exact kind_two L a cap (n - 2) n _ _ _ hc (by omega) hl (by rw [show n - 2 + 1 = n - 1 by omega]; exact hx) hy hz w hR
 ·rw [decide_eq_false c, Bool.false_and]
  exact kind_one L a cap (n - 1) n _ _ hc (by omega) (by omega) hl hx hy w hR
end Go.Proofs.YtlkgnheccoodpaaGreatDoor
namespace Go.Proofs.YtlkgnheccoodpaaGreatDoor
open Go.RowKit
attribute [local go_sem] Oper.semAt_some
def pt0 : Pt := ⟨0, 0, 0, 0, false⟩
def stripB (L : List Pt) : Nat → Nat
 | 0 => 0
 | e + 1 => if (L.getD e pt0).cl = 2 then stripB L e else e + 1
theorem stripB_le (L : List Pt) : ∀ e, stripB L e ≤ e
 | 0 => Nat.le_refl _
 | e + 1 => by
  unfold stripB
  have := stripB_le L e
  split <;> omega
def stopV (k : Int) (p q : Pt) : Value := .agg #[.int .i64 k, .int .i64 p.loc, .int .i64 p.sg, .int .i64 p.ce, .int .i64 q.loc, .int .i64 q.sg, .int .i64 q.ce]
def SevZ (V : World) (B : Nat) : Prop := (B < V.heap.size ∧ V.cell? ⟨B, 0, none⟩ = some (.int .i64 0) ∧ V.cell? ⟨B, 1, none⟩ = some (.int .i64 0) ∧ V.cell? ⟨B, 2, none⟩ = some (.int .i64 0) ∧ V.cell? ⟨B, 3, none⟩ = some (.int .i64 0) ∧ V.cell? ⟨B, 4, none⟩ = some (.int .i64 0) ∧ V.cell? ⟨B, 5, none⟩ = some (.int .i64 0) ∧ V.cell? ⟨B, 6, none⟩ = some (.int .i64 0)) ∧
 V.frozen? ⟨B, 0, none⟩ = false ∧ V.frozen? ⟨B, 1, none⟩ = false ∧ V.frozen? ⟨B, 2, none⟩ = false ∧ V.frozen? ⟨B, 3, none⟩ = false ∧ V.frozen? ⟨B, 4, none⟩ = false ∧ V.frozen? ⟨B, 5, none⟩ = false ∧ V.frozen? ⟨B, 6, none⟩ = false
theorem SevZ.new (w : World) : SevZ (w.alloc (.cells #[.int .i64 0, .int .i64 0, .int .i64 0, .int .i64 0, .int .i64 0, .int .i64 0, .int .i64 0] 52)) w.heap.size :=
 ⟨⟨by simp, by go_simp, by go_simp, by go_simp, by go_simp, by go_simp, by go_simp, by go_simp⟩, by go_simp, by go_simp, by go_simp, by go_simp, by go_simp, by go_simp, by go_simp⟩
theorem stripB_step (L : List Pt) (e : Nat) (h : 0 < e) : stripB L e = if (L.getD (e - 1) pt0).cl = 2 then stripB L (e - 1) else e := by
 obtain ⟨k, rfl⟩ : ∃ k, e = k + 1 := ⟨e - 1, by omega⟩
 rfl
theorem below_seven {B q : Nat} {w W : World} (h : Below B w W) (hq : B ≤ q) (v0 v1 v2 v3 v4 v5 v6 : Value) : Below B w (((((((W.setCell ⟨q, 0, none⟩ v0).setCell ⟨q, 1, none⟩ v1).setCell ⟨q, 2, none⟩ v2).setCell ⟨q, 3, none⟩ v3).setCell ⟨q, 4, none⟩ v4).setCell ⟨q, 5, none⟩ v5).setCell ⟨q, 6, none⟩ v6) :=
 ((((((h.setCell (p := ⟨q, 0, none⟩) hq v0).setCell (p := ⟨q, 1, none⟩) hq v1).setCell (p := ⟨q, 2, none⟩) hq v2).setCell (p := ⟨q, 3, none⟩) hq v3).setCell (p := ⟨q, 4, none⟩) hq v4).setCell (p := ⟨q, 5, none⟩) hq v5).setCell (p := ⟨q, 6, none⟩) hq v6
set_option maxRecDepth 100000 in
set_option maxHeartbeats 4000000 in
theorem stop_walk (L : List Pt) (a : Addr) (cap n e0 : Nat) (k : Int) (hc : L.length ≤ cap ∧ cap ≤ maxLen) (hl : n < L.length) (he : ((k == 1) = true ∧ (n : Int) - 1 = (e0 : Int)) ∨ ((k == 1) = false ∧ n = e0)) (w : World) (hR : PRow L a w) :
  Calls Tryz.prog 37 #[.slice (some a) L.length cap, .int .i64 n, .int .i64 k] w fun e w' => e = .returned (stopV k (L.getD (stripB L e0) pt0) (L.getD n pt0)) ∧ Below w.heap.size w w' := by
 have hmx : maxLen ≤ 9223372036854775807 := by decide
 have g : ∀ i, i < L.length → L[i]? = some (L.getD i pt0) := fun i hi => by rw [List.getD, List.getElem?_eq_getElem hi]; rfl
 have HR := hideW hR
 have HG := hideW g
 clear g hR
 obtain ⟨R, hRe⟩ : ∃ R, stripB L e0 = R := ⟨_, rfl⟩
 rw [hRe]
 have HE := hideW hRe
 clear hRe
 obtain ⟨x, hx⟩ : ∃ x, L.getD R pt0 = x := ⟨_, rfl⟩
 obtain ⟨y, hy⟩ : ∃ y, L.getD n pt0 = y := ⟨_, rfl⟩
 rw [hx, hy]
 have HX := hideW hx
 have HY := hideW hy
 clear hx hy
 rcases he with ⟨h1, h2⟩ | ⟨h1, rfl⟩
 ·have w1 : IntKind.i64.wrap (e0 : Int) = (e0 : Int) := IntWalk.i64_in _ ⟨by omega, by omega⟩
  go_enter Tryz.func37, Tryz.ntmps37
  go_upto_block 0 with fail
  go_cut [7] (fun o wx => o = .int .i64 R ∧ SevZ wx w.heap.size ∧ Below w.heap.size w wx)
  case first =>
   go_wp2_with fail
   go_loopw [7] (fun v wr => ∃ e : Nat, v = .int .i64 e ∧ e ≤ n ∧ Hid (stripB L e = R) ∧ SevZ wr w.heap.size ∧ Below w.heap.size w wr) (fun v _ => (intOf v).toNat)
   case atStart => exact ⟨e0, rfl, by omega, HE, SevZ.new w, bel1W w _⟩
   case round =>
    clear HE
    obtain ⟨e, rfl, hen, HE, hZ, hB⟩ := hrel
    by_cases h0 : 0 < e
    ·have hs := stripB_step L e h0
     obtain ⟨_, _, _, b3, _⟩ := (HR.out.keep hB).five (HG.out (e - 1) (by omega))
     obtain ⟨m, hm⟩ : ∃ m, e - 1 = m := ⟨_, rfl⟩
     rw [hm] at hs b3
     have y0 : (0 : Int) < (e : Int) := by omega
     have y1 : (e : Int) - 1 = (m : Int) := by omega
     have y2 : (m : Int) < (L.length : Int) := by omega
     have w2 : IntKind.i64.wrap (m : Int) = (m : Int) := IntWalk.i64_in _ ⟨by omega, by omega⟩
     have HB := hideW (And.intro hZ hB)
     by_cases hb : (L.getD m pt0).cl = 2
     ·have HE2 : Hid (stripB L m = R) := by
       rw [if_pos hb] at hs
       exact hs.symm.trans HE.out
      have hb2 : ((L.getD m pt0).cl == 2) = true := by rw [hb]; rfl
      generalize L.getD m pt0 = p at *
      clear HE HG HR hb hs hZ hB hm
      go_wp2_with fail
      exact ⟨⟨m, rfl, by omega, HE2, HB.out.1, HB.out.2⟩, by simp [intOf]; omega⟩
     ·have hb2 : ((L.getD m pt0).cl == 2) = false := by rw [beq_eq_false_iff_ne]; exact hb
      rw [if_neg hb] at hs
      obtain rfl : e = R := hs.symm.trans HE.out
      generalize L.getD m pt0 = p at *
      clear HE HG HR hb hs hZ hB hm
      go_wp2_with fail
      go_meet
      case rel => exact ⟨rfl, HB.out.1, HB.out.2⟩
    ·have hs : stripB L e = e := by
      obtain rfl : e = 0 := by omega
      rfl
     have y0 : ¬ (0 : Int) < (e : Int) := by omega
     obtain rfl : e = R := hs.symm.trans HE.out
     have HB := hideW (And.intro hZ hB)
     clear HE HG HR hs hZ hB
     go_wp2_with fail
     go_meet
     case rel => exact ⟨rfl, HB.out.1, HB.out.2⟩
  case rest =>
   obtain ⟨rfl, hZ, hB⟩ := hcut
   have hRn : R ≤ n := by have := stripB_le L e0; have := HE.out; omega
   obtain ⟨⟨_, r0, r1, r2, r3, r4, r5, r6⟩, f0, f1, f2, f3, f4, f5, f6⟩ := id hZ
   obtain ⟨x0, x1, x2, _, _⟩ := (HR.out.keep hB).five (HG.out R (by omega))
   obtain ⟨y0, y1, y2, _, _⟩ := (HR.out.keep hB).five (HG.out n hl)
   have zn : (n : Int) < (L.length : Int) := by omega
   have ze : (R : Int) < (L.length : Int) := by omega
   have ha : a.block < w.heap.size := HR.out.1
   have n1 : (a.add (R * 5)).block ≠ w.heap.size := by rw [addrW_block]; omega
   have n2 : (a.add (n * 5)).block ≠ w.heap.size := by rw [addrW_block]; omega
   have HSK : Hid (∀ W : World, Below w.heap.size w W → (fun w' => (w'.cell? (a.add (R * 5)) = some (.int .i64 x.loc) ∧ w'.cell? ⟨(a.add (R * 5)).block, (a.add (R * 5)).off + 1, none⟩ = some (.int .i64 x.sg) ∧ w'.cell? ⟨(a.add (R * 5)).block, (a.add (R * 5)).off + 2, none⟩ = some (.int .i64 x.ce)) ∧ (w'.cell? (a.add (n * 5)) = some (.int .i64 y.loc) ∧ w'.cell? ⟨(a.add (n * 5)).block, (a.add (n * 5)).off + 1, none⟩ = some (.int .i64 y.sg) ∧ w'.cell? ⟨(a.add (n * 5)).block, (a.add (n * 5)).off + 2, none⟩ = some (.int .i64 y.ce))) W) := fun W hW => by
    obtain ⟨x0, x1, x2, _, _⟩ := (HR.out.keep hW).five (HG.out R (by omega))
    obtain ⟨y0, y1, y2, _, _⟩ := (HR.out.keep hW).five (HG.out n hl)
    rw [HX.out] at x0 x1 x2
    rw [HY.out] at y0 y1 y2
    exact ⟨⟨x0, x1, x2⟩, ⟨y0, y1, y2⟩⟩
   rw [HX.out] at x0 x1 x2
   rw [HY.out] at y0 y1 y2
   clear HX HY
   have HB := hideW (And.intro hZ hB)
   clear HE HG HR hZ hB ha hmx hc hRn
   generalize wc = V at *
   go_upto_region 6 with fail
   go_region_held3 (fun w' => (w'.cell? (a.add (R * 5)) = some (.int .i64 x.loc) ∧ w'.cell? ⟨(a.add (R * 5)).block, (a.add (R * 5)).off + 1, none⟩ = some (.int .i64 x.sg) ∧ w'.cell? ⟨(a.add (R * 5)).block, (a.add (R * 5)).off + 2, none⟩ = some (.int .i64 x.ce)) ∧ (w'.cell? (a.add (n * 5)) = some (.int .i64 y.loc) ∧ w'.cell? ⟨(a.add (n * 5)).block, (a.add (n * 5)).off + 1, none⟩ = some (.int .i64 y.sg) ∧ w'.cell? ⟨(a.add (n * 5)).block, (a.add (n * 5)).off + 2, none⟩ = some (.int .i64 y.ce))) (first | with_reducible exact HSK.out _ HB.out.2.drew | with_reducible exact HSK.out _ (below_seven HB.out.2 (Nat.le_refl _) _ _ _ _ _ _ _).drew) (fail)
   all_goals go_wp2_with fail
   all_goals exact bodyPost_ret (v := stopV k x y) (by simp [stopV, results, Tryz.results37, go_sem, r0, r1, r2, r3, r4, r5, r6]) rfl ⟨rfl, (below_seven HB.out.2 (Nat.le_refl _) _ _ _ _ _ _ _).drew⟩
 ·go_enter Tryz.func37, Tryz.ntmps37
  go_upto_block 0 with fail
  go_cut [7] (fun o wx => o = .int .i64 R ∧ SevZ wx w.heap.size ∧ Below w.heap.size w wx)
  case first =>
   go_wp2_with fail
   go_loopw [7] (fun v wr => ∃ e : Nat, v = .int .i64 e ∧ e ≤ n ∧ Hid (stripB L e = R) ∧ SevZ wr w.heap.size ∧ Below w.heap.size w wr) (fun v _ => (intOf v).toNat)
   case atStart => exact ⟨n, rfl, by omega, HE, SevZ.new w, bel1W w _⟩
   case round =>
    clear HE
    obtain ⟨e, rfl, hen, HE, hZ, hB⟩ := hrel
    by_cases h0 : 0 < e
    ·have hs := stripB_step L e h0
     obtain ⟨_, _, _, b3, _⟩ := (HR.out.keep hB).five (HG.out (e - 1) (by omega))
     obtain ⟨m, hm⟩ : ∃ m, e - 1 = m := ⟨_, rfl⟩
     rw [hm] at hs b3
     have y0 : (0 : Int) < (e : Int) := by omega
     have y1 : (e : Int) - 1 = (m : Int) := by omega
     have y2 : (m : Int) < (L.length : Int) := by omega
     have w2 : IntKind.i64.wrap (m : Int) = (m : Int) := IntWalk.i64_in _ ⟨by omega, by omega⟩
     have HB := hideW (And.intro hZ hB)
     by_cases hb : (L.getD m pt0).cl = 2
     ·have HE2 : Hid (stripB L m = R) := by
       rw [if_pos hb] at hs
       exact hs.symm.trans HE.out
      have hb2 : ((L.getD m pt0).cl == 2) = true := by rw [hb]; rfl
      generalize L.getD m pt0 = p at *
      clear HE HG HR hb hs hZ hB hm
      go_wp2_with fail
      exact ⟨⟨m, rfl, by omega, HE2, HB.out.1, HB.out.2⟩, by simp [intOf]; omega⟩
     ·have hb2 : ((L.getD m pt0).cl == 2) = false := by rw [beq_eq_false_iff_ne]; exact hb
      rw [if_neg hb] at hs
      obtain rfl : e = R := hs.symm.trans HE.out
      generalize L.getD m pt0 = p at *
      clear HE HG HR hb hs hZ hB hm
      go_wp2_with fail
      go_meet
      case rel => exact ⟨rfl, HB.out.1, HB.out.2⟩
    ·have hs : stripB L e = e := by
      obtain rfl : e = 0 := by omega
      rfl
     have y0 : ¬ (0 : Int) < (e : Int) := by omega
     obtain rfl : e = R := hs.symm.trans HE.out
     have HB := hideW (And.intro hZ hB)
     clear HE HG HR hs hZ hB
     go_wp2_with fail
     go_meet
     case rel => exact ⟨rfl, HB.out.1, HB.out.2⟩
  case rest =>
   obtain ⟨rfl, hZ, hB⟩ := hcut
   have hRn : R ≤ n := by have := stripB_le L n; have := HE.out; omega
   obtain ⟨⟨_, r0, r1, r2, r3, r4, r5, r6⟩, f0, f1, f2, f3, f4, f5, f6⟩ := id hZ
   obtain ⟨x0, x1, x2, _, _⟩ := (HR.out.keep hB).five (HG.out R (by omega))
   obtain ⟨y0, y1, y2, _, _⟩ := (HR.out.keep hB).five (HG.out n hl)
   have zn : (n : Int) < (L.length : Int) := by omega
   have ze : (R : Int) < (L.length : Int) := by omega
   have ha : a.block < w.heap.size := HR.out.1
   have n1 : (a.add (R * 5)).block ≠ w.heap.size := by rw [addrW_block]; omega
   have n2 : (a.add (n * 5)).block ≠ w.heap.size := by rw [addrW_block]; omega
   have HSK : Hid (∀ W : World, Below w.heap.size w W → (fun w' => (w'.cell? (a.add (R * 5)) = some (.int .i64 x.loc) ∧ w'.cell? ⟨(a.add (R * 5)).block, (a.add (R * 5)).off + 1, none⟩ = some (.int .i64 x.sg) ∧ w'.cell? ⟨(a.add (R * 5)).block, (a.add (R * 5)).off + 2, none⟩ = some (.int .i64 x.ce)) ∧ (w'.cell? (a.add (n * 5)) = some (.int .i64 y.loc) ∧ w'.cell? ⟨(a.add (n * 5)).block, (a.add (n * 5)).off + 1, none⟩ = some (.int .i64 y.sg) ∧ w'.cell? ⟨(a.add (n * 5)).block, (a.add (n * 5)).off + 2, none⟩ = some (.int .i64 y.ce))) W) := fun W hW => by
    obtain ⟨x0, x1, x2, _, _⟩ := (HR.out.keep hW).five (HG.out R (by omega))
    obtain ⟨y0, y1, y2, _, _⟩ := (HR.out.keep hW).five (HG.out n hl)
    rw [HX.out] at x0 x1 x2
    rw [HY.out] at y0 y1 y2
    exact ⟨⟨x0, x1, x2⟩, ⟨y0, y1, y2⟩⟩
   rw [HX.out] at x0 x1 x2
   rw [HY.out] at y0 y1 y2
   clear HX HY
   have HB := hideW (And.intro hZ hB)
   clear HE HG HR hZ hB ha hmx hc hRn
   generalize wc = V at *
   go_upto_region 6 with fail
   go_region_held3 (fun w' => (w'.cell? (a.add (R * 5)) = some (.int .i64 x.loc) ∧ w'.cell? ⟨(a.add (R * 5)).block, (a.add (R * 5)).off + 1, none⟩ = some (.int .i64 x.sg) ∧ w'.cell? ⟨(a.add (R * 5)).block, (a.add (R * 5)).off + 2, none⟩ = some (.int .i64 x.ce)) ∧ (w'.cell? (a.add (n * 5)) = some (.int .i64 y.loc) ∧ w'.cell? ⟨(a.add (n * 5)).block, (a.add (n * 5)).off + 1, none⟩ = some (.int .i64 y.sg) ∧ w'.cell? ⟨(a.add (n * 5)).block, (a.add (n * 5)).off + 2, none⟩ = some (.int .i64 y.ce))) (first | with_reducible exact HSK.out _ HB.out.2.drew | with_reducible exact HSK.out _ (below_seven HB.out.2 (Nat.le_refl _) _ _ _ _ _ _ _).drew) (fail)
   all_goals go_wp2_with fail
   all_goals exact bodyPost_ret (v := stopV k x y) (by simp [stopV, results, Tryz.results37, go_sem, r0, r1, r2, r3, r4, r5, r6]) rfl ⟨rfl, (below_seven HB.out.2 (Nat.le_refl _) _ _ _ _ _ _ _).drew⟩
def stopE (k : Int) (n : Nat) : Nat := if k = 1 then n - 1 else n
theorem stopAt_any (L : List Pt) (a : Addr) (cap n : Nat) (k : Int) (hc : L.length ≤ cap ∧ cap ≤ maxLen) (hl : n < L.length) (h1 : k = 1 → 1 ≤ n) (w : World) (hR : PRow L a w) :
  Calls Tryz.prog 37 #[.slice (some a) L.length cap, .int .i64 n, .int .i64 k] w fun e w' => e = .returned (stopV k (L.getD (stripB L (stopE k n)) pt0) (L.getD n pt0)) ∧ Below w.heap.size w w' := by
 unfold stopE
 by_cases h : k = 1
 ·have := h1 h
  rw [if_pos h]
  exact stop_walk L a cap n (n - 1) k hc hl (.inl ⟨by rw [beq_iff_eq]; exact h, by omega⟩) w hR
 ·rw [if_neg h]
  exact stop_walk L a cap n n k hc hl (.inr ⟨by rw [beq_eq_false_iff_ne]; exact h, rfl⟩) w hR
end Go.Proofs.YtlkgnheccoodpaaGreatDoor
namespace Go.Proofs.YtlkgnheccoodpaaGreatDoor
open Go.RowKit
attribute [local go_sem] Oper.semAt_some
def wcheckI (n : Nat) (wd : Int) : Int := if wd < 2 ∨ 200 < wd then 1 else if 4096 < n then 3 else 0
set_option maxRecDepth 100000 in
theorem wcheck_any (s : ByteArray) (wd : Int) (w : World) : Calls Tryz.prog 13 #[.string s, .int .i64 wd] w fun e w' => e = .returned (.int .i64 (wcheckI s.size wd)) ∧ w' = w := by
 unfold wcheckI
 by_cases h1 : wd < 2
 ·rw [if_pos (.inl h1)]
  go_enter Tryz.func13, Tryz.ntmps13
  go_wp2
  go_ret
  exact ⟨rfl, rfl⟩
 ·by_cases h2 : 200 < wd
  ·rw [if_pos (.inr h2)]
   go_enter Tryz.func13, Tryz.ntmps13
   go_wp2
   go_ret
   exact ⟨rfl, rfl⟩
  ·rw [if_neg (by omega)]
   by_cases h3 : 4096 < s.size
   ·rw [if_pos h3]
    have z3 : (4096 : Int) < (s.size : Int) := by omega
    go_enter Tryz.func13, Tryz.ntmps13
    go_wp2
    go_ret
    exact ⟨rfl, rfl⟩
   ·rw [if_neg h3]
    have z3 : ¬ (4096 : Int) < (s.size : Int) := by omega
    go_enter Tryz.func13, Tryz.ntmps13
    go_wp2
    go_ret
    exact ⟨rfl, rfl⟩
set_option maxRecDepth 100000 in
theorem better_any (a b c d e f : Int) (w : World) : Calls Tryz.prog 89 #[.agg #[.int .i64 a, .int .i64 b, .int .i64 c], .agg #[.int .i64 d, .int .i64 e, .int .i64 f]] w fun r w' => r = .returned (.bool (decide (a < d) || (a == d && decide (b < e)))) ∧ Below w.heap.size w w' := by
 go_enter Tryz.func89, Tryz.ntmps89
 go_wp2_with fail
 all_goals go_ret
 all_goals refine ⟨?_, ((Below.refl _ w).alloc (Nat.le_refl _) _).alloc (by simp) _⟩
 all_goals (simp_all; done)
def sbadI (k c b wd : Int) : Int × Bool := if wd - (c - b) < 0 then (0, false) else ((wd - (c - b)) * (wd - (c - b)) + (if k = 3 then 1048576 else 0), true)
set_option maxRecDepth 100000 in
set_option maxHeartbeats 1000000 in
theorem sbad_any (k : Int) (p q : Pt) (a f b wd : Int) (hc : 0 ≤ p.ce ∧ p.ce ≤ 100000) (hb : 0 ≤ b ∧ b ≤ 100000) (hw : 0 ≤ wd ∧ wd ≤ 1000) (w : World) :
  Calls Tryz.prog 57 #[stopV k p q, .agg #[.int .i64 a, .int .i64 f, .int .i64 b], .int .i64 wd] w fun e w' => e = .returned (.tuple #[.int .i64 (sbadI k p.ce b wd).1, .bool (sbadI k p.ce b wd).2]) ∧ Below w.heap.size w w' := by
 unfold sbadI stopV
 obtain ⟨d, hd⟩ : ∃ d, p.ce - b = d := ⟨_, rfl⟩
 obtain ⟨l, hl⟩ : ∃ l, wd - d = l := ⟨_, rfl⟩
 rw [hd, hl]
 have lb : -200000 ≤ l ∧ l ≤ 200000 := by omega
 have w1 : IntKind.i64.wrap d = d := IntWalk.i64_in _ ⟨by omega, by omega⟩
 have w2 : IntKind.i64.wrap l = l := IntWalk.i64_in _ ⟨by omega, by omega⟩
 by_cases h : l < 0
 ·rw [if_pos h]
  go_enter Tryz.func57, Tryz.ntmps57
  go_wp2_with fail
  go_ret2
  exact ⟨rfl, ((Below.refl _ w).alloc (Nat.le_refl _) _).alloc (by simp) _⟩
 ·rw [if_neg h]
  obtain ⟨m, hm⟩ : ∃ m, l * l = m := ⟨_, rfl⟩
  have mb : 0 ≤ m ∧ m ≤ 40000000000 := by
   rw [← hm]
   have : l * l ≤ 200000 * 200000 := Int.mul_le_mul (by omega) (by omega) (by omega) (by omega)
   exact ⟨Int.mul_nonneg (by omega) (by omega), by omega⟩
  have w3 : IntKind.i64.wrap m = m := IntWalk.i64_in _ ⟨by omega, by omega⟩
  have w4 : IntKind.i64.wrap (m + 1048576) = m + 1048576 := IntWalk.i64_in _ ⟨by omega, by omega⟩
  rw [hm]
  by_cases h3 : k = 3
  ·subst h3
   rw [if_pos rfl]
   go_enter Tryz.func57, Tryz.ntmps57
   go_wp2_with fail
   go_ret2
   exact ⟨rfl, ((Below.refl _ w).alloc (Nat.le_refl _) _).alloc (by simp) _⟩
  ·rw [if_neg h3]
   have t3 : (k == 3) = false := by rw [beq_eq_false_iff_ne]; exact h3
   go_enter Tryz.func57, Tryz.ntmps57
   go_wp2_with fail
   go_ret2
   exact ⟨by simp, ((Below.refl _ w).alloc (Nat.le_refl _) _).alloc (by simp) _⟩
end Go.Proofs.YtlkgnheccoodpaaGreatDoor
