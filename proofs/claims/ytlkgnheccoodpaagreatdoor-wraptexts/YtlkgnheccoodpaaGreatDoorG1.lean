import Derived.Test.YtlkgnheccoodpaaGreatDoorGA
import Derived.Test.YtlkgnheccoodpaaGreatDoorGE
import Derived.Test.YtlkgnheccoodpaaGreatDoorWrO
namespace Go.Proofs.YtlkgnheccoodpaaGreatDoor
open Go.RowKit
attribute [local go_sem] Oper.semAt_some
set_option maxRecDepth 100000 in
set_option maxHeartbeats 400000 in
theorem among_any (r : Int) (l : List Int) (n G : Nat) (hn : n = l.length) (hl : n ≤ 64) (w : World) (hG : G < w.heap.size) (hR : ∀ (i : Nat) (x : Int), l[i]? = some x → w.cell? ⟨G, i, none⟩ = some (.int .i64 x)) :
  Calls Tryz.prog 83 #[.int .i64 r, .slice (some ⟨G, 0, none⟩) n n] w fun e w' => e = .returned (.bool (l.contains r)) ∧ Below w.heap.size w w' := by
 go_enter Tryz.func83, Tryz.ntmps83
 go_wp2
 go_loopw [5] (fun iv wr => ∃ k : Nat, iv = .int .i64 k ∧ k ≤ n ∧ (l.take k).contains r = false ∧ Below w.heap.size w wr) (fun iv _ => n - (intOf iv).toNat)
 case atStart => exact ⟨0, by first | rfl | go_num, by omega, rfl, Below.refl _ _⟩
 case round =>
  obtain ⟨k, rfl, hk, hc, hB⟩ := hrel
  by_cases hkn : k < n
  ·have hx : l[k]? = some (l[k]'(by omega)) := List.getElem?_eq_getElem _
   have c0 := (hB.cell (p := ⟨G, k, none⟩) hG).trans (hR k _ hx)
   have ht : l.take (k + 1) = l.take k ++ [l[k]'(by omega)] := by rw [List.take_add_one, hx]; rfl
   generalize l[k]'(by omega) = x at *
   have e1 : IntKind.i64.wrap ((k : Int) + 1) = ((k + 1 : Nat) : Int) := by rw [show ((k + 1 : Nat) : Int) = (k : Int) + 1 by omega]; exact IntWalk.i64_in _ ⟨by omega, by omega⟩
   have d1 : decide ((k : Int) < (n : Int)) = true := decide_eq_true (by omega)
   have hm : (l.take (k + 1)).contains r = (x == r) := by rw [ht, List.contains_eq_any_beq] at *; rw [List.any_append, hc, Bool.false_or]; simp [Bool.beq_comm]
   have HB := hideW hB
   clear hB
   by_cases he : x = r
   ·have e2 : (x == r) = true := by simp [he]
    go_wp2
    go_ret
    refine ⟨?_, HB.out⟩
    rw [show l.contains r = true from List.contains_iff_mem.2 (he ▸ List.mem_of_getElem? hx)]
    rfl
   ·have e2 : (x == r) = false := by simp [he]
    go_wp2
    go_roundw
    case rel => exact ⟨k + 1, by first | rfl | rw [e1] | go_num, by omega, hm.trans e2, HB.out⟩
    case measure => simp [intOf]; omega
  ·obtain rfl : k = n := by omega
   have d1 : decide ((k : Int) < (k : Int)) = false := decide_eq_false (by omega)
   rw [hn, List.take_length] at hc
   have HB := hideW hB
   clear hB
   go_wp2
   go_ret
   exact ⟨by rw [hc]; rfl, HB.out⟩
theorem lit_cells (w : World) (l : List Int) (t : TypeId) (arr : Array Value) (ha : arr = (l.map fun x => Value.int .i64 x).toArray) (i : Nat) (x : Int) (h : l[i]? = some x) : (w.alloc (.cells arr t)).cell? ⟨w.heap.size, i, none⟩ = some (.int .i64 x) := by
 unfold World.cell?
 rw [show (w.alloc (.cells arr t)).heap[w.heap.size]? = _ from World.alloc_heap_new w _, ha]
 simp [h]
theorem among_lit (r : Int) (l : List Int) (n G : Nat) (arr : Array Value) (t : TypeId) (w : World) (hG : G = w.heap.size) (ha : arr = (l.map fun x => Value.int .i64 x).toArray) (hn : n = l.length) (hl : n ≤ 64) (b : Bool) (hb : b = l.contains r) :
  Calls Tryz.prog 83 #[.int .i64 r, .slice (some ⟨G, 0, none⟩) n n] (w.alloc (.cells arr t)) fun e w' => e = .returned (.bool b) ∧ Below w.heap.size w w' := by
 subst hG hb
 refine (among_any r l n w.heap.size hn hl _ (by simp) (lit_cells w l t arr ha)).mono ?_
 rintro e w' ⟨rfl, b⟩
 exact ⟨rfl, bupW (bel1W w _) b⟩
theorem cell_first (w : World) (a : Value) (l : List Value) (t : TypeId) : (w.alloc (.cells ⟨a :: l⟩ t)).cell? ⟨w.heap.size, 0, none⟩ = some a := by
 unfold World.cell?
 rw [show (w.alloc (.cells ⟨a :: l⟩ t)).heap[w.heap.size]? = _ from World.alloc_heap_new w _]
 rfl
structure Pc where
 r : Int
 fr : Int
 tt : Int
 ce : Int
def Pc.val (x : Pc) : Value := .agg #[.int .i64 x.r, .int .i64 x.fr, .int .i64 x.tt, .int .i64 x.ce]
def bl5 : List Int := [9, 32, 5760, 8287, 12288]
def endsB (x : Pc) : Bool := x.r == 10
def blankB (x : Pc) : Bool := bl5.contains x.r || (decide (8192 ≤ x.r) && decide (x.r ≤ 8202) && x.r != 8199)
def wideB (x : Pc) : Bool := x.ce == 2 && !blankB x
def hyphB (x : Pc) : Bool := clsDash.contains x.r
def openB (x : Pc) : Bool := clsOpen.contains x.r
def closeB (x : Pc) : Bool := clsClose.contains x.r
set_option maxRecDepth 100000 in
set_option maxHeartbeats 400000 in
theorem ends_any (x : Pc) (w : World) : Calls Tryz.prog 23 #[x.val] w fun e w' => e = .returned (.bool (endsB x)) ∧ Below w.heap.size w w' := by
 unfold Pc.val
 go_enter Tryz.func23, Tryz.ntmps23
 go_wp2
 go_ret
 exact ⟨rfl, by first | exact Below.refl _ _ | exact bel1W _ _⟩
set_option maxRecDepth 100000 in
set_option maxHeartbeats 400000 in
theorem hyph_any (x : Pc) (w : World) : Calls Tryz.prog 78 #[x.val] w fun e w' => e = .returned (.bool (hyphB x)) ∧ Below w.heap.size w w' := by
 unfold Pc.val
 go_enter Tryz.func78, Tryz.ntmps78
 go_wp2_with fail
 refine (among_lit x.r clsDash _ _ _ _ _ (by simp) rfl rfl (by decide) (hyphB x) rfl).mono ?_
 rintro e w1 ⟨rfl, b1⟩
 have H1 := hideW b1
 clear b1
 go_wp2
 go_ret
 exact ⟨rfl, by first | exact H1.out | exact bupW (bel1W _ _) H1.out⟩
set_option maxRecDepth 100000 in
set_option maxHeartbeats 400000 in
theorem open_any (x : Pc) (w : World) : Calls Tryz.prog 80 #[x.val] w fun e w' => e = .returned (.bool (openB x)) ∧ Below w.heap.size w w' := by
 unfold Pc.val
 go_enter Tryz.func80, Tryz.ntmps80
 go_wp2_with fail
 refine (among_lit x.r clsOpen _ _ _ _ _ (by simp) rfl rfl (by decide) (openB x) rfl).mono ?_
 rintro e w1 ⟨rfl, b1⟩
 have H1 := hideW b1
 clear b1
 go_wp2
 go_ret
 exact ⟨rfl, by first | exact H1.out | exact bupW (bel1W _ _) H1.out⟩
set_option maxRecDepth 100000 in
set_option maxHeartbeats 400000 in
theorem close_any (x : Pc) (w : World) : Calls Tryz.prog 81 #[x.val] w fun e w' => e = .returned (.bool (closeB x)) ∧ Below w.heap.size w w' := by
 unfold Pc.val
 go_enter Tryz.func81, Tryz.ntmps81
 go_wp2_with fail
 refine (among_lit x.r clsClose _ _ _ _ _ (by simp) rfl rfl (by decide) (closeB x) rfl).mono ?_
 rintro e w1 ⟨rfl, b1⟩
 have H1 := hideW b1
 clear b1
 go_wp2
 go_ret
 exact ⟨rfl, by first | exact H1.out | exact bupW (bel1W _ _) H1.out⟩
set_option maxRecDepth 100000 in
set_option maxHeartbeats 400000 in
theorem blank_any (x : Pc) (w : World) : Calls Tryz.prog 47 #[x.val] w fun e w' => e = .returned (.bool (blankB x)) ∧ Below w.heap.size w w' := by
 unfold Pc.val
 obtain ⟨b, h0⟩ : ∃ b, b = bl5.contains x.r := ⟨_, rfl⟩
 have hb : blankB x = (b || (decide (8192 ≤ x.r) && decide (x.r ≤ 8202) && x.r != 8199)) := by rw [h0]; rfl
 rw [hb]
 clear hb
 go_enter Tryz.func47, Tryz.ntmps47
 go_wp2_with fail
 refine (among_lit x.r bl5 _ _ _ _ _ (by simp) rfl rfl (by decide) (b) h0).mono ?_
 rintro e w1 ⟨rfl, b1⟩
 have c0 : w1.cell? ⟨w.heap.size, 0, none⟩ = some (.int .i64 x.r) := (b1.cell (p := ⟨w.heap.size, 0, none⟩) (by simp)).trans (cell_first w _ _ _)
 have H1 := hideW (bupW (bel1W _ _) b1)
 clear b1
 clear h0
 cases b
 ·by_cases h1 : 8192 ≤ x.r
  ·by_cases h2 : x.r ≤ 8202
   ·go_wp2
    go_ret
    exact ⟨by simp [h1, h2], H1.out⟩
   ·go_wp2
    go_ret
    exact ⟨by simp; omega, H1.out⟩
  ·go_wp2
   go_ret
   exact ⟨by simp; omega, H1.out⟩
 ·go_wp2
  go_ret
  exact ⟨by simp, H1.out⟩
set_option maxRecDepth 100000 in
set_option maxHeartbeats 400000 in
theorem rwide_any (x : Pc) (w : World) : Calls Tryz.prog 79 #[x.val] w fun e w' => e = .returned (.bool (wideB x)) ∧ Below w.heap.size w w' := by
 have hv : x.val = .agg #[.int .i64 x.r, .int .i64 x.fr, .int .i64 x.tt, .int .i64 x.ce] := rfl
 have hb : wideB x = (x.ce == 2 && !blankB x) := rfl
 have HK := hideW (blank_any x)
 rw [hb]
 generalize blankB x = b at *
 rw [hv] at HK ⊢
 clear hb hv
 go_enter Tryz.func79, Tryz.ntmps79
 by_cases h : x.ce = 2
 ·have e1 : (x.ce == 2) = true := by simp [h]
  clear h
  go_wp2_with fail
  refine (HK.out _).mono ?_
  rintro e w1 ⟨rfl, b1⟩
  have H1 := hideW b1
  clear b1
  go_wp2
  go_ret
  exact ⟨by rw [e1]; rfl, by first | exact H1.out | exact bupW (bel1W _ _) H1.out⟩
 ·have e1 : (x.ce == 2) = false := by simp [h]
  clear h
  go_wp2
  go_ret
  exact ⟨by rw [e1]; rfl, by first | exact Below.refl _ _ | exact bel1W _ _⟩
end Go.Proofs.YtlkgnheccoodpaaGreatDoor
namespace Go.Proofs.YtlkgnheccoodpaaGreatDoor
open Go.RowKit
attribute [local go_sem] Oper.semAt_some
def CRow (l : List Pc) (a : Addr) (V : World) : Prop := a.block < V.heap.size ∧ ∀ (i : Nat) (p : Pc), l[i]? = some p →
 V.cell? (a.add (i * 4)) = some (.int .i64 p.r) ∧ V.cell? (a.add (i * 4 + 1)) = some (.int .i64 p.fr) ∧ V.cell? (a.add (i * 4 + 2)) = some (.int .i64 p.tt) ∧ V.cell? (a.add (i * 4 + 3)) = some (.int .i64 p.ce)
theorem CRow.keep {l : List Pc} {a : Addr} {V V2 : World} (h : CRow l a V) (b : Below V.heap.size V V2) : CRow l a V2 :=
 ⟨Nat.lt_of_lt_of_le h.1 b.size, fun i p hp => by
  obtain ⟨h0, h1, h2, h3⟩ := h.2 i p hp
  have k : ∀ n, (a.add n).block < V.heap.size := fun n => by rw [addrW_block]; exact h.1
  exact ⟨(b.cell (k _)).trans h0, (b.cell (k _)).trans h1, (b.cell (k _)).trans h2, (b.cell (k _)).trans h3⟩⟩
theorem CRow.four {l : List Pc} {a : Addr} {V : World} (h : CRow l a V) {i : Nat} {p : Pc} (hp : l[i]? = some p) :
  V.cell? (a.add (i * 4)) = some (.int .i64 p.r) ∧ V.cell? ⟨(a.add (i * 4)).block, (a.add (i * 4)).off + 1, none⟩ = some (.int .i64 p.fr) ∧ V.cell? ⟨(a.add (i * 4)).block, (a.add (i * 4)).off + 2, none⟩ = some (.int .i64 p.tt) ∧ V.cell? ⟨(a.add (i * 4)).block, (a.add (i * 4)).off + 3, none⟩ = some (.int .i64 p.ce) := by
 obtain ⟨h0, h1, h2, h3⟩ := h.2 i p hp
 rw [addrW_next] at h1 h2 h3
 exact ⟨h0, h1, h2, h3⟩
def kindC (ex ey bx b2 hx d wx wy ox cy : Bool) : Int :=
 if ex then 1 else if ey || b2 then 0 else if bx then 2 else if hx && d then 2 else if (wx || wy) && !ox && !cy then 2 else 3
def PcAt (V : World) (B : Nat) (p : Pc) : Prop := B < V.heap.size ∧ V.cell? ⟨B, 0, none⟩ = some (.int .i64 p.r) ∧ V.cell? ⟨B, 1, none⟩ = some (.int .i64 p.fr) ∧ V.cell? ⟨B, 2, none⟩ = some (.int .i64 p.tt) ∧ V.cell? ⟨B, 3, none⟩ = some (.int .i64 p.ce)
theorem PcAt.keep {V U : World} {B : Nat} {p : Pc} (h : PcAt V B p) (b : Below V.heap.size V U) : PcAt U B p :=
 ⟨Nat.lt_of_lt_of_le h.1 b.size, (b.cell (p := ⟨B, 0, none⟩) h.1).trans h.2.1, (b.cell (p := ⟨B, 1, none⟩) h.1).trans h.2.2.1, (b.cell (p := ⟨B, 2, none⟩) h.1).trans h.2.2.2.1, (b.cell (p := ⟨B, 3, none⟩) h.1).trans h.2.2.2.2⟩
theorem PcAt.new (w : World) (p : Pc) (t : TypeId) : PcAt (w.alloc (.cells #[.int .i64 p.r, .int .i64 p.fr, .int .i64 p.tt, .int .i64 p.ce] t)) w.heap.size p :=
 ⟨by simp, by go_simp, by go_simp, by go_simp, by go_simp⟩
set_option maxRecDepth 100000 in
set_option maxHeartbeats 4000000 in
theorem rkind_two (L : List Pc) (a : Addr) (cap m n : Nat) (x y z : Pc) (hc : L.length ≤ cap ∧ cap ≤ maxLen) (hn : n = m + 2) (hl : n < L.length) (hx : L[m + 1]? = some x) (hy : L[n]? = some y) (hz : L[m]? = some z) (w : World) (hR : CRow L a w) :
  Calls Tryz.prog 45 #[.slice (some a) L.length cap, .int .i64 n] w fun e w' => e = .returned (.int .i64 (kindC (endsB x) (endsB y) (blankB x) (blankB y) (hyphB x) (!blankB z && !endsB z && !hyphB z) (wideB x) (wideB y) (openB x) (closeB y))) ∧ Below w.heap.size w w' := by
 have hmx : maxLen ≤ 9223372036854775807 := by decide
 have RR := hideW hR
 obtain ⟨x0, x1, x2, x3⟩ := hR.four hx
 have HY := hideW hy
 obtain ⟨y0, y1, y2, y3⟩ := hR.four hy
 have HZ := hideW hz
 obtain ⟨z0, z1, z2, z3⟩ := hR.four hz
 obtain ⟨m1, hm1⟩ : ∃ m1, m + 1 = m1 := ⟨_, rfl⟩
 rw [hm1] at x0 x1 x2 x3
 have hw1 : (n : Int) - 1 = (m1 : Int) := by omega
 have hw2 : (n : Int) - 2 = (m : Int) := by omega
 have i1 : m1 < L.length := by omega
 have i3 : m < L.length := by omega
 have i4 : 1 < n := by omega
 have i5 : (m1 : Int) < (L.length : Int) := by omega
 have i6 : (m : Int) < (L.length : Int) := by omega
 have i7 : (1 : Int) < (n : Int) := by omega
 have i8 : ((n : Int) == (L.length : Int)) = false := by simp; omega
 have i9 : ¬ n = L.length := by omega
 have j2 : (n : Int) ≤ 9223372036854775807 := by omega
 have j5 : (m1 : Int) ≤ 9223372036854775807 := by omega
 have j6 : (m : Int) ≤ 9223372036854775807 := by omega
 have k1 : IntKind.i64.wrap (m1 : Int) = (m1 : Int) := IntWalk.i64_in _ ⟨by omega, by omega⟩
 have k2 : IntKind.i64.wrap (m : Int) = (m : Int) := IntWalk.i64_in _ ⟨by omega, by omega⟩
 have BB := hideW (Below.refl w.heap.size w)
 have HEx := hideW (ends_any x)
 have HEy := hideW (ends_any y)
 have HEz := hideW (ends_any z)
 have HBx := hideW (blank_any x)
 have HBy := hideW (blank_any y)
 have HBz := hideW (blank_any z)
 have HHx := hideW (hyph_any x)
 have HHz := hideW (hyph_any z)
 have HWx := hideW (rwide_any x)
 have HWy := hideW (rwide_any y)
 have HOx := hideW (open_any x)
 have HCy := hideW (close_any y)
 unfold Pc.val at HEx HEy HEz HBx HBy HBz HHx HHz HWx HWy HOx HCy
 generalize endsB x = ex at *
 generalize endsB y = ey at *
 generalize endsB z = ez at *
 generalize blankB x = bx at *
 generalize blankB y = b2 at *
 generalize blankB z = bz at *
 generalize hyphB x = h1 at *
 generalize hyphB z = h2 at *
 generalize wideB x = wx at *
 generalize wideB y = wy at *
 generalize openB x = ox at *
 generalize closeB y = cy at *
 clear hx hy hz hm1 hR hn hmx hc
 go_enter Tryz.func45, Tryz.ntmps45
 go_wp2_with fail
 have BB := hideW (bupW BB.out (bel1W w (.cells #[.int .i64 x.r, .int .i64 x.fr, .int .i64 x.tt, .int .i64 x.ce] 64)))
 have PX := hideW (PcAt.new w x 64)
 have RR := hideW (RR.out.keep (bel1W w (.cells #[.int .i64 x.r, .int .i64 x.fr, .int .i64 x.tt, .int .i64 x.ce] 64)))
 (with_reducible refine Calls.mono (Hid.out HEx _) ?_)
 rintro e w1 ⟨rfl, b1⟩
 have BB := hideW (bupW BB.out b1)
 have RR := hideW (RR.out.keep b1)
 have PX := hideW (PX.out.keep b1)
 clear x0 x1 x2 x3
 obtain ⟨_, x0, x1, x2, x3⟩ := PX.out
 clear y0 y1 y2 y3
 obtain ⟨y0, y1, y2, y3⟩ := RR.out.four HY.out
 clear z0 z1 z2 z3
 obtain ⟨z0, z1, z2, z3⟩ := RR.out.four HZ.out
 clear b1
 cases ex
 ·go_wp2_with fail
  (with_reducible refine Calls.mono (Hid.out HEy _) ?_)
  rintro e w1 ⟨rfl, b1⟩
  have BB := hideW (bupW BB.out b1)
  have RR := hideW (RR.out.keep b1)
  have PX := hideW (PX.out.keep b1)
  clear x0 x1 x2 x3
  obtain ⟨_, x0, x1, x2, x3⟩ := PX.out
  clear y0 y1 y2 y3
  obtain ⟨y0, y1, y2, y3⟩ := RR.out.four HY.out
  clear z0 z1 z2 z3
  obtain ⟨z0, z1, z2, z3⟩ := RR.out.four HZ.out
  clear b1
  cases ey
  ·go_wp2_with fail
   (with_reducible refine Calls.mono (Hid.out HBy _) ?_)
   rintro e w1 ⟨rfl, b1⟩
   have BB := hideW (bupW BB.out b1)
   have RR := hideW (RR.out.keep b1)
   have PX := hideW (PX.out.keep b1)
   clear x0 x1 x2 x3
   obtain ⟨_, x0, x1, x2, x3⟩ := PX.out
   clear y0 y1 y2 y3
   obtain ⟨y0, y1, y2, y3⟩ := RR.out.four HY.out
   clear z0 z1 z2 z3
   obtain ⟨z0, z1, z2, z3⟩ := RR.out.four HZ.out
   clear b1
   cases b2
   ·go_wp2_with fail
    have BB := hideW (bupW BB.out (bel1W w1 (.cells #[.int .i64 y.r, .int .i64 y.fr, .int .i64 y.tt, .int .i64 y.ce] 64)))
    have PX := hideW (PX.out.keep (bel1W w1 (.cells #[.int .i64 y.r, .int .i64 y.fr, .int .i64 y.tt, .int .i64 y.ce] 64)))
    have PY := hideW (PcAt.new w1 y 64)
    have RR := hideW (RR.out.keep (bel1W w1 (.cells #[.int .i64 y.r, .int .i64 y.fr, .int .i64 y.tt, .int .i64 y.ce] 64)))
    obtain ⟨_, q0, q1, q2, q3⟩ := PY.out
    clear y0 y1 y2 y3
    (with_reducible refine Calls.mono (Hid.out HBx _) ?_)
    rintro e w1 ⟨rfl, b1⟩
    have BB := hideW (bupW BB.out b1)
    have RR := hideW (RR.out.keep b1)
    have PX := hideW (PX.out.keep b1)
    clear x0 x1 x2 x3
    obtain ⟨_, x0, x1, x2, x3⟩ := PX.out
    have PY := hideW (PY.out.keep b1)
    clear q0 q1 q2 q3
    obtain ⟨_, q0, q1, q2, q3⟩ := PY.out
    clear z0 z1 z2 z3
    obtain ⟨z0, z1, z2, z3⟩ := RR.out.four HZ.out
    clear b1
    cases bx
    ·go_wp2_with fail
     (with_reducible refine Calls.mono (Hid.out HHx _) ?_)
     rintro e w1 ⟨rfl, b1⟩
     have BB := hideW (bupW BB.out b1)
     have RR := hideW (RR.out.keep b1)
     have PX := hideW (PX.out.keep b1)
     clear x0 x1 x2 x3
     obtain ⟨_, x0, x1, x2, x3⟩ := PX.out
     have PY := hideW (PY.out.keep b1)
     clear q0 q1 q2 q3
     obtain ⟨_, q0, q1, q2, q3⟩ := PY.out
     clear z0 z1 z2 z3
     obtain ⟨z0, z1, z2, z3⟩ := RR.out.four HZ.out
     clear b1
     cases h1
     ·go_wp2_with fail
      (with_reducible refine Calls.mono (Hid.out HWx _) ?_)
      rintro e w1 ⟨rfl, b1⟩
      have BB := hideW (bupW BB.out b1)
      have RR := hideW (RR.out.keep b1)
      have PX := hideW (PX.out.keep b1)
      clear x0 x1 x2 x3
      obtain ⟨_, x0, x1, x2, x3⟩ := PX.out
      have PY := hideW (PY.out.keep b1)
      clear q0 q1 q2 q3
      obtain ⟨_, q0, q1, q2, q3⟩ := PY.out
      clear z0 z1 z2 z3
      obtain ⟨z0, z1, z2, z3⟩ := RR.out.four HZ.out
      clear b1
      cases wx
      ·go_wp2_with fail
       (with_reducible refine Calls.mono (Hid.out HWy _) ?_)
       rintro e w1 ⟨rfl, b1⟩
       have BB := hideW (bupW BB.out b1)
       have RR := hideW (RR.out.keep b1)
       have PX := hideW (PX.out.keep b1)
       clear x0 x1 x2 x3
       obtain ⟨_, x0, x1, x2, x3⟩ := PX.out
       have PY := hideW (PY.out.keep b1)
       clear q0 q1 q2 q3
       obtain ⟨_, q0, q1, q2, q3⟩ := PY.out
       clear z0 z1 z2 z3
       obtain ⟨z0, z1, z2, z3⟩ := RR.out.four HZ.out
       clear b1
       cases wy
       ·go_wp2
        go_ret
        exact ⟨rfl, BB.out⟩
       ·go_wp2_with fail
        (with_reducible refine Calls.mono (Hid.out HOx _) ?_)
        rintro e w1 ⟨rfl, b1⟩
        have BB := hideW (bupW BB.out b1)
        have RR := hideW (RR.out.keep b1)
        have PX := hideW (PX.out.keep b1)
        clear x0 x1 x2 x3
        obtain ⟨_, x0, x1, x2, x3⟩ := PX.out
        have PY := hideW (PY.out.keep b1)
        clear q0 q1 q2 q3
        obtain ⟨_, q0, q1, q2, q3⟩ := PY.out
        clear z0 z1 z2 z3
        obtain ⟨z0, z1, z2, z3⟩ := RR.out.four HZ.out
        clear b1
        cases ox
        ·go_wp2_with fail
         (with_reducible refine Calls.mono (Hid.out HCy _) ?_)
         rintro e w1 ⟨rfl, b1⟩
         have BB := hideW (bupW BB.out b1)
         have RR := hideW (RR.out.keep b1)
         have PX := hideW (PX.out.keep b1)
         clear x0 x1 x2 x3
         obtain ⟨_, x0, x1, x2, x3⟩ := PX.out
         have PY := hideW (PY.out.keep b1)
         clear q0 q1 q2 q3
         obtain ⟨_, q0, q1, q2, q3⟩ := PY.out
         clear z0 z1 z2 z3
         obtain ⟨z0, z1, z2, z3⟩ := RR.out.four HZ.out
         clear b1
         cases cy
         ·go_wp2
          go_ret
          exact ⟨rfl, BB.out⟩
         ·go_wp2
          go_ret
          exact ⟨rfl, BB.out⟩
        ·go_wp2
         go_ret
         exact ⟨rfl, BB.out⟩
      ·go_wp2_with fail
       (with_reducible refine Calls.mono (Hid.out HOx _) ?_)
       rintro e w1 ⟨rfl, b1⟩
       have BB := hideW (bupW BB.out b1)
       have RR := hideW (RR.out.keep b1)
       have PX := hideW (PX.out.keep b1)
       clear x0 x1 x2 x3
       obtain ⟨_, x0, x1, x2, x3⟩ := PX.out
       have PY := hideW (PY.out.keep b1)
       clear q0 q1 q2 q3
       obtain ⟨_, q0, q1, q2, q3⟩ := PY.out
       clear z0 z1 z2 z3
       obtain ⟨z0, z1, z2, z3⟩ := RR.out.four HZ.out
       clear b1
       cases ox
       ·go_wp2_with fail
        (with_reducible refine Calls.mono (Hid.out HCy _) ?_)
        rintro e w1 ⟨rfl, b1⟩
        have BB := hideW (bupW BB.out b1)
        have RR := hideW (RR.out.keep b1)
        have PX := hideW (PX.out.keep b1)
        clear x0 x1 x2 x3
        obtain ⟨_, x0, x1, x2, x3⟩ := PX.out
        have PY := hideW (PY.out.keep b1)
        clear q0 q1 q2 q3
        obtain ⟨_, q0, q1, q2, q3⟩ := PY.out
        clear z0 z1 z2 z3
        obtain ⟨z0, z1, z2, z3⟩ := RR.out.four HZ.out
        clear b1
        cases cy
        ·go_wp2
         go_ret
         exact ⟨rfl, BB.out⟩
        ·go_wp2
         go_ret
         exact ⟨rfl, BB.out⟩
       ·go_wp2
        go_ret
        exact ⟨rfl, BB.out⟩
     ·go_wp2_with fail
      (with_reducible refine Calls.mono (Hid.out HBz _) ?_)
      rintro e w1 ⟨rfl, b1⟩
      have BB := hideW (bupW BB.out b1)
      have RR := hideW (RR.out.keep b1)
      have PX := hideW (PX.out.keep b1)
      clear x0 x1 x2 x3
      obtain ⟨_, x0, x1, x2, x3⟩ := PX.out
      have PY := hideW (PY.out.keep b1)
      clear q0 q1 q2 q3
      obtain ⟨_, q0, q1, q2, q3⟩ := PY.out
      clear z0 z1 z2 z3
      obtain ⟨z0, z1, z2, z3⟩ := RR.out.four HZ.out
      clear b1
      cases bz
      ·go_wp2_with fail
       (with_reducible refine Calls.mono (Hid.out HEz _) ?_)
       rintro e w1 ⟨rfl, b1⟩
       have BB := hideW (bupW BB.out b1)
       have RR := hideW (RR.out.keep b1)
       have PX := hideW (PX.out.keep b1)
       clear x0 x1 x2 x3
       obtain ⟨_, x0, x1, x2, x3⟩ := PX.out
       have PY := hideW (PY.out.keep b1)
       clear q0 q1 q2 q3
       obtain ⟨_, q0, q1, q2, q3⟩ := PY.out
       clear z0 z1 z2 z3
       obtain ⟨z0, z1, z2, z3⟩ := RR.out.four HZ.out
       clear b1
       cases ez
       ·go_wp2_with fail
        (with_reducible refine Calls.mono (Hid.out HHz _) ?_)
        rintro e w1 ⟨rfl, b1⟩
        have BB := hideW (bupW BB.out b1)
        have RR := hideW (RR.out.keep b1)
        have PX := hideW (PX.out.keep b1)
        clear x0 x1 x2 x3
        obtain ⟨_, x0, x1, x2, x3⟩ := PX.out
        have PY := hideW (PY.out.keep b1)
        clear q0 q1 q2 q3
        obtain ⟨_, q0, q1, q2, q3⟩ := PY.out
        clear z0 z1 z2 z3
        obtain ⟨z0, z1, z2, z3⟩ := RR.out.four HZ.out
        clear b1
        cases h2
        ·go_wp2
         go_ret
         exact ⟨rfl, BB.out⟩
        ·go_wp2_with fail
         (with_reducible refine Calls.mono (Hid.out HWx _) ?_)
         rintro e w1 ⟨rfl, b1⟩
         have BB := hideW (bupW BB.out b1)
         have RR := hideW (RR.out.keep b1)
         have PX := hideW (PX.out.keep b1)
         clear x0 x1 x2 x3
         obtain ⟨_, x0, x1, x2, x3⟩ := PX.out
         have PY := hideW (PY.out.keep b1)
         clear q0 q1 q2 q3
         obtain ⟨_, q0, q1, q2, q3⟩ := PY.out
         clear z0 z1 z2 z3
         obtain ⟨z0, z1, z2, z3⟩ := RR.out.four HZ.out
         clear b1
         cases wx
         ·go_wp2_with fail
          (with_reducible refine Calls.mono (Hid.out HWy _) ?_)
          rintro e w1 ⟨rfl, b1⟩
          have BB := hideW (bupW BB.out b1)
          have RR := hideW (RR.out.keep b1)
          have PX := hideW (PX.out.keep b1)
          clear x0 x1 x2 x3
          obtain ⟨_, x0, x1, x2, x3⟩ := PX.out
          have PY := hideW (PY.out.keep b1)
          clear q0 q1 q2 q3
          obtain ⟨_, q0, q1, q2, q3⟩ := PY.out
          clear z0 z1 z2 z3
          obtain ⟨z0, z1, z2, z3⟩ := RR.out.four HZ.out
          clear b1
          cases wy
          ·go_wp2
           go_ret
           exact ⟨rfl, BB.out⟩
          ·go_wp2_with fail
           (with_reducible refine Calls.mono (Hid.out HOx _) ?_)
           rintro e w1 ⟨rfl, b1⟩
           have BB := hideW (bupW BB.out b1)
           have RR := hideW (RR.out.keep b1)
           have PX := hideW (PX.out.keep b1)
           clear x0 x1 x2 x3
           obtain ⟨_, x0, x1, x2, x3⟩ := PX.out
           have PY := hideW (PY.out.keep b1)
           clear q0 q1 q2 q3
           obtain ⟨_, q0, q1, q2, q3⟩ := PY.out
           clear z0 z1 z2 z3
           obtain ⟨z0, z1, z2, z3⟩ := RR.out.four HZ.out
           clear b1
           cases ox
           ·go_wp2_with fail
            (with_reducible refine Calls.mono (Hid.out HCy _) ?_)
            rintro e w1 ⟨rfl, b1⟩
            have BB := hideW (bupW BB.out b1)
            have RR := hideW (RR.out.keep b1)
            have PX := hideW (PX.out.keep b1)
            clear x0 x1 x2 x3
            obtain ⟨_, x0, x1, x2, x3⟩ := PX.out
            have PY := hideW (PY.out.keep b1)
            clear q0 q1 q2 q3
            obtain ⟨_, q0, q1, q2, q3⟩ := PY.out
            clear z0 z1 z2 z3
            obtain ⟨z0, z1, z2, z3⟩ := RR.out.four HZ.out
            clear b1
            cases cy
            ·go_wp2
             go_ret
             exact ⟨rfl, BB.out⟩
            ·go_wp2
             go_ret
             exact ⟨rfl, BB.out⟩
           ·go_wp2
            go_ret
            exact ⟨rfl, BB.out⟩
         ·go_wp2_with fail
          (with_reducible refine Calls.mono (Hid.out HOx _) ?_)
          rintro e w1 ⟨rfl, b1⟩
          have BB := hideW (bupW BB.out b1)
          have RR := hideW (RR.out.keep b1)
          have PX := hideW (PX.out.keep b1)
          clear x0 x1 x2 x3
          obtain ⟨_, x0, x1, x2, x3⟩ := PX.out
          have PY := hideW (PY.out.keep b1)
          clear q0 q1 q2 q3
          obtain ⟨_, q0, q1, q2, q3⟩ := PY.out
          clear z0 z1 z2 z3
          obtain ⟨z0, z1, z2, z3⟩ := RR.out.four HZ.out
          clear b1
          cases ox
          ·go_wp2_with fail
           (with_reducible refine Calls.mono (Hid.out HCy _) ?_)
           rintro e w1 ⟨rfl, b1⟩
           have BB := hideW (bupW BB.out b1)
           have RR := hideW (RR.out.keep b1)
           have PX := hideW (PX.out.keep b1)
           clear x0 x1 x2 x3
           obtain ⟨_, x0, x1, x2, x3⟩ := PX.out
           have PY := hideW (PY.out.keep b1)
           clear q0 q1 q2 q3
           obtain ⟨_, q0, q1, q2, q3⟩ := PY.out
           clear z0 z1 z2 z3
           obtain ⟨z0, z1, z2, z3⟩ := RR.out.four HZ.out
           clear b1
           cases cy
           ·go_wp2
            go_ret
            exact ⟨rfl, BB.out⟩
           ·go_wp2
            go_ret
            exact ⟨rfl, BB.out⟩
          ·go_wp2
           go_ret
           exact ⟨rfl, BB.out⟩
       ·go_wp2_with fail
        (with_reducible refine Calls.mono (Hid.out HWx _) ?_)
        rintro e w1 ⟨rfl, b1⟩
        have BB := hideW (bupW BB.out b1)
        have RR := hideW (RR.out.keep b1)
        have PX := hideW (PX.out.keep b1)
        clear x0 x1 x2 x3
        obtain ⟨_, x0, x1, x2, x3⟩ := PX.out
        have PY := hideW (PY.out.keep b1)
        clear q0 q1 q2 q3
        obtain ⟨_, q0, q1, q2, q3⟩ := PY.out
        clear z0 z1 z2 z3
        obtain ⟨z0, z1, z2, z3⟩ := RR.out.four HZ.out
        clear b1
        cases wx
        ·go_wp2_with fail
         (with_reducible refine Calls.mono (Hid.out HWy _) ?_)
         rintro e w1 ⟨rfl, b1⟩
         have BB := hideW (bupW BB.out b1)
         have RR := hideW (RR.out.keep b1)
         have PX := hideW (PX.out.keep b1)
         clear x0 x1 x2 x3
         obtain ⟨_, x0, x1, x2, x3⟩ := PX.out
         have PY := hideW (PY.out.keep b1)
         clear q0 q1 q2 q3
         obtain ⟨_, q0, q1, q2, q3⟩ := PY.out
         clear z0 z1 z2 z3
         obtain ⟨z0, z1, z2, z3⟩ := RR.out.four HZ.out
         clear b1
         cases wy
         ·go_wp2
          go_ret
          exact ⟨rfl, BB.out⟩
         ·go_wp2_with fail
          (with_reducible refine Calls.mono (Hid.out HOx _) ?_)
          rintro e w1 ⟨rfl, b1⟩
          have BB := hideW (bupW BB.out b1)
          have RR := hideW (RR.out.keep b1)
          have PX := hideW (PX.out.keep b1)
          clear x0 x1 x2 x3
          obtain ⟨_, x0, x1, x2, x3⟩ := PX.out
          have PY := hideW (PY.out.keep b1)
          clear q0 q1 q2 q3
          obtain ⟨_, q0, q1, q2, q3⟩ := PY.out
          clear z0 z1 z2 z3
          obtain ⟨z0, z1, z2, z3⟩ := RR.out.four HZ.out
          clear b1
          cases ox
          ·go_wp2_with fail
           (with_reducible refine Calls.mono (Hid.out HCy _) ?_)
           rintro e w1 ⟨rfl, b1⟩
           have BB := hideW (bupW BB.out b1)
           have RR := hideW (RR.out.keep b1)
           have PX := hideW (PX.out.keep b1)
           clear x0 x1 x2 x3
           obtain ⟨_, x0, x1, x2, x3⟩ := PX.out
           have PY := hideW (PY.out.keep b1)
           clear q0 q1 q2 q3
           obtain ⟨_, q0, q1, q2, q3⟩ := PY.out
           clear z0 z1 z2 z3
           obtain ⟨z0, z1, z2, z3⟩ := RR.out.four HZ.out
           clear b1
           cases cy
           ·go_wp2
            go_ret
            exact ⟨rfl, BB.out⟩
           ·go_wp2
            go_ret
            exact ⟨rfl, BB.out⟩
          ·go_wp2
           go_ret
           exact ⟨rfl, BB.out⟩
        ·go_wp2_with fail
         (with_reducible refine Calls.mono (Hid.out HOx _) ?_)
         rintro e w1 ⟨rfl, b1⟩
         have BB := hideW (bupW BB.out b1)
         have RR := hideW (RR.out.keep b1)
         have PX := hideW (PX.out.keep b1)
         clear x0 x1 x2 x3
         obtain ⟨_, x0, x1, x2, x3⟩ := PX.out
         have PY := hideW (PY.out.keep b1)
         clear q0 q1 q2 q3
         obtain ⟨_, q0, q1, q2, q3⟩ := PY.out
         clear z0 z1 z2 z3
         obtain ⟨z0, z1, z2, z3⟩ := RR.out.four HZ.out
         clear b1
         cases ox
         ·go_wp2_with fail
          (with_reducible refine Calls.mono (Hid.out HCy _) ?_)
          rintro e w1 ⟨rfl, b1⟩
          have BB := hideW (bupW BB.out b1)
          have RR := hideW (RR.out.keep b1)
          have PX := hideW (PX.out.keep b1)
          clear x0 x1 x2 x3
          obtain ⟨_, x0, x1, x2, x3⟩ := PX.out
          have PY := hideW (PY.out.keep b1)
          clear q0 q1 q2 q3
          obtain ⟨_, q0, q1, q2, q3⟩ := PY.out
          clear z0 z1 z2 z3
          obtain ⟨z0, z1, z2, z3⟩ := RR.out.four HZ.out
          clear b1
          cases cy
          ·go_wp2
           go_ret
           exact ⟨rfl, BB.out⟩
          ·go_wp2
           go_ret
           exact ⟨rfl, BB.out⟩
         ·go_wp2
          go_ret
          exact ⟨rfl, BB.out⟩
      ·go_wp2_with fail
       (with_reducible refine Calls.mono (Hid.out HWx _) ?_)
       rintro e w1 ⟨rfl, b1⟩
       have BB := hideW (bupW BB.out b1)
       have RR := hideW (RR.out.keep b1)
       have PX := hideW (PX.out.keep b1)
       clear x0 x1 x2 x3
       obtain ⟨_, x0, x1, x2, x3⟩ := PX.out
       have PY := hideW (PY.out.keep b1)
       clear q0 q1 q2 q3
       obtain ⟨_, q0, q1, q2, q3⟩ := PY.out
       clear z0 z1 z2 z3
       obtain ⟨z0, z1, z2, z3⟩ := RR.out.four HZ.out
       clear b1
       cases wx
       ·go_wp2_with fail
        (with_reducible refine Calls.mono (Hid.out HWy _) ?_)
        rintro e w1 ⟨rfl, b1⟩
        have BB := hideW (bupW BB.out b1)
        have RR := hideW (RR.out.keep b1)
        have PX := hideW (PX.out.keep b1)
        clear x0 x1 x2 x3
        obtain ⟨_, x0, x1, x2, x3⟩ := PX.out
        have PY := hideW (PY.out.keep b1)
        clear q0 q1 q2 q3
        obtain ⟨_, q0, q1, q2, q3⟩ := PY.out
        clear z0 z1 z2 z3
        obtain ⟨z0, z1, z2, z3⟩ := RR.out.four HZ.out
        clear b1
        cases wy
        ·go_wp2
         go_ret
         exact ⟨rfl, BB.out⟩
        ·go_wp2_with fail
         (with_reducible refine Calls.mono (Hid.out HOx _) ?_)
         rintro e w1 ⟨rfl, b1⟩
         have BB := hideW (bupW BB.out b1)
         have RR := hideW (RR.out.keep b1)
         have PX := hideW (PX.out.keep b1)
         clear x0 x1 x2 x3
         obtain ⟨_, x0, x1, x2, x3⟩ := PX.out
         have PY := hideW (PY.out.keep b1)
         clear q0 q1 q2 q3
         obtain ⟨_, q0, q1, q2, q3⟩ := PY.out
         clear z0 z1 z2 z3
         obtain ⟨z0, z1, z2, z3⟩ := RR.out.four HZ.out
         clear b1
         cases ox
         ·go_wp2_with fail
          (with_reducible refine Calls.mono (Hid.out HCy _) ?_)
          rintro e w1 ⟨rfl, b1⟩
          have BB := hideW (bupW BB.out b1)
          have RR := hideW (RR.out.keep b1)
          have PX := hideW (PX.out.keep b1)
          clear x0 x1 x2 x3
          obtain ⟨_, x0, x1, x2, x3⟩ := PX.out
          have PY := hideW (PY.out.keep b1)
          clear q0 q1 q2 q3
          obtain ⟨_, q0, q1, q2, q3⟩ := PY.out
          clear z0 z1 z2 z3
          obtain ⟨z0, z1, z2, z3⟩ := RR.out.four HZ.out
          clear b1
          cases cy
          ·go_wp2
           go_ret
           exact ⟨rfl, BB.out⟩
          ·go_wp2
           go_ret
           exact ⟨rfl, BB.out⟩
         ·go_wp2
          go_ret
          exact ⟨rfl, BB.out⟩
       ·go_wp2_with fail
        (with_reducible refine Calls.mono (Hid.out HOx _) ?_)
        rintro e w1 ⟨rfl, b1⟩
        have BB := hideW (bupW BB.out b1)
        have RR := hideW (RR.out.keep b1)
        have PX := hideW (PX.out.keep b1)
        clear x0 x1 x2 x3
        obtain ⟨_, x0, x1, x2, x3⟩ := PX.out
        have PY := hideW (PY.out.keep b1)
        clear q0 q1 q2 q3
        obtain ⟨_, q0, q1, q2, q3⟩ := PY.out
        clear z0 z1 z2 z3
        obtain ⟨z0, z1, z2, z3⟩ := RR.out.four HZ.out
        clear b1
        cases ox
        ·go_wp2_with fail
         (with_reducible refine Calls.mono (Hid.out HCy _) ?_)
         rintro e w1 ⟨rfl, b1⟩
         have BB := hideW (bupW BB.out b1)
         have RR := hideW (RR.out.keep b1)
         have PX := hideW (PX.out.keep b1)
         clear x0 x1 x2 x3
         obtain ⟨_, x0, x1, x2, x3⟩ := PX.out
         have PY := hideW (PY.out.keep b1)
         clear q0 q1 q2 q3
         obtain ⟨_, q0, q1, q2, q3⟩ := PY.out
         clear z0 z1 z2 z3
         obtain ⟨z0, z1, z2, z3⟩ := RR.out.four HZ.out
         clear b1
         cases cy
         ·go_wp2
          go_ret
          exact ⟨rfl, BB.out⟩
         ·go_wp2
          go_ret
          exact ⟨rfl, BB.out⟩
        ·go_wp2
         go_ret
         exact ⟨rfl, BB.out⟩
    ·go_wp2
     go_ret
     exact ⟨rfl, BB.out⟩
   ·go_wp2
    go_ret
    exact ⟨rfl, BB.out⟩
  ·go_wp2
   go_ret
   exact ⟨rfl, BB.out⟩
 ·go_wp2
  go_ret
  exact ⟨rfl, BB.out⟩
set_option maxRecDepth 100000 in
set_option maxHeartbeats 4000000 in
theorem rkind_one (L : List Pc) (a : Addr) (cap m n : Nat) (x y : Pc) (_hc : L.length ≤ cap ∧ cap ≤ maxLen) (hn : n = 1) (hm0 : m = 0) (hl : n < L.length) (hx : L[m]? = some x) (hy : L[n]? = some y) (w : World) (hR : CRow L a w) :
  Calls Tryz.prog 45 #[.slice (some a) L.length cap, .int .i64 n] w fun e w' => e = .returned (.int .i64 (kindC (endsB x) (endsB y) (blankB x) (blankB y) (hyphB x) false (wideB x) (wideB y) (openB x) (closeB y))) ∧ Below w.heap.size w w' := by
 have hmx : maxLen ≤ 9223372036854775807 := by decide
 have RR := hideW hR
 obtain ⟨x0, x1, x2, x3⟩ := hR.four hx
 have HY := hideW hy
 obtain ⟨y0, y1, y2, y3⟩ := hR.four hy
 have hw1 : (n : Int) - 1 = (m : Int) := by omega
 have i1 : m < L.length := by omega
 have i4 : ¬ 1 < n := by omega
 have i5 : (m : Int) < (L.length : Int) := by omega
 have i7 : ¬ (1 : Int) < (n : Int) := by omega
 have i8 : ((n : Int) == (L.length : Int)) = false := by simp; omega
 have i9 : ¬ n = L.length := by omega
 have j2 : (n : Int) ≤ 9223372036854775807 := by omega
 have j5 : (m : Int) ≤ 9223372036854775807 := by omega
 have k1 : IntKind.i64.wrap (m : Int) = (m : Int) := IntWalk.i64_in _ ⟨by omega, by omega⟩
 have BB := hideW (Below.refl w.heap.size w)
 have HEx := hideW (ends_any x)
 have HEy := hideW (ends_any y)
 have HBx := hideW (blank_any x)
 have HBy := hideW (blank_any y)
 have HHx := hideW (hyph_any x)
 have HWx := hideW (rwide_any x)
 have HWy := hideW (rwide_any y)
 have HOx := hideW (open_any x)
 have HCy := hideW (close_any y)
 unfold Pc.val at HEx HEy HBx HBy HHx HWx HWy HOx HCy
 generalize endsB x = ex at *
 generalize endsB y = ey at *
 generalize blankB x = bx at *
 generalize blankB y = b2 at *
 generalize hyphB x = h1 at *
 generalize wideB x = wx at *
 generalize wideB y = wy at *
 generalize openB x = ox at *
 generalize closeB y = cy at *
 clear hx hy hR hn hm0 hmx _hc
 go_enter Tryz.func45, Tryz.ntmps45
 go_wp2_with fail
 have BB := hideW (bupW BB.out (bel1W w (.cells #[.int .i64 x.r, .int .i64 x.fr, .int .i64 x.tt, .int .i64 x.ce] 64)))
 have PX := hideW (PcAt.new w x 64)
 have RR := hideW (RR.out.keep (bel1W w (.cells #[.int .i64 x.r, .int .i64 x.fr, .int .i64 x.tt, .int .i64 x.ce] 64)))
 (with_reducible refine Calls.mono (Hid.out HEx _) ?_)
 rintro e w1 ⟨rfl, b1⟩
 have BB := hideW (bupW BB.out b1)
 have RR := hideW (RR.out.keep b1)
 have PX := hideW (PX.out.keep b1)
 clear x0 x1 x2 x3
 obtain ⟨_, x0, x1, x2, x3⟩ := PX.out
 clear y0 y1 y2 y3
 obtain ⟨y0, y1, y2, y3⟩ := RR.out.four HY.out
 clear b1
 cases ex
 ·go_wp2_with fail
  (with_reducible refine Calls.mono (Hid.out HEy _) ?_)
  rintro e w1 ⟨rfl, b1⟩
  have BB := hideW (bupW BB.out b1)
  have RR := hideW (RR.out.keep b1)
  have PX := hideW (PX.out.keep b1)
  clear x0 x1 x2 x3
  obtain ⟨_, x0, x1, x2, x3⟩ := PX.out
  clear y0 y1 y2 y3
  obtain ⟨y0, y1, y2, y3⟩ := RR.out.four HY.out
  clear b1
  cases ey
  ·go_wp2_with fail
   (with_reducible refine Calls.mono (Hid.out HBy _) ?_)
   rintro e w1 ⟨rfl, b1⟩
   have BB := hideW (bupW BB.out b1)
   have RR := hideW (RR.out.keep b1)
   have PX := hideW (PX.out.keep b1)
   clear x0 x1 x2 x3
   obtain ⟨_, x0, x1, x2, x3⟩ := PX.out
   clear y0 y1 y2 y3
   obtain ⟨y0, y1, y2, y3⟩ := RR.out.four HY.out
   clear b1
   cases b2
   ·go_wp2_with fail
    have BB := hideW (bupW BB.out (bel1W w1 (.cells #[.int .i64 y.r, .int .i64 y.fr, .int .i64 y.tt, .int .i64 y.ce] 64)))
    have PX := hideW (PX.out.keep (bel1W w1 (.cells #[.int .i64 y.r, .int .i64 y.fr, .int .i64 y.tt, .int .i64 y.ce] 64)))
    have PY := hideW (PcAt.new w1 y 64)
    have RR := hideW (RR.out.keep (bel1W w1 (.cells #[.int .i64 y.r, .int .i64 y.fr, .int .i64 y.tt, .int .i64 y.ce] 64)))
    obtain ⟨_, q0, q1, q2, q3⟩ := PY.out
    clear y0 y1 y2 y3
    (with_reducible refine Calls.mono (Hid.out HBx _) ?_)
    rintro e w1 ⟨rfl, b1⟩
    have BB := hideW (bupW BB.out b1)
    have RR := hideW (RR.out.keep b1)
    have PX := hideW (PX.out.keep b1)
    clear x0 x1 x2 x3
    obtain ⟨_, x0, x1, x2, x3⟩ := PX.out
    have PY := hideW (PY.out.keep b1)
    clear q0 q1 q2 q3
    obtain ⟨_, q0, q1, q2, q3⟩ := PY.out
    clear b1
    cases bx
    ·go_wp2_with fail
     (with_reducible refine Calls.mono (Hid.out HHx _) ?_)
     rintro e w1 ⟨rfl, b1⟩
     have BB := hideW (bupW BB.out b1)
     have RR := hideW (RR.out.keep b1)
     have PX := hideW (PX.out.keep b1)
     clear x0 x1 x2 x3
     obtain ⟨_, x0, x1, x2, x3⟩ := PX.out
     have PY := hideW (PY.out.keep b1)
     clear q0 q1 q2 q3
     obtain ⟨_, q0, q1, q2, q3⟩ := PY.out
     clear b1
     cases h1
     ·go_wp2_with fail
      (with_reducible refine Calls.mono (Hid.out HWx _) ?_)
      rintro e w1 ⟨rfl, b1⟩
      have BB := hideW (bupW BB.out b1)
      have RR := hideW (RR.out.keep b1)
      have PX := hideW (PX.out.keep b1)
      clear x0 x1 x2 x3
      obtain ⟨_, x0, x1, x2, x3⟩ := PX.out
      have PY := hideW (PY.out.keep b1)
      clear q0 q1 q2 q3
      obtain ⟨_, q0, q1, q2, q3⟩ := PY.out
      clear b1
      cases wx
      ·go_wp2_with fail
       (with_reducible refine Calls.mono (Hid.out HWy _) ?_)
       rintro e w1 ⟨rfl, b1⟩
       have BB := hideW (bupW BB.out b1)
       have RR := hideW (RR.out.keep b1)
       have PX := hideW (PX.out.keep b1)
       clear x0 x1 x2 x3
       obtain ⟨_, x0, x1, x2, x3⟩ := PX.out
       have PY := hideW (PY.out.keep b1)
       clear q0 q1 q2 q3
       obtain ⟨_, q0, q1, q2, q3⟩ := PY.out
       clear b1
       cases wy
       ·go_wp2
        go_ret
        exact ⟨rfl, BB.out⟩
       ·go_wp2_with fail
        (with_reducible refine Calls.mono (Hid.out HOx _) ?_)
        rintro e w1 ⟨rfl, b1⟩
        have BB := hideW (bupW BB.out b1)
        have RR := hideW (RR.out.keep b1)
        have PX := hideW (PX.out.keep b1)
        clear x0 x1 x2 x3
        obtain ⟨_, x0, x1, x2, x3⟩ := PX.out
        have PY := hideW (PY.out.keep b1)
        clear q0 q1 q2 q3
        obtain ⟨_, q0, q1, q2, q3⟩ := PY.out
        clear b1
        cases ox
        ·go_wp2_with fail
         (with_reducible refine Calls.mono (Hid.out HCy _) ?_)
         rintro e w1 ⟨rfl, b1⟩
         have BB := hideW (bupW BB.out b1)
         have RR := hideW (RR.out.keep b1)
         have PX := hideW (PX.out.keep b1)
         clear x0 x1 x2 x3
         obtain ⟨_, x0, x1, x2, x3⟩ := PX.out
         have PY := hideW (PY.out.keep b1)
         clear q0 q1 q2 q3
         obtain ⟨_, q0, q1, q2, q3⟩ := PY.out
         clear b1
         cases cy
         ·go_wp2
          go_ret
          exact ⟨rfl, BB.out⟩
         ·go_wp2
          go_ret
          exact ⟨rfl, BB.out⟩
        ·go_wp2
         go_ret
         exact ⟨rfl, BB.out⟩
      ·go_wp2_with fail
       (with_reducible refine Calls.mono (Hid.out HOx _) ?_)
       rintro e w1 ⟨rfl, b1⟩
       have BB := hideW (bupW BB.out b1)
       have RR := hideW (RR.out.keep b1)
       have PX := hideW (PX.out.keep b1)
       clear x0 x1 x2 x3
       obtain ⟨_, x0, x1, x2, x3⟩ := PX.out
       have PY := hideW (PY.out.keep b1)
       clear q0 q1 q2 q3
       obtain ⟨_, q0, q1, q2, q3⟩ := PY.out
       clear b1
       cases ox
       ·go_wp2_with fail
        (with_reducible refine Calls.mono (Hid.out HCy _) ?_)
        rintro e w1 ⟨rfl, b1⟩
        have BB := hideW (bupW BB.out b1)
        have RR := hideW (RR.out.keep b1)
        have PX := hideW (PX.out.keep b1)
        clear x0 x1 x2 x3
        obtain ⟨_, x0, x1, x2, x3⟩ := PX.out
        have PY := hideW (PY.out.keep b1)
        clear q0 q1 q2 q3
        obtain ⟨_, q0, q1, q2, q3⟩ := PY.out
        clear b1
        cases cy
        ·go_wp2
         go_ret
         exact ⟨rfl, BB.out⟩
        ·go_wp2
         go_ret
         exact ⟨rfl, BB.out⟩
       ·go_wp2
        go_ret
        exact ⟨rfl, BB.out⟩
     ·go_wp2_with fail
      (with_reducible refine Calls.mono (Hid.out HWx _) ?_)
      rintro e w1 ⟨rfl, b1⟩
      have BB := hideW (bupW BB.out b1)
      have RR := hideW (RR.out.keep b1)
      have PX := hideW (PX.out.keep b1)
      clear x0 x1 x2 x3
      obtain ⟨_, x0, x1, x2, x3⟩ := PX.out
      have PY := hideW (PY.out.keep b1)
      clear q0 q1 q2 q3
      obtain ⟨_, q0, q1, q2, q3⟩ := PY.out
      clear b1
      cases wx
      ·go_wp2_with fail
       (with_reducible refine Calls.mono (Hid.out HWy _) ?_)
       rintro e w1 ⟨rfl, b1⟩
       have BB := hideW (bupW BB.out b1)
       have RR := hideW (RR.out.keep b1)
       have PX := hideW (PX.out.keep b1)
       clear x0 x1 x2 x3
       obtain ⟨_, x0, x1, x2, x3⟩ := PX.out
       have PY := hideW (PY.out.keep b1)
       clear q0 q1 q2 q3
       obtain ⟨_, q0, q1, q2, q3⟩ := PY.out
       clear b1
       cases wy
       ·go_wp2
        go_ret
        exact ⟨rfl, BB.out⟩
       ·go_wp2_with fail
        (with_reducible refine Calls.mono (Hid.out HOx _) ?_)
        rintro e w1 ⟨rfl, b1⟩
        have BB := hideW (bupW BB.out b1)
        have RR := hideW (RR.out.keep b1)
        have PX := hideW (PX.out.keep b1)
        clear x0 x1 x2 x3
        obtain ⟨_, x0, x1, x2, x3⟩ := PX.out
        have PY := hideW (PY.out.keep b1)
        clear q0 q1 q2 q3
        obtain ⟨_, q0, q1, q2, q3⟩ := PY.out
        clear b1
        cases ox
        ·go_wp2_with fail
         (with_reducible refine Calls.mono (Hid.out HCy _) ?_)
         rintro e w1 ⟨rfl, b1⟩
         have BB := hideW (bupW BB.out b1)
         have RR := hideW (RR.out.keep b1)
         have PX := hideW (PX.out.keep b1)
         clear x0 x1 x2 x3
         obtain ⟨_, x0, x1, x2, x3⟩ := PX.out
         have PY := hideW (PY.out.keep b1)
         clear q0 q1 q2 q3
         obtain ⟨_, q0, q1, q2, q3⟩ := PY.out
         clear b1
         cases cy
         ·go_wp2
          go_ret
          exact ⟨rfl, BB.out⟩
         ·go_wp2
          go_ret
          exact ⟨rfl, BB.out⟩
        ·go_wp2
         go_ret
         exact ⟨rfl, BB.out⟩
      ·go_wp2_with fail
       (with_reducible refine Calls.mono (Hid.out HOx _) ?_)
       rintro e w1 ⟨rfl, b1⟩
       have BB := hideW (bupW BB.out b1)
       have RR := hideW (RR.out.keep b1)
       have PX := hideW (PX.out.keep b1)
       clear x0 x1 x2 x3
       obtain ⟨_, x0, x1, x2, x3⟩ := PX.out
       have PY := hideW (PY.out.keep b1)
       clear q0 q1 q2 q3
       obtain ⟨_, q0, q1, q2, q3⟩ := PY.out
       clear b1
       cases ox
       ·go_wp2_with fail
        (with_reducible refine Calls.mono (Hid.out HCy _) ?_)
        rintro e w1 ⟨rfl, b1⟩
        have BB := hideW (bupW BB.out b1)
        have RR := hideW (RR.out.keep b1)
        have PX := hideW (PX.out.keep b1)
        clear x0 x1 x2 x3
        obtain ⟨_, x0, x1, x2, x3⟩ := PX.out
        have PY := hideW (PY.out.keep b1)
        clear q0 q1 q2 q3
        obtain ⟨_, q0, q1, q2, q3⟩ := PY.out
        clear b1
        cases cy
        ·go_wp2
         go_ret
         exact ⟨rfl, BB.out⟩
        ·go_wp2
         go_ret
         exact ⟨rfl, BB.out⟩
       ·go_wp2
        go_ret
        exact ⟨rfl, BB.out⟩
    ·go_wp2
     go_ret
     exact ⟨rfl, BB.out⟩
   ·go_wp2
    go_ret
    exact ⟨rfl, BB.out⟩
  ·go_wp2
   go_ret
   exact ⟨rfl, BB.out⟩
 ·go_wp2
  go_ret
  exact ⟨rfl, BB.out⟩
set_option maxRecDepth 100000 in
set_option maxHeartbeats 4000000 in
theorem rkind_last (L : List Pc) (a : Addr) (cap m n : Nat) (x : Pc) (hc : L.length ≤ cap ∧ cap ≤ maxLen) (hn : n = m + 1) (hl : n = L.length) (hx : L[m]? = some x) (w : World) (hR : CRow L a w) :
  Calls Tryz.prog 45 #[.slice (some a) L.length cap, .int .i64 n] w fun e w' => e = .returned (.int .i64 (if endsB x then 1 else 0)) ∧ Below w.heap.size w w' := by
 subst hl
 have hmx : maxLen ≤ 9223372036854775807 := by decide
 have RR := hideW hR
 obtain ⟨x0, x1, x2, x3⟩ := hR.four hx
 have hw1 : (L.length : Int) - 1 = (m : Int) := by omega
 have i1 : m < L.length := by omega
 have i5 : (m : Int) < (L.length : Int) := by omega
 have j2 : (L.length : Int) ≤ 9223372036854775807 := by omega
 have j5 : (m : Int) ≤ 9223372036854775807 := by omega
 have k1 : IntKind.i64.wrap (m : Int) = (m : Int) := IntWalk.i64_in _ ⟨by omega, by omega⟩
 have BB := hideW (Below.refl w.heap.size w)
 have HEx := hideW (ends_any x)
 unfold Pc.val at HEx
 generalize endsB x = ex at *
 clear hx hR hn hmx hc
 go_enter Tryz.func45, Tryz.ntmps45
 go_wp2_with fail
 have BB := hideW (bupW BB.out (bel1W w (.cells #[.int .i64 x.r, .int .i64 x.fr, .int .i64 x.tt, .int .i64 x.ce] 64)))
 have PX := hideW (PcAt.new w x 64)
 have RR := hideW (RR.out.keep (bel1W w (.cells #[.int .i64 x.r, .int .i64 x.fr, .int .i64 x.tt, .int .i64 x.ce] 64)))
 (with_reducible refine Calls.mono (Hid.out HEx _) ?_)
 rintro e w1 ⟨rfl, b1⟩
 have BB := hideW (bupW BB.out b1)
 have RR := hideW (RR.out.keep b1)
 have PX := hideW (PX.out.keep b1)
 clear x0 x1 x2 x3
 obtain ⟨_, x0, x1, x2, x3⟩ := PX.out
 clear b1
 cases ex
 ·go_wp2
  go_ret
  exact ⟨rfl, BB.out⟩
 ·go_wp2
  go_ret
  exact ⟨rfl, BB.out⟩
end Go.Proofs.YtlkgnheccoodpaaGreatDoor
namespace Go.Proofs.YtlkgnheccoodpaaGreatDoor
open Go.RowKit Go.Shelf
attribute [local go_sem] Oper.semAt_some
def pc0 : Pc := ⟨0, 0, 0, 0⟩
def kindRL (L : List Pc) (n : Nat) : Int :=
 if n < L.length then kindC (endsB (L.getD (n - 1) pc0)) (endsB (L.getD n pc0)) (blankB (L.getD (n - 1) pc0)) (blankB (L.getD n pc0)) (hyphB (L.getD (n - 1) pc0)) (decide (1 < n) && (!blankB (L.getD (n - 2) pc0) && !endsB (L.getD (n - 2) pc0) && !hyphB (L.getD (n - 2) pc0))) (wideB (L.getD (n - 1) pc0)) (wideB (L.getD n pc0)) (openB (L.getD (n - 1) pc0)) (closeB (L.getD n pc0))
 else if endsB (L.getD (n - 1) pc0) then 1 else 0
theorem getD_some {α : Type} {l : List α} {n : Nat} {d : α} (h : n < l.length) : l[n]? = some (l.getD n d) := by
 rw [List.getD, List.getElem?_eq_getElem h]; rfl
theorem rkind_any (L : List Pc) (a : Addr) (cap n : Nat) (hc : L.length ≤ cap ∧ cap ≤ maxLen) (h1 : 1 ≤ n) (hn : n ≤ L.length) (w : World) (hR : CRow L a w) :
  Calls Tryz.prog 45 #[.slice (some a) L.length cap, .int .i64 n] w fun e w' => e = .returned (.int .i64 (kindRL L n)) ∧ Below w.heap.size w w' := by
 by_cases hl : n < L.length
 ·unfold kindRL
  rw [if_pos hl]
  by_cases h2 : 1 < n
  ·rw [decide_eq_true h2, Bool.true_and]
   exact rkind_two L a cap (n - 2) n _ _ _ hc (by omega) hl (by rw [show n - 2 + 1 = n - 1 by omega]; exact getD_some (by omega)) (getD_some hl) (getD_some (by omega)) w hR
  ·rw [decide_eq_false h2, Bool.false_and]
   exact rkind_one L a cap (n - 1) n _ _ hc (by omega) (by omega) hl (getD_some (by omega)) (getD_some hl) w hR
 ·unfold kindRL
  rw [if_neg hl]
  exact rkind_last L a cap (n - 1) n _ hc (by omega) (by omega) (getD_some (by omega)) w hR
def IC (W : World) (G : Nat) (Q : List Int) : Prop := ∃ cur : Array Value, W.heap[G]? = some (.cells cur 3 (0, 0)) ∧ ∀ (i : Nat) (x : Int), Q[i]? = some x → cur[i]? = some (.int .i64 x)
theorem IC.lt {W : World} {G : Nat} {Q : List Int} (h : IC W G Q) : G < W.heap.size := by
 obtain ⟨_, h1, _⟩ := h
 exact (Array.getElem?_eq_some_iff.1 h1).1
theorem IC.keep {W U : World} {G : Nat} {Q : List Int} (h : IC W G Q) (b : Below W.heap.size W U) : IC U G Q := by
 have e := b.block G h.lt
 obtain ⟨cur, h1, h2⟩ := h
 exact ⟨cur, e.trans h1, h2⟩
theorem IC.at {W : World} {G : Nat} {Q : List Int} (h : IC W G Q) {i : Nat} {x : Int} (hx : Q[i]? = some x) : W.cell? ⟨G, i, none⟩ = some (.int .i64 x) ∧ W.frozen? ⟨G, i, none⟩ = false := by
 obtain ⟨cur, h1, h2⟩ := h
 have c := h2 i x hx
 simp [World.cell?, World.frozen?, h1, c]
theorem IC.set {W : World} {G : Nat} {Q : List Int} (h : IC W G Q) (n : Nat) (v : Int) : IC (W.setCell ⟨G, n, none⟩ (.int .i64 v)) G (Q.set n v) := by
 obtain ⟨cur, h1, h2⟩ := h
 refine ⟨cur.setIfInBounds n (.int .i64 v), set_at h1 _ _, fun i p hp => ?_⟩
 rw [List.getElem?_set] at hp
 by_cases c : n = i
 ·subst c
  rw [if_pos rfl] at hp
  split at hp
  ·rename_i hn
   obtain rfl : v = p := by simpa using hp
   have b0 := (Array.getElem?_eq_some_iff.1 (h2 n Q[n] (List.getElem?_eq_getElem hn))).1
   rw [Array.getElem?_setIfInBounds_self_of_lt b0]
  ·cases hp
 ·rw [if_neg c] at hp
  rw [Array.getElem?_setIfInBounds_ne c]
  exact h2 i p hp
theorem IC.made {W : World} {base G n : Nat} (h : W.ownsRow base 3 1 (.slice (some ⟨G, 0, none⟩) n n) n (madeCells (Value.int .i64 0).cells (n * 1)).toList) : IC W G (List.replicate n 0) := by
 rcases h.2 with ⟨e, _⟩ | ⟨g2, cap2, cur, e, hb, hg, hcn, hcm, hs, h4⟩
 ·simp at e
 ·obtain ⟨rfl, rfl⟩ : G = g2 ∧ n = cap2 := by simpa using e
  refine ⟨cur, hg, fun i p hp => ?_⟩
  rw [List.getElem?_replicate] at hp
  split at hp
  ·rename_i hi
   obtain rfl : 0 = p := by simpa using hp
   have : cur.toList[i]? = some (.int .i64 0) := by
    have h5 : (cur.toList.take (n * 1))[i]? = some (.int .i64 0) := by
     rw [h4, show (Value.int .i64 0).cells = #[.int .i64 0] from rfl]
     unfold madeCells
     simp [hi, Nat.mod_one]
    rw [List.getElem?_take] at h5
    simpa [hi] using h5
   simpa using this
  ·cases hp
def kindsL (L : List Pc) : List Int := 0 :: (List.range L.length).map (fun i => kindRL L (i + 1))
theorem kindsL_len (L : List Pc) : (kindsL L).length = L.length + 1 := by simp [kindsL]
theorem kindsL_at (L : List Pc) (n : Nat) (h1 : 1 ≤ n) (h : n ≤ L.length) : (kindsL L)[n]? = some (kindRL L n) := by
 obtain ⟨m, rfl⟩ : ∃ m, n = m + 1 := ⟨n - 1, by omega⟩
 unfold kindsL
 rw [List.getElem?_cons_succ, List.getElem?_map, List.getElem?_range (by omega)]
 rfl
theorem infoI10 : (Tryz.prog.info? 3).map (fun i => (i.zero, i.size, i.bytes)) = some (some (.int .i64 0), 1, 8) := by kernel_rfl
set_option maxRecDepth 100000 in
set_option maxHeartbeats 1000000 in
theorem kinds_walk (L : List Pc) (a : Addr) (cap : Nat) (hl0 : 1 ≤ L.length) (hl : L.length ≤ 1048576) (hc : L.length ≤ cap ∧ cap ≤ maxLen) (w : World) (hR : CRow L a w) :
  Calls Tryz.prog 21 #[.slice (some a) L.length cap] w fun e w' => e = .returned (.slice (some ⟨w.heap.size, 0, none⟩) (L.length + 1) (L.length + 1)) ∧ IC w' w.heap.size (kindsL L) ∧ Below w.heap.size w w' := by
 have hmx : maxLen ≤ 9223372036854775807 := by decide
 obtain ⟨i0, hi, hz0, hz1, hz2⟩ := info_partsC infoI10
 have e0 : IntKind.i64.wrap ((L.length : Int) + 1) = ((L.length + 1 : Nat) : Int) := by rw [show ((L.length + 1 : Nat) : Int) = (L.length : Int) + 1 by omega]; exact IntWalk.i64_in _ ⟨by omega, by omega⟩
 have HR := hideW hR
 clear hR
 go_enter Tryz.func21, Tryz.ntmps21
 go_wp2_with (at_make; refine wpList_make_full _ rfl _ _ 58 rfl w.heap.size 3 i0 (.int .i64 0) 1 Tryz.underlying58 hi hz0 hz1 .i64 .i64 _ _ (L.length + 1) rfl rfl (by omega) (by omega) (by rw [hz2]; omega) (by unfold maxLen; omega) (by simp) ?_; intro w2 own2 gr2)
 have B2 : Below w.heap.size w w2 := Below.grown (Below.refl _ _) gr2 (Nat.le_refl _) (fun k hk => by cases hk)
 have R2 : IC w2 w.heap.size (List.replicate (L.length + 1) 0) := IC.made own2
 have H2 := hideW (And.intro B2 R2)
 clear own2 gr2 B2 R2
 go_loopw [4] (fun iv wq => ∃ (n : Nat) (Q : List Int), iv = .int .i64 n ∧ 1 ≤ n ∧ n ≤ L.length + 1 ∧ Q.length = L.length + 1 ∧ (∀ j, j < n → Q[j]? = (kindsL L)[j]?) ∧ Below w.heap.size w wq ∧ IC wq w.heap.size Q) (fun iv _ => L.length + 1 - (intOf iv).toNat)
 case atStart =>
  obtain ⟨B2, R2⟩ := H2.out
  refine ⟨1, _, by first | rfl | go_num, Nat.le_refl _, by omega, by simp, fun j hj => ?_, B2, R2⟩
  obtain rfl : j = 0 := by omega
  rfl
 case round =>
  obtain ⟨n, Q, rfl, h1, hn, hQ, hj, hB, hI⟩ := hrel
  clear H2
  have e1 : IntKind.i64.wrap ((n : Int) + 1) = ((n + 1 : Nat) : Int) := by rw [show ((n + 1 : Nat) : Int) = (n : Int) + 1 by omega]; exact IntWalk.i64_in _ ⟨by omega, by omega⟩
  by_cases hnl : n ≤ L.length
  ·have k1 : (n : Int) ≤ (L.length : Int) := by omega
   have k2 : (n : Int) < (L.length : Int) + 1 := by omega
   have k3 : n < L.length + 1 := by omega
   have k4 : (n : Int) ≤ 9223372036854775807 := by omega
   have HK := hideW (rkind_any L a cap n hc h1 hnl wr (HR.out.keep (hB.mono (by omega))))
   have hq : Q[n]? = some (Q.getD n 0) := getD_some (by omega)
   have HH := hideW (And.intro hB hI)
   clear hB hI
   go_wp2_with fail
   refine HK.out.mono ?_
   rintro e w3 ⟨rfl, b3⟩
   obtain ⟨hB, hI⟩ := HH.out
   have I3 := hI.keep b3
   obtain ⟨c0, c1⟩ := I3.at hq
   have H3 := hideW (And.intro (hB.trans (b3.mono hB.size)) I3)
   clear hB hI I3 b3 HH HK
   go_wp2
   go_roundw
   case rel =>
    obtain ⟨hB, hI⟩ := H3.out
    refine ⟨n + 1, Q.set n (kindRL L n), by first | rfl | rw [e1] | go_num, by omega, by omega, by simp [hQ], fun j hj2 => ?_, hB.setCell (Nat.le_refl _) _, hI.set n _⟩
    rw [List.getElem?_set]
    by_cases c : n = j
    ·subst c
     rw [if_pos rfl, if_pos (by omega), kindsL_at L n h1 hnl]
    ·rw [if_neg c]
     exact hj j (by omega)
   case measure => simp [intOf]; omega
  ·obtain rfl : n = L.length + 1 := by omega
   have k1 : ¬ ((L.length + 1 : Nat) : Int) ≤ (L.length : Int) := by omega
   obtain rfl : Q = kindsL L := List.ext_getElem? fun j => by
    by_cases c : j < L.length + 1
    ·exact hj j c
    ·rw [List.getElem?_eq_none (by omega), List.getElem?_eq_none (by rw [kindsL_len]; omega)]
   have HH := hideW (And.intro hB hI)
   clear hB hI
   go_wp2
   go_ret
   exact ⟨rfl, HH.out.2, HH.out.1⟩
end Go.Proofs.YtlkgnheccoodpaaGreatDoor
namespace Go.Proofs.YtlkgnheccoodpaaGreatDoor
open Go.RowKit Go.Shelf
attribute [local go_sem] Oper.semAt_some
def placeR (L : List Pc) (n : Nat) : Int := if n = L.length then (L.getD (n - 1) pc0).tt else (L.getD n pc0).fr
def flatPc (l : List Pc) : List Value := l.flatMap fun x => [.int .i64 x.r, .int .i64 x.fr, .int .i64 x.tt, .int .i64 x.ce]
theorem flatPc_at : ∀ (Q : List Pc) (i : Nat) (p : Pc), Q[i]? = some p → (flatPc Q)[i * 4]? = some (.int .i64 p.r) ∧ (flatPc Q)[i * 4 + 1]? = some (.int .i64 p.fr) ∧ (flatPc Q)[i * 4 + 2]? = some (.int .i64 p.tt) ∧ (flatPc Q)[i * 4 + 3]? = some (.int .i64 p.ce)
 | [], _, _, h => by simp at h
 | q :: l, 0, p, h => by
  obtain rfl : q = p := by simpa using h
  exact ⟨rfl, rfl, rfl, rfl⟩
 | q :: l, i + 1, p, h => by
  have h' : l[i]? = some p := by simpa using h
  obtain ⟨a, b, c, d⟩ := flatPc_at l i p h'
  have e : ∀ j, (flatPc (q :: l))[(i + 1) * 4 + j]? = (flatPc l)[i * 4 + j]? := fun j => by
   show ([.int .i64 q.r, .int .i64 q.fr, .int .i64 q.tt, .int .i64 q.ce] ++ flatPc l)[(i + 1) * 4 + j]? = _
   rw [List.getElem?_append_right (by simp; omega)]
   congr 1
   simp
   omega
  exact ⟨(e 0).trans a, (e 1).trans b, (e 2).trans c, (e 3).trans d⟩
theorem CRow.of_owns {W : World} {base g n cap : Nat} {Q : List Pc} (h : W.ownsRow base 64 4 (.slice (some ⟨g, 0, none⟩) n cap) n (flatPc Q)) : CRow Q ⟨g, 0, none⟩ W ∧ base ≤ g ∧ n ≤ cap ∧ cap ≤ maxLen := by
 have hg : g < W.heap.size := (h.lt g rfl).2
 rcases h.2 with ⟨e, _⟩ | ⟨g2, cap2, cur, e, hb, hg2, hcn, hcm, _⟩
 ·simp at e
 ·obtain ⟨rfl, rfl⟩ : g = g2 ∧ cap = cap2 := by simpa using e
  refine ⟨⟨hg, fun i p hp => ?_⟩, hb, hcn, hcm⟩
  obtain ⟨a, b, c, d⟩ := flatPc_at Q i p hp
  exact ⟨row_cells h _ _ a, row_cells h _ _ b, row_cells h _ _ c, row_cells h _ _ d⟩
end Go.Proofs.YtlkgnheccoodpaaGreatDoor
namespace Go.Proofs.YtlkgnheccoodpaaGreatDoor
theorem cls_end (r : Int) : (classI r = 1) ↔ (r == 10) = true := by
 unfold classI
 by_cases h : r = 10
 ·simp [h]
 ·rw [if_neg h]
  have : (r == 10) = false := by simp [h]
  rw [this]
  repeat' split
  all_goals simp
theorem blank_mem (r : Int) : r ∈ clsBlank ↔ (bl5.contains r || (decide (8192 ≤ r) && decide (r ≤ 8202) && r != 8199)) = true := by
 unfold clsBlank bl5
 simp
 omega
theorem cls_blank (x : Pc) : (classI x.r = 2) ↔ blankB x = true := by
 show _ ↔ (bl5.contains x.r || (decide (8192 ≤ x.r) && decide (x.r ≤ 8202) && x.r != 8199)) = true
 rw [← blank_mem]
 unfold classI
 by_cases h : x.r = 10
 ·rw [if_pos h, h]
  simp [clsBlank]
 ·rw [if_neg h]
  by_cases h2 : x.r ∈ clsBlank
  ·simp [h2]
  ·rw [if_neg h2]
   constructor
   ·intro hh
    revert hh
    repeat' split
    all_goals simp
   ·intro hh
    exact absurd hh h2
theorem cls_apart : (∀ r ∈ clsDash, r ≠ 10 ∧ r ∉ clsBlank) ∧ (∀ r ∈ clsOpen, r ≠ 10 ∧ r ∉ clsBlank ∧ r ∉ clsDash) ∧ (∀ r ∈ clsClose, r ≠ 10 ∧ r ∉ clsBlank ∧ r ∉ clsDash ∧ r ∉ clsOpen) := by decide
theorem cls_dash (x : Pc) : (classI x.r = 3) ↔ hyphB x = true := by
 show _ ↔ clsDash.contains x.r = true
 rw [List.contains_iff_mem]
 unfold classI
 by_cases h : x.r ∈ clsDash
 ·obtain ⟨a, b⟩ := cls_apart.1 _ h
  rw [if_neg a, if_neg b, if_pos h]
  simp [h]
 ·rw [if_neg (c := x.r ∈ clsDash) h]
  constructor
  ·intro hh
   revert hh
   repeat' split
   all_goals simp
  ·intro hh
   exact absurd hh h
theorem cls_open (x : Pc) : (classI x.r = 4) ↔ openB x = true := by
 show _ ↔ clsOpen.contains x.r = true
 rw [List.contains_iff_mem]
 unfold classI
 by_cases h : x.r ∈ clsOpen
 ·obtain ⟨a, b, c⟩ := cls_apart.2.1 _ h
  rw [if_neg a, if_neg b, if_neg c, if_pos h]
  simp [h]
 ·rw [if_neg (c := x.r ∈ clsOpen) h]
  constructor
  ·intro hh
   revert hh
   repeat' split
   all_goals simp
  ·intro hh
   exact absurd hh h
theorem cls_close (x : Pc) : (classI x.r = 5) ↔ closeB x = true := by
 show _ ↔ clsClose.contains x.r = true
 rw [List.contains_iff_mem]
 unfold classI
 by_cases h : x.r ∈ clsClose
 ·obtain ⟨a, b, c, d⟩ := cls_apart.2.2 _ h
  rw [if_neg a, if_neg b, if_neg c, if_neg d, if_pos h]
  simp [h]
 ·rw [if_neg (c := x.r ∈ clsClose) h]
  constructor
  ·intro hh
   revert hh
   repeat' split
   all_goals simp
  ·intro hh
   exact absurd hh h
theorem cls_six (r : Int) : classI r ≠ 6 := by
 unfold classI
 repeat' split
 all_goals simp
def Twin (p : Pt) (x : Pc) : Prop := p.cl = classI x.r ∧ p.wd = (x.ce == 2)
theorem kind_same {p q : Pt} {x y : Pc} (hp : Twin p x) (hq : Twin q y) (d : Bool) :
  kindI d p q = kindC (endsB x) (endsB y) (blankB x) (blankB y) (hyphB x) d (wideB x) (wideB y) (openB x) (closeB y) := by
 obtain ⟨hp1, hp2⟩ := hp
 obtain ⟨hq1, hq2⟩ := hq
 have ex := cls_end x.r
 have ey := cls_end y.r
 have bx := cls_blank x
 have b2 := cls_blank y
 have dx := cls_dash x
 have ox := cls_open x
 have cy := cls_close y
 have s6 := cls_six y.r
 have wx : wideB x = (x.ce == 2 && !blankB x) := rfl
 have wy : wideB y = (y.ce == 2 && !blankB y) := rfl
 have ee : endsB x = (x.r == 10) := rfl
 have ef : endsB y = (y.r == 10) := rfl
 rw [← ee] at ex
 rw [← ef] at ey
 rw [← hp1] at ex bx dx ox
 rw [← hq1] at ey b2 cy s6
 unfold kindI kindC
 rw [wx, wy, ← hp2, ← hq2]
 clear wx wy ee ef hp1 hq1 hp2 hq2
 generalize endsB x = e1 at *
 generalize endsB y = e2 at *
 generalize blankB x = b1 at *
 generalize blankB y = b3 at *
 generalize hyphB x = h1 at *
 generalize openB x = o1 at *
 generalize closeB y = c1 at *
 cases e1 <;> cases e2 <;> cases b1 <;> cases b3 <;> simp_all [and_assoc]
end Go.Proofs.YtlkgnheccoodpaaGreatDoor
