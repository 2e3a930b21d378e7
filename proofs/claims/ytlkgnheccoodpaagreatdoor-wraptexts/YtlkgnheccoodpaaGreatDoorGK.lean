import Derived.Deep.RegionHeld3
import Derived.Test.YtlkgnheccoodpaaGreatDoorWrO
namespace Go.Proofs.YtlkgnheccoodpaaGreatDoor
open Go.RowKit Go.Shelf
attribute [local go_sem] Oper.semAt_some
def stopsW (s : ByteArray) : List St := stopsL (partsL s)
def wrapW (s : ByteArray) (wd : Int) : List St := leastW wd [] (parasG 0 0 [] (stopsW s))
theorem SRowO.of_row {l : List St} {G : Nat} {V : World} (h : SRow l G V) : SRowO l G 0 V := ⟨h.1, fun i x hx => by
 have := h.2 i x hx
 simp only [Nat.zero_add]
 exact this⟩
set_option maxRecDepth 100000 in
set_option maxHeartbeats 1000000 in
theorem wrap_walk (s : ByteArray) (hs : s.size ≤ 4096) (wd : Int) (hw : 2 ≤ wd ∧ wd ≤ 200) (hS : SmN (stopsW s)) (hl : (stopsW s).length ≤ 5000) (hl1 : 1 ≤ (stopsW s).length) (hF : FitsP wd [] (parasG 0 0 [] (stopsW s))) (way : List St) (x : St) (hway : wrapW s wd = way ++ [x]) (hwl : way.length + 1 ≤ 5000) (hwS : SmN (way ++ [x])) (N : Nat) (w : World) (hT : Tabs N w) :
  Calls Tryz.prog 10 #[.string s, .int .i64 wd] w fun e w' => ∃ v, e = .returned (.tuple #[v, .int .i64 (wayB wd (way ++ [x])).1, .int .i64 0]) ∧ w'.ownsRow w.heap.size 73 2 v way.length (flatB way) ∧ Below w.heap.size w w' := by
 have HC := hideW (wcheck_any s wd)
 have hck : wcheckI s.size wd = 0 := by unfold wcheckI; rw [if_neg (by omega), if_neg (by omega)]
 rw [hck] at HC
 have HSt := hideW (fun U hU => stops_walk s (by omega) N U hU)
 have e0 : stopsL (partsL s) = stopsW s := rfl
 rw [e0] at HSt
 unfold wrapW at hway
 generalize stopsW s = L at *
 obtain ⟨n0, hn0⟩ : ∃ n, L.length = n + 1 := ⟨L.length - 1, by omega⟩
 clear e0
 go_enter Tryz.func10, Tryz.ntmps10
 go_wp2_with fail
 refine (HC.out _).mono ?_
 rintro e w1 ⟨rfl, rfl⟩
 go_wp2_with fail
 refine (HSt.out _ hT).mono ?_
 rintro e w2 ⟨v2, rfl, own2, b2⟩
 rw [hn0] at own2
 obtain ⟨g2, cap2, rfl⟩ := ownsRow_succ own2
 obtain ⟨sr2, hg2, hcn2, hcm2⟩ := SRow.of_owns own2
 have HL := least_walk L g2 cap2 wd ⟨by omega, by omega⟩ hl hS hF ⟨by omega, hcm2⟩ w2 (SRowO.of_row sr2)
 rw [hway, hn0] at HL
 have HL := hideW HL
 have B2 := hideW b2
 clear own2 sr2 b2 hS hF hway HSt
 go_wp2_with fail
 refine HL.out.mono ?_
 rintro e w3 ⟨v3, rfl, own3, b3⟩
 rw [List.length_append] at own3
 obtain ⟨g3, cap3, rfl⟩ := ownsRow_succ (show w3.ownsRow w2.heap.size 52 7 v3 (way.length + 0 + 1) _ from own3)
 obtain ⟨sr3, hg3, hcn3, hcm3⟩ := SRow.of_owns own3
 have HW := wbad_walk (way ++ [x]) g3 cap3 wd ⟨by omega, by omega⟩ (by simp; omega) hwS ⟨by simp; omega, hcm3⟩ w3 (SRowO.of_row sr3)
 rw [List.length_append] at HW
 have HW := hideW HW
 have B3 := hideW (bupW B2.out b3)
 have S3 := hideW sr3
 have hz3 := sr3.1
 clear own3 sr3 b3 HL B2
 go_wp2_with fail
 refine HW.out.mono ?_
 rintro e w4 ⟨rfl, b4⟩
 have HB := hideW (breaks_walk way x g3 cap3 (by omega) ⟨by omega, hcm3⟩ w4 (S3.out.keep b4 hz3))
 have B4 := hideW (bupW B3.out b4)
 clear b4 HW S3 B3
 go_wp2_with fail
 refine HB.out.mono ?_
 rintro e w5 ⟨v5, rfl, own5, b5⟩
 have H5 := hideW (And.intro own5 (And.intro b5 B4.out))
 clear own5 b5 B4 HB
 go_wp2_with fail
 go_ret3
 obtain ⟨own5, b5, B4⟩ := H5.out
 exact ⟨_, rfl, ownsRow_from own5 B4.size, bupW B4 b5⟩
end Go.Proofs.YtlkgnheccoodpaaGreatDoor
namespace Go.Proofs.YtlkgnheccoodpaaGreatDoor
open Go.RowKit Go.Shelf
attribute [local go_sem] Oper.semAt_some
def fitsTb (wd : Int) : Int → List St → Bool
 | _, [] => true
 | bg, x :: l => (sbadI x.kind x.fin.ce bg wd).2 && fitsTb wd x.nxt.ce l
theorem fitsT_of (wd : Int) : ∀ (l : List St) (bg : Int), fitsTb wd bg l = true → FitsT wd bg l
 | [], _, _ => trivial
 | x :: l, bg, h => by
  unfold fitsTb at h
  rw [Bool.and_eq_true] at h
  exact ⟨h.1, fitsT_of wd l _ h.2⟩
def fitsPb (wd : Int) : List St → List Pg → Bool
 | _, [] => true
 | way, p :: ps => (decide (1 ≤ p.l.length) && decide (1 ≤ (leastP wd (bgP way).ce p.l).length) && fitsTb wd (bgP way).ce p.l) && fitsPb wd (way ++ leastP wd (bgP way).ce p.l) ps
theorem fitsP_of (wd : Int) : ∀ (ps : List Pg) (way : List St), fitsPb wd way ps = true → FitsP wd way ps
 | [], _, _ => trivial
 | p :: ps, way, h => by
  unfold fitsPb at h
  rw [Bool.and_eq_true, Bool.and_eq_true, Bool.and_eq_true] at h
  exact ⟨⟨of_decide_eq_true h.1.1.1, of_decide_eq_true h.1.1.2, fitsT_of wd _ _ h.1.2⟩, fitsP_of wd ps _ h.2⟩
def smNb (l : List St) : Bool := l.all fun x => decide (0 ≤ x.fin.ce) && decide (x.fin.ce ≤ 100000) && (decide (0 ≤ x.nxt.ce) && decide (x.nxt.ce ≤ 100000))
theorem smN_of {l : List St} (h : smNb l = true) : SmN l := fun x hx => by
 have := List.all_eq_true.1 h x hx
 simp only [Bool.and_eq_true, decide_eq_true_eq] at this
 exact this
def tA : ByteArray := ⟨#[97, 97, 97, 32, 98, 98, 32, 99, 99]⟩
def tB : ByteArray := ⟨#[97, 98, 99, 100, 101, 102]⟩
def xA1 : St := ⟨2, ⟨3, 3, 3, 2, false⟩, ⟨4, 4, 4, 0, false⟩⟩
def xA2 : St := ⟨0, ⟨9, 9, 9, 6, false⟩, ⟨9, 9, 9, 6, false⟩⟩
def xB1 : St := ⟨3, ⟨3, 3, 3, 0, false⟩, ⟨3, 3, 3, 0, false⟩⟩
def xB2 : St := ⟨0, ⟨6, 6, 6, 6, false⟩, ⟨6, 6, 6, 6, false⟩⟩
theorem wrapA_eq : wrapW tA 6 = [xA1] ++ [xA2] := by kernel_rfl
theorem wrapB_eq : wrapW tB 4 = [xB1] ++ [xB2] := by kernel_rfl
theorem badA_eq : wayB 6 ([xA1] ++ [xA2]) = (10, true) := by kernel_rfl
theorem badB_eq : wayB 4 ([xB1] ++ [xB2]) = (1048578, true) := by kernel_rfl
theorem lenA_eq : (stopsW tA).length = 7 := by kernel_rfl
theorem lenB_eq : (stopsW tB).length = 6 := by kernel_rfl
theorem wrapA (N : Nat) (w : World) (hT : Tabs N w) :
  Calls Tryz.prog 10 #[.string tA, .int .i64 6] w fun e w' => ∃ v, e = .returned (.tuple #[v, .int .i64 10, .int .i64 0]) ∧ w'.ownsRow w.heap.size 73 2 v 1 [.int .i64 4, .int .i64 2] ∧ Below w.heap.size w w' := by
 have := wrap_walk tA (by decide) 6 ⟨by decide, by decide⟩ (smN_of (by kernel_rfl)) (by rw [lenA_eq]; decide) (by rw [lenA_eq]; decide) (fitsP_of _ _ _ (by kernel_rfl)) [xA1] xA2 wrapA_eq (by decide) (smN_of (by kernel_rfl)) N w hT
 rw [badA_eq] at this
 exact this
theorem wrapB (N : Nat) (w : World) (hT : Tabs N w) :
  Calls Tryz.prog 10 #[.string tB, .int .i64 4] w fun e w' => ∃ v, e = .returned (.tuple #[v, .int .i64 1048578, .int .i64 0]) ∧ w'.ownsRow w.heap.size 73 2 v 1 [.int .i64 3, .int .i64 3] ∧ Below w.heap.size w w' := by
 have := wrap_walk tB (by decide) 4 ⟨by decide, by decide⟩ (smN_of (by kernel_rfl)) (by rw [lenB_eq]; decide) (by rw [lenB_eq]; decide) (fitsP_of _ _ _ (by kernel_rfl)) [xB1] xB2 wrapB_eq (by decide) (smN_of (by kernel_rfl)) N w hT
 rw [badB_eq] at this
 exact this
theorem cell_old2 (w : World) (b : Obj) (g o : Nat) (f : _) (h : g < w.heap.size) : (w.alloc b).cell? ⟨g, o, f⟩ = w.cell? ⟨g, o, f⟩ := ((Below.refl w.heap.size w).alloc (Nat.le_refl _) b).cell (p := ⟨g, o, f⟩) h
theorem rowCap {W : World} {base e size n g cap : Nat} {xs : List Value} (h : W.ownsRow base e size (.slice (some ⟨g, 0, none⟩) n cap) n xs) : n ≤ cap ∧ cap ≤ maxLen := by
 rcases h.2 with ⟨e, _⟩ | ⟨g2, cap2, cur, e, hb, hg, hcn, hcm, _, h4⟩
 ·simp at e
 ·obtain ⟨rfl, rfl⟩ : g = g2 ∧ cap = cap2 := by simpa using e
  exact ⟨hcn, hcm⟩
set_option maxRecDepth 100000 in
set_option maxHeartbeats 400000 in
theorem same_one (a b : Int) (G cap G2 : Nat) (hc : 1 ≤ cap ∧ cap ≤ maxLen) (w : World) (h0 : w.cell? ⟨G, 0, none⟩ = some (.int .i64 a)) (h1 : w.cell? ⟨G, 1, none⟩ = some (.int .i64 b)) (r0 : w.cell? ⟨G2, 0, none⟩ = some (.int .i64 a)) (r1 : w.cell? ⟨G2, 1, none⟩ = some (.int .i64 b)) :
  Calls Tryz.prog 11 #[.slice (some ⟨G, 0, none⟩) 1 cap, .slice (some ⟨G2, 0, none⟩) 1 1] w fun e w' => e = .returned (.bool true) ∧ Below w.heap.size w w' := by
 have hm := hc.2
 go_enter Tryz.func11, Tryz.ntmps11
 have hg : G < w.heap.size := World.block_lt_of_cell? w _ h0
 have hg2 : G2 < w.heap.size := World.block_lt_of_cell? w _ r0
 go_wp2
 go_loopw [5] (fun iv wr => (iv = .int .i64 0 ∨ iv = .int .i64 1) ∧ Below w.heap.size w wr) (fun iv _ => 1 - (intOf iv).toNat)
 case atStart => exact ⟨.inl rfl, Below.refl _ _⟩
 case round =>
  obtain ⟨rfl | rfl, hB⟩ := hrel
  ·have c0 := (hB.cell (p := ⟨G, 0, none⟩) hg).trans h0
   have c1 := (hB.cell (p := ⟨G, 1, none⟩) hg).trans h1
   have d0 := (hB.cell (p := ⟨G2, 0, none⟩) hg2).trans r0
   have d1 := (hB.cell (p := ⟨G2, 1, none⟩) hg2).trans r1
   have HB := hideW hB
   clear hB h0 h1 r0 r1
   have t1 : (a != a) = false := by simp
   have t2 : (b != b) = false := by simp
   go_wp2_with fail
   go_region_held3 (fun w' => w'.cell? ⟨G, 0, none⟩ = some (.int .i64 a) ∧ w'.cell? ⟨G, 1, none⟩ = some (.int .i64 b) ∧ w'.cell? ⟨G2, 0, none⟩ = some (.int .i64 a) ∧ w'.cell? ⟨G2, 1, none⟩ = some (.int .i64 b)) (first | go_keep | assumption) (fail)
   go_wp2_with fail
   go_roundw
   case rel => exact ⟨.inr (by go_num), by first | exact HB.out | exact HB.out.drew⟩
   case measure => decide
  ·have HB := hideW hB
   clear hB h0 h1 r0 r1
   go_wp2
   go_ret
   exact ⟨rfl, HB.out⟩
set_option maxRecDepth 100000 in
set_option maxHeartbeats 400000 in
theorem head10 (N : Nat) (w : World) (hT : Tabs N w) :
  Calls Tryz.prog 4 #[] w fun e w' => e = .returned (.bool true) ∧ Below w.heap.size w w' := by
 go_enter Tryz.func4, Tryz.ntmps4
 go_wp2_with fail
 refine (wrapA N _ hT).mono ?_
 rintro e w1 ⟨v1, rfl, own1, b1⟩
 obtain ⟨g1, cap1, rfl⟩ := ownsRow_succ (show w1.ownsRow w.heap.size 73 2 v1 (0 + 1) _ from own1)
 have hc1 := rowCap own1
 have a0 := row_cells own1 0 _ rfl
 have a1 := row_cells own1 1 _ rfl
 rw [addG] at a0 a1
 have H1 := hideW (And.intro a0 (And.intro a1 b1))
 clear own1 a0 a1 b1
 go_wp2_with fail
 refine (wrapB N _ (hT.below H1.out.2.2)).mono ?_
 rintro e w2 ⟨v2, rfl, own2, b2⟩
 obtain ⟨g2, cap2, rfl⟩ := ownsRow_succ (show w2.ownsRow w1.heap.size 73 2 v2 (0 + 1) _ from own2)
 have hc2 := rowCap own2
 have b0 := row_cells own2 0 _ rfl
 have b1 := row_cells own2 1 _ rfl
 rw [addG] at b0 b1
 obtain ⟨a0, a1, bb⟩ := H1.out
 have k0 := (b2.cell (p := ⟨g1, 0, none⟩) (World.block_lt_of_cell? w1 _ a0)).trans a0
 have k1 := (b2.cell (p := ⟨g1, 1, none⟩) (World.block_lt_of_cell? w1 _ a1)).trans a1
 have H2 := hideW (And.intro k0 (And.intro k1 (And.intro b0 (And.intro b1 (bupW bb b2)))))
 clear own2 a0 a1 bb b0 b1 b2 k0 k1 H1 hT
 go_wp2_with fail
 obtain ⟨k0, k1, b0, b1, bb⟩ := H2.out
 clear H2
 have z1 : g1 < w2.heap.size := World.block_lt_of_cell? w2 _ k0
 have z2 : g2 < w2.heap.size := World.block_lt_of_cell? w2 _ b0
 refine (same_one 4 2 g1 cap1 w2.heap.size hc1 _ ((cell_old2 w2 _ _ _ _ z1).trans k0) ((cell_old2 w2 _ _ _ _ z1).trans k1) (cell_two_newS _ _ _ _ 0 _ rfl) (cell_two_newS _ _ _ _ 1 _ rfl)).mono ?_
 rintro e w3 ⟨rfl, b3⟩
 have q0 := (b3.cell (p := ⟨g2, 0, none⟩) (by simp; omega)).trans ((cell_old2 w2 _ _ _ _ z2).trans b0)
 have q1 := (b3.cell (p := ⟨g2, 1, none⟩) (by simp; omega)).trans ((cell_old2 w2 _ _ _ _ z2).trans b1)
 have bb3 := bupW (bb.alloc bb.size _) b3
 have H3 := hideW (And.intro q0 (And.intro q1 bb3))
 clear k0 k1 b0 b1 bb b3 q0 q1 bb3
 go_wp2_with fail
 obtain ⟨q0, q1, bb⟩ := H3.out
 clear H3
 have z3 : g2 < w3.heap.size := World.block_lt_of_cell? w3 _ q0
 refine (same_one 3 3 g2 cap2 w3.heap.size hc2 _ ((cell_old2 w3 _ _ _ _ z3).trans q0) ((cell_old2 w3 _ _ _ _ z3).trans q1) (cell_two_newS _ _ _ _ 0 _ rfl) (cell_two_newS _ _ _ _ 1 _ rfl)).mono ?_
 rintro e w4 ⟨rfl, b4⟩
 have H4 := hideW (bupW (bb.alloc bb.size _) b4)
 clear q0 q1 bb b4
 go_wp2
 go_ret
 exact ⟨rfl, H4.out⟩
end Go.Proofs.YtlkgnheccoodpaaGreatDoor
