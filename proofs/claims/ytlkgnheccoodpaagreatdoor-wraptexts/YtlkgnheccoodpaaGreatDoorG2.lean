import Derived.Test.YtlkgnheccoodpaaGreatDoorG1
import Derived.Test.YtlkgnheccoodpaaGreatDoorG5
import Derived.Test.YtlkgnheccoodpaaGreatDoorGB
import Derived.Test.YtlkgnheccoodpaaGreatDoorGR
namespace Go.Proofs.YtlkgnheccoodpaaGreatDoor
theorem partsG_at2 : ∀ (l : List Cl) (e : Int × Int × Int) (n : Nat) (c : Cl), l[n]? = some c → (partsG l e)[n]? = some ⟨(endG (l.take n) e).1, (endG (l.take n) e).2.1, (endG (l.take n) e).2.2, 0, c.cells == 2⟩
 | [], _, _, _, h => by simp at h
 | x :: l, e, 0, c, h => by
  obtain rfl : x = c := by simpa using h
  rfl
 | x :: l, e, n + 1, c, h => by
  have h' : l[n]? = some c := by simpa using h
  show (partsG l _)[n]? = _
  rw [partsG_at2 l _ n c h']
  rfl
theorem clsL_lt (s : ByteArray) (C : List Cl) (Q : List Pt) : ∀ (m n : Nat), n < m → (clsL s C Q m)[n]? = (Q[n]?).map (fun p => { p with cl := classI (Utf8.decode s (C.getD n cl0).loc.toNat).1 })
 | 0, _, h => by omega
 | m + 1, n, h => by
  show ((clsL s C Q m).modify m _)[n]? = _
  rw [List.getElem?_modify]
  by_cases c : m = n
  ·subst c
   rw [clsL_ge s C Q m m (Nat.le_refl _)]
   simp
  ·rw [clsL_lt s C Q m n (by omega)]
   cases Q[n]? <;> simp [c]
theorem getD_at {α : Type} {l : List α} {n : Nat} {d x : α} (h : l[n]? = some x) : l.getD n d = x := by rw [List.getD, h]; rfl
end Go.Proofs.YtlkgnheccoodpaaGreatDoor
namespace Go.Proofs.YtlkgnheccoodpaaGreatDoor
open Go.RowKit
def intT (l : List Int) : List Value := l.map fun x => .int .i64 x
theorem infoI1 : (Tryz.prog.info? 3).map (fun i => (i.zero, i.size, i.bytes)) = some (some (.int .i64 0), 1, 8) := by kernel_rfl
theorem cell_oneT (w : World) (a : Value) (t : TypeId) : ∀ j u, [a][j]? = some u → (w.alloc (.cells #[a] t)).cell? ((⟨w.heap.size, 0, none⟩ : Addr).add j) = some u := by
 intro j u hj
 match j, hj with
 | 0, hj => simp at hj; subst hj; simp [Addr.add]
 | j + 1, hj => simp at hj
def runesT (s : ByteArray) : List Int := (signs s).map Sg.rune
theorem runesT_eq (s : ByteArray) : ∀ f p, (sgns s f p).map Sg.rune = (sgF2 s f p).map (fun x => (x.2 : Int))
 | 0, _ => rfl
 | f + 1, p => by
  unfold sgns sgF2
  by_cases h : p < s.size
  ·rw [if_pos h, if_pos h, List.map_cons, List.map_cons, runesT_eq s f]
   obtain ⟨_, _, c, _⟩ := sgn_dec s p h
   rw [c]
  ·rw [if_neg h, if_neg h]
   rfl
theorem runesT_at (s : ByteArray) (i : Nat) (h : i < (sgs s).length) : (runesT s)[i]? = some (runeAt s i) := by
 unfold runesT signs
 rw [runesT_eq, List.getElem?_map]
 show ((sgs s)[i]?).map _ = _
 unfold runeAt
 rw [List.getD, List.getElem?_eq_getElem h]
 rfl
set_option maxRecDepth 100000 in
set_option maxHeartbeats 2000000 in
theorem rrunesT_any (s : ByteArray) (hs : s.size ≤ 1048576) (w : World) :
  Calls Tryz.prog 43 #[.string s] w fun e w' => ∃ v, e = .returned v ∧ w'.ownsRow w.heap.size 3 1 v (runesT s).length (intT (runesT s)) ∧ Below w.heap.size w w' := by
 obtain ⟨i0, hi, hz0, hz1, hz2⟩ := info_parts2 infoI1
 have hln : (signs s).length ≤ 1048576 := Nat.le_trans (sgns_length s _ _) hs
 have HS := hideO (rsigns_any s hs w)
 have hrl : runesT s = (signs s).map Sg.rune := rfl
 generalize runesT s = RL at *
 generalize signs s = S at *
 have HRL := hideO hrl
 clear hrl
 go_enter Tryz.func43, Tryz.ntmps43
 go_wp2_with fail
 refine HS.out.mono ?_
 rintro r w1 ⟨v1, rfl, o1, b1⟩
 have s1 := b1.size
 obtain ⟨oa, ca, rfl, hca⟩ := rows_at o1
 have HCA := hideO hca
 clear o1 hca HS
 go_wp2
 go_loopw [4, 5] (fun v i wr => ∃ k : Nat, i = .int .i64 k ∧ k ≤ S.length ∧ wr.ownsRow w1.heap.size 3 1 v k (intT ((S.take k).map Sg.rune)) ∧ Below w1.heap.size w1 wr) (fun _ i _ => S.length - (intOf i).toNat)
 case atStart => exact ⟨0, rfl, by omega, World.ownsRow_nil _ _ _ _, Below.refl _ _⟩
 case round =>
  obtain ⟨k, rfl, hk, hown, hB⟩ := hrel
  have sB := hB.size
  by_cases hkl : k < S.length
  ·obtain ⟨g, rfl, hg, _, hc⟩ := HCA.out k hkl
   obtain ⟨c0, c1, c2, c3⟩ := hc.below hB hg
   have hki : (k : Int) < (S.length : Int) := by omega
   have HTK : Hid (intT ((S.take (k + 1)).map Sg.rune) = intT ((S.take k).map Sg.rune) ++ [.int .i64 S[k].rune]) := by
    show _ = _
    rw [List.take_succ_eq_append_getElem hkl]
    unfold intT
    rw [List.map_append, List.map_append]
    rfl
   clear hc
   generalize S[k] = x at *
   go_wp2_with (at_builtin; refine wpList_append_own _ rfl _ _ 58 rfl w1.heap.size 3 i0 (.int .i64 0) 1 8 Tryz.underlying58 hi hz0 hz1 hz2 rfl (by decide) _ _ _ rfl (hown.alloc _) ⟨wr.heap.size, 0, none⟩ 1 1 [.int .i64 x.rune] rfl rfl (cell_oneT _ _ _) (fun u hu => by simp at hu; subst hu; rfl) (by unfold maxLen; omega) (by omega) (by simp; omega) ?_; intro v' w3 hown' hgrow _)
   have hB3 := Below.grown (hB.alloc sB (.cells #[.int .i64 x.rune] 3)) hgrow (by simp; omega) (fun j hj => (hown.lt j hj).1)
   go_roundw
   case rel => exact ⟨k + 1, by go_num, by omega, by rw [HTK.out]; exact hown', hB3⟩
   case measure => simp [intOf]; omega
  ·obtain rfl : k = S.length := by omega
   rw [List.take_length] at hown
   go_wp2
   go_ret
   exact ⟨_, rfl, by rw [HRL.out, List.length_map]; exact row_low hown s1, b1.trans (hB.mono s1)⟩
end Go.Proofs.YtlkgnheccoodpaaGreatDoor
namespace Go.Proofs.YtlkgnheccoodpaaGreatDoor
open Go.RowKit Go.Shelf
attribute [local go_sem] Oper.semAt_some
theorem rclF_fr (R : Nat → Int) (A : Nat → Nat) (n : Nat) : ∀ b fr, ∀ c ∈ rclF R A n b fr, ∃ k : Nat, c.fr = (k : Int) ∧ k < n
 | 0, _, c, h => by simp [rclF] at h
 | b + 1, fr, c, h => by
  unfold rclF at h
  split at h
  ·rcases List.mem_cons.1 h with rfl | h
   ·exact ⟨fr, rfl, by assumption⟩
   ·exact rclF_fr R A n b _ c h
  ·simp at h
def pcOf (s : ByteArray) (c : Cl) : Pc := ⟨runeAt s c.fr.toNat, c.fr, c.to, c.cells⟩
def piecesL (s : ByteArray) : List Pc := (rcl s).map (pcOf s)
theorem flatPc_snoc (l : List Pc) (x : Pc) : flatPc (l ++ [x]) = flatPc l ++ [.int .i64 x.r, .int .i64 x.fr, .int .i64 x.tt, .int .i64 x.ce] := by simp [flatPc]
theorem infoPc : (Tryz.prog.info? 64).map (fun i => (i.zero, i.size, i.bytes)) = some (some (.agg #[.int .i64 0, .int .i64 0, .int .i64 0, .int .i64 0]), 4, 32) := by kernel_rfl
theorem flatC_get : ∀ (Q : List Cl) (i : Nat) (c : Cl), Q[i]? = some c → (flatC Q)[i * 5 + 2]? = some (.int .i64 c.fr) ∧ (flatC Q)[i * 5 + 3]? = some (.int .i64 c.to) ∧ (flatC Q)[i * 5 + 4]? = some (.int .i64 c.cells)
 | [], _, _, h => by simp at h
 | q :: l, 0, p, h => by
  obtain rfl : q = p := by simpa using h
  exact ⟨rfl, rfl, rfl⟩
 | q :: l, i + 1, p, h => by
  have h' : l[i]? = some p := by simpa using h
  obtain ⟨a, b, c⟩ := flatC_get l i p h'
  have e : ∀ j, (flatC (q :: l))[(i + 1) * 5 + j]? = (flatC l)[i * 5 + j]? := fun j => by
   show ([.int .i64 q.loc, .int .i64 q.len, .int .i64 q.fr, .int .i64 q.to, .int .i64 q.cells] ++ flatC l)[(i + 1) * 5 + j]? = _
   rw [List.getElem?_append_right (by simp; omega)]
   congr 1
   simp
   omega
  exact ⟨(e 2).trans a, (e 3).trans b, (e 4).trans c⟩
set_option maxRecDepth 100000 in
set_option maxHeartbeats 1000000 in
theorem pieces_walk (s : ByteArray) (hs : s.size ≤ 4096) (w : World) :
  Calls Tryz.prog 20 #[.string s] w fun e w' => ∃ v, e = .returned v ∧ w'.ownsRow w.heap.size 64 4 v (piecesL s).length (flatPc (piecesL s)) ∧ Below w.heap.size w w' := by
 have hmx : maxLen ≤ 9223372036854775807 := by decide
 obtain ⟨i0, hi, hz0, hz1, hz2⟩ := info_partsC infoPc
 have HA := hideW (rrunesT_any s (by omega))
 have HB := hideW (refClusters_any s (by omega))
 have hrl : (rcl s).length ≤ 1048576 := by rw [rcl_clusters]; have := clusters_length s; omega
 have HC := hideW (show ∀ c ∈ rcl s, ∃ k : Nat, c.fr = (k : Int) ∧ k < (sgs s).length from rclF_fr _ _ _ _ _)
 go_enter Tryz.func20, Tryz.ntmps20
 go_wp2_with fail
 refine (HA.out _).mono ?_
 rintro e w1 ⟨v1, rfl, o1, b1⟩
 obtain ⟨oa, ca, rfl⟩ : ∃ oa ca, v1 = .slice oa (runesT s).length ca := by
  rcases o1.2 with ⟨rfl, h0⟩ | ⟨g, cap, cur, rfl, _⟩
  ·exact ⟨none, 0, by rw [h0]⟩
  ·exact ⟨_, _, rfl⟩
 have H1 := hideW (And.intro o1 b1)
 clear o1 b1 HA
 go_wp2_with fail
 refine (HB.out _).mono ?_
 rintro e w2 ⟨v2, rfl, o2, b2⟩
 obtain ⟨ob, cb, rfl⟩ : ∃ oa ca, v2 = .slice oa (rcl s).length ca := by
  rcases o2.2 with ⟨rfl, h0⟩ | ⟨g, cap, cur, rfl, _⟩
  ·exact ⟨none, 0, by rw [h0]⟩
  ·exact ⟨_, _, rfl⟩
 have H2 := hideW (And.intro o2 b2)
 clear o2 b2 HB
 go_wp2
 have hpl : (piecesL s).length = (rcl s).length := by unfold piecesL; rw [List.length_map]
 have HPL := hideW hpl
 have HPA := hideW (show ∀ k c, (rcl s)[k]? = some c → (piecesL s)[k]? = some (pcOf s c) from fun k c h => by unfold piecesL; rw [List.getElem?_map, h]; rfl)
 clear hpl
 generalize hC : rcl s = C at *
 generalize hPQ : piecesL s = P at *
 have HPQ := hideW hPQ
 clear hPQ
 go_loopw [5, 6] (fun v i wr => ∃ k : Nat, i = .int .i64 k ∧ k ≤ C.length ∧ wr.ownsRow w2.heap.size 64 4 v k (flatPc (P.take k)) ∧ Below w2.heap.size w2 wr) (fun _ i _ => C.length - (intOf i).toNat)
 case atStart => exact ⟨0, by first | rfl | go_num, by omega, World.ownsRow_nil _ _ _ _, Below.refl _ _⟩
 case round =>
  obtain ⟨k, rfl, hk, hown, hB⟩ := hrel
  have sB := hB.size
  have e3 : IntKind.i64.wrap ((k : Int) + 1) = ((k + 1 : Nat) : Int) := by rw [show ((k + 1 : Nat) : Int) = (k : Int) + 1 by omega]; exact IntWalk.i64_in _ ⟨by omega, by omega⟩
  by_cases hkl : k < C.length
  ·obtain ⟨c, hc⟩ : ∃ c, C[k]? = some c := ⟨_, List.getElem?_eq_getElem hkl⟩
   obtain ⟨q, hq1, hq2⟩ := HC.out c (List.mem_of_getElem? hc)
   have hTK : P.take (k + 1) = P.take k ++ [pcOf s c] := by rw [List.take_add_one, HPA.out k c hc]; rfl
   obtain ⟨o1, b1⟩ := H1.out
   obtain ⟨o2, b2⟩ := H2.out
   have hrr := runesT_at s q hq2
   obtain ⟨g, rfl, hg, r0⟩ : ∃ g, oa = some ⟨g, 0, none⟩ ∧ g < w1.heap.size ∧ w1.cell? ⟨g, q, none⟩ = some (.int .i64 (runeAt s q)) := by
    rcases o1.2 with ⟨e, h0⟩ | ⟨g, cap, cur, e, hg, hh, _⟩
    ·have := (List.getElem?_eq_some_iff.1 hrr).1
     omega
    ·obtain ⟨rfl, rfl⟩ : oa = some ⟨g, 0, none⟩ ∧ ca = cap := by simpa using e
     refine ⟨g, rfl, (Array.getElem?_eq_some_iff.1 hh).1, ?_⟩
     have := row_cells o1 q (.int .i64 (runeAt s q)) (by unfold intT; rw [List.getElem?_map, hrr]; rfl)
     rw [addG] at this
     exact this
   obtain ⟨g2, rfl, hg2, c2, c3, c4⟩ : ∃ g, ob = some ⟨g, 0, none⟩ ∧ g < w2.heap.size ∧ w2.cell? ⟨g, k * 5 + 2, none⟩ = some (.int .i64 c.fr) ∧ w2.cell? ⟨g, k * 5 + 3, none⟩ = some (.int .i64 c.to) ∧ w2.cell? ⟨g, k * 5 + 4, none⟩ = some (.int .i64 c.cells) := by
    rcases o2.2 with ⟨e, h0⟩ | ⟨g, cap, cur, e, hg, hh, _⟩
    ·omega
    ·obtain ⟨rfl, rfl⟩ : ob = some ⟨g, 0, none⟩ ∧ cb = cap := by simpa using e
     obtain ⟨f2, f3, f4⟩ := flatC_get C k c hc
     have a2 := row_cells o2 _ _ f2
     have a3 := row_cells o2 _ _ f3
     have a4 := row_cells o2 _ _ f4
     rw [addG] at a2 a3 a4
     exact ⟨g, rfl, (Array.getElem?_eq_some_iff.1 hh).1, a2, a3, a4⟩
   have r0 := (hB.cell (p := ⟨g, q, none⟩) (by have := b2.size; show g < _; omega)).trans ((b2.cell (p := ⟨g, q, none⟩) hg).trans r0)
   have c2 := (hB.cell (p := ⟨g2, k * 5 + 2, none⟩) hg2).trans c2
   have c3 := (hB.cell (p := ⟨g2, k * 5 + 3, none⟩) hg2).trans c3
   have c4 := (hB.cell (p := ⟨g2, k * 5 + 4, none⟩) hg2).trans c4
   have hql : q < (runesT s).length := (List.getElem?_eq_some_iff.1 hrr).1
   have hz12 := b2.size
   have hp : pcOf s c = ⟨runeAt s q, q, c.to, c.cells⟩ := by unfold pcOf; rw [hq1, Int.toNat_natCast]
   rw [hq1] at c2
   have HTK : Hid (flatPc (P.take (k + 1)) = flatPc (P.take k) ++ [.int .i64 (runeAt s q), .int .i64 q, .int .i64 c.to, .int .i64 c.cells]) := by
    show _ = _
    rw [hTK, flatPc_snoc, hp]
   clear hTK hp hq1 hrr o1 o2 b1 b2 hc
   generalize runeAt s q = rr at *
   generalize (runesT s).length = rl at *
   generalize c.to = ct at *
   generalize c.cells = cc at *
   have t1 : (k : Int) < (C.length : Int) := by omega
   have t2 : (q : Int) < (rl : Int) := by omega
   have hne1 : u5.ownBlock ≠ some g := fun e => by have := (hown.lt _ e).1; omega
   have hne2 : u5.ownBlock ≠ some g2 := fun e => by have := (hown.lt _ e).1; omega
   have hgq : g < wr.heap.size := by omega
   have hgq2 : g2 < wr.heap.size := by omega
   have hnew := World.new_ne wr ⟨g, q, none⟩ r0
   have hnew2 := World.new_ne wr ⟨g2, k * 5 + 2, none⟩ c2
   have hnew3 := World.new_ne wr ⟨g2, k * 5 + 3, none⟩ c3
   have hnew4 := World.new_ne wr ⟨g2, k * 5 + 4, none⟩ c4
   have hfar := Below.heap_alloc wr (.cells #[.int .i64 rr, .int .i64 q, .int .i64 ct, .int .i64 cc] 64) g hgq
   have hfar2 := Below.heap_alloc wr (.cells #[.int .i64 rr, .int .i64 q, .int .i64 ct, .int .i64 cc] 64) g2 hgq2
   have hga9 : g < (wr.alloc (.cells #[.int .i64 rr, .int .i64 q, .int .i64 ct, .int .i64 cc] 64)).heap.size := by rw [World.size_alloc]; omega
   have hgb9 : g2 < (wr.alloc (.cells #[.int .i64 rr, .int .i64 q, .int .i64 ct, .int .i64 cc] 64)).heap.size := by rw [World.size_alloc]; omega
   go_wp2_with fail
   go_region_held3 (fun w' => w'.cell? ⟨g, q, none⟩ = some (.int .i64 rr) ∧ w'.cell? ⟨g2, k * 5 + 2, none⟩ = some (.int .i64 q) ∧ w'.cell? ⟨g2, k * 5 + 3, none⟩ = some (.int .i64 ct) ∧ w'.cell? ⟨g2, k * 5 + 4, none⟩ = some (.int .i64 cc))
    (first | go_keep | exact k5)
    (first | ((refine step_append_lies _ (by rfl) _ _ _ (by rfl) w2.heap.size 64 i0 _ 4 32 Tryz.underlying56 hi hz0 hz1 hz2 rfl (by omega) u5 k (flatPc (P.take k)) (by rfl) ((hown.alloc _).drew) ⟨wr.heap.size, 0, none⟩ 1 1 [.int .i64 rr, .int .i64 q, .int .i64 ct, .int .i64 cc] (by rfl) (by rfl) (World.news_of_block (cs := #[.int .i64 rr, .int .i64 q, .int .i64 ct, .int .i64 cc]) (t := 64) (fr := (0, 0)) (heap_alloc_new wr _)) (by simp [Value.oneCell']) (by omega) (by unfold maxLen; omega) (by omega) (by simp; omega) (wr.heap.size + 1) (by simp) ?_; intro gg cap w5 hown5 hgrow hat hlt; have ha5 : w5.heap[g]? = wr.heap[g]? := (hgrow.block g hga9 (Ne.symm hne1)).trans hfar; have hb5' : w5.heap[g2]? = wr.heap[g2]? := (hgrow.block g2 hgb9 (Ne.symm hne2)).trans hfar2; have k5 : w5.cell? ⟨g, q, none⟩ = some (.int .i64 rr) ∧ w5.cell? ⟨g2, k * 5 + 2, none⟩ = some (.int .i64 q) ∧ w5.cell? ⟨g2, k * 5 + 3, none⟩ = some (.int .i64 ct) ∧ w5.cell? ⟨g2, k * 5 + 4, none⟩ = some (.int .i64 cc) := ⟨(World.cell?_of_block ha5).trans r0, (World.cell?_of_block hb5').trans c2, (World.cell?_of_block hb5').trans c3, (World.cell?_of_block hb5').trans c4⟩; have hb5 : Below w2.heap.size w2 w5 := Below.grown ((hB.alloc (by omega) _).drew) hgrow (by show w2.heap.size ≤ (wr.alloc _).heap.size; rw [World.size_alloc]; omega) (fun j hj => (hown.lt _ hj).1))))
   all_goals
    have HF := hideW (And.intro hown5 hb5)
    clear hown5 hb5 hown hB r0 c2 c3 c4
    first | go_wp2 | skip
    go_roundw
    case rel => exact ⟨k + 1, by first | rfl | rw [e3] | go_num, by omega, by rw [HTK.out]; exact HF.out.1, HF.out.2⟩
    case measure => simp [intOf]; omega
  ·obtain rfl : k = C.length := by omega
   rw [← HPL.out, List.take_length] at hown
   have HF := hideW (And.intro hown hB)
   clear hown hB
   go_wp2
   go_ret
   obtain rfl := HPQ.out
   exact ⟨_, rfl, row_low HF.out.1 (Nat.le_trans H1.out.2.size H2.out.2.size), bupW (bupW H1.out.2 H2.out.2) HF.out.2⟩
end Go.Proofs.YtlkgnheccoodpaaGreatDoor
namespace Go.Proofs.YtlkgnheccoodpaaGreatDoor
theorem rclF_mem (R : Nat → Int) (A : Nat → Nat) (n : Nat) : ∀ b fr, ∀ c ∈ rclF R A n b fr, ∃ k : Nat, c.fr = (k : Int) ∧ c.loc = (A k : Int) ∧ k < n
 | 0, _, c, h => by simp [rclF] at h
 | b + 1, fr, c, h => by
  unfold rclF at h
  split at h
  ·rcases List.mem_cons.1 h with rfl | h
   ·exact ⟨fr, rfl, rfl, by assumption⟩
   ·exact rclF_mem R A n b _ c h
  ·simp at h
theorem rclF_head (R : Nat → Int) (A : Nat → Nat) (n : Nat) (b fr : Nat) (c : Cl) (h : (rclF R A n b fr)[0]? = some c) : c.fr = (fr : Int) := by
 cases b with
 | zero => simp [rclF] at h
 | succ b =>
  unfold rclF at h
  split at h
  ·have := h
   simp at this
   rw [← this]
  ·simp at h
theorem rclF_chain (R : Nat → Int) (A : Nat → Nat) (n : Nat) : ∀ b fr m c d, (rclF R A n b fr)[m]? = some c → (rclF R A n b fr)[m + 1]? = some d → c.to = d.fr
 | 0, _, _, _, _, h, _ => by simp [rclF] at h
 | b + 1, fr, m, c, d, h, h2 => by
  unfold rclF at h h2
  split at h
  ·rename_i hf
   rw [if_pos hf] at h2
   rw [List.getElem?_cons_succ] at h2
   cases m with
   | zero =>
    have e := rclF_head R A n b _ d h2
    simp at h
    rw [← h, e]
   | succ m =>
    rw [List.getElem?_cons_succ] at h
    exact rclF_chain R A n b _ m c d h h2
  ·simp at h
theorem piecesL_len (s : ByteArray) : (piecesL s).length = (clusters s).length := by unfold piecesL; rw [List.length_map, rcl_clusters]
theorem piecesL_at (s : ByteArray) (n : Nat) (c : Cl) (h : (clusters s)[n]? = some c) : (piecesL s)[n]? = some (pcOf s c) := by
 unfold piecesL
 rw [List.getElem?_map, rcl_clusters, h]
 rfl
theorem partsL_at (s : ByteArray) (n : Nat) (c : Cl) (h : (clusters s)[n]? = some c) : ∃ p : Pt, (partsL s)[n]? = some p ∧ Twin p (pcOf s c) ∧ p.sg = (endG ((clusters s).take n) (0, 0, 0)).2.1 := by
 have hn : n < (clusters s).length := (List.getElem?_eq_some_iff.1 h).1
 unfold partsL
 rw [clsL_lt s _ _ _ _ hn]
 have e : (partsR s)[n]? = some ⟨(endG ((clusters s).take n) (0, 0, 0)).1, (endG ((clusters s).take n) (0, 0, 0)).2.1, (endG ((clusters s).take n) (0, 0, 0)).2.2, 0, c.cells == 2⟩ := by
  unfold partsR
  rw [List.getElem?_append_left (by rw [partsG_len]; exact hn)]
  exact partsG_at2 _ _ _ _ h
 rw [e]
 refine ⟨_, rfl, ⟨?_, rfl⟩, rfl⟩
 have hg : (clusters s).getD n cl0 = c := by rw [List.getD, h]; rfl
 show classI (Utf8.decode s ((clusters s).getD n cl0).loc.toNat).1 = classI (runeAt s c.fr.toNat)
 rw [hg]
 have hm : c ∈ rcl s := by rw [rcl_clusters]; exact List.mem_of_getElem? h
 obtain ⟨k, h1, h2, h3⟩ := rclF_mem _ _ _ _ _ c hm
 rw [h1, h2, Int.toNat_natCast, Int.toNat_natCast, (at_next s k h3).2.1]
theorem partsL_end (s : ByteArray) : ∃ p : Pt, (partsL s)[(clusters s).length]? = some p ∧ p.cl = 6 ∧ p.sg = (endG (clusters s) (0, 0, 0)).2.1 := by
 unfold partsL
 rw [clsL_ge s _ _ _ _ (Nat.le_refl _)]
 unfold partsR
 rw [List.getElem?_append_right (by rw [partsG_len]; exact Nat.le_refl _), partsG_len, Nat.sub_self]
 exact ⟨_, rfl, rfl, rfl⟩
theorem endG_to (s : ByteArray) (n : Nat) (c : Cl) (h : (clusters s)[n]? = some c) : (endG ((clusters s).take (n + 1)) (0, 0, 0)).2.1 = c.to := by
 rw [List.take_add_one, h]
 show (endG (_ ++ [c]) _).2.1 = _
 rw [endG_snoc]
theorem chain_to (s : ByteArray) (n : Nat) (c d : Cl) (h : (clusters s)[n]? = some c) (h2 : (clusters s)[n + 1]? = some d) : c.to = d.fr := by
 rw [← rcl_clusters] at h h2
 exact rclF_chain _ _ _ _ _ n c d h h2
theorem dash_same {p : Pt} {x : Pc} (h : Twin p x) : dashB p = (!blankB x && !endsB x && !hyphB x) := by
 have a := cls_end x.r
 have b := cls_blank x
 have c := cls_dash x
 have ee : endsB x = (x.r == 10) := rfl
 rw [← ee] at a
 rw [← h.1] at a b c
 unfold dashB
 generalize endsB x = e1 at *
 generalize blankB x = e2 at *
 generalize hyphB x = e3 at *
 clear ee h
 cases e1 <;> cases e2 <;> cases e3 <;> simp_all
theorem kindL_same (s : ByteArray) (n : Nat) (h1 : 1 ≤ n) (hn : n ≤ (clusters s).length) : kindL (partsL s) n = kindRL (piecesL s) n := by
 obtain ⟨c, hc⟩ : ∃ c, (clusters s)[n - 1]? = some c := ⟨_, List.getElem?_eq_getElem (by omega)⟩
 obtain ⟨p, hp, tp, _⟩ := partsL_at s _ c hc
 have hx := piecesL_at s _ c hc
 unfold kindL kindRL
 rw [getD_at hp, getD_at hx, piecesL_len]
 by_cases hl : n < (clusters s).length
 ·rw [if_pos hl]
  obtain ⟨d, hd⟩ : ∃ d, (clusters s)[n]? = some d := ⟨_, List.getElem?_eq_getElem hl⟩
  obtain ⟨q, hq, tq, _⟩ := partsL_at s _ d hd
  obtain ⟨z, hz⟩ : ∃ z, (clusters s)[n - 2]? = some z := ⟨_, List.getElem?_eq_getElem (by omega)⟩
  obtain ⟨r, hr, tr, _⟩ := partsL_at s _ z hz
  rw [getD_at hq, getD_at (piecesL_at s _ d hd), getD_at (piecesL_at s _ z hz), hr]
  simp only
  rw [dash_same tr]
  exact kind_same tp tq _
 ·obtain rfl : n = (clusters s).length := by omega
  rw [if_neg hl]
  obtain ⟨q, hq, q6, _⟩ := partsL_end s
  rw [getD_at hq]
  have ex := cls_end (pcOf s c).r
  have ee : endsB (pcOf s c) = ((pcOf s c).r == 10) := rfl
  rw [← ee, ← tp.1] at ex
  unfold kindI
  by_cases h : p.cl = 1
  ·rw [if_pos h, if_pos (ex.1 h)]
  ·rw [if_neg h, if_pos (.inr (.inr q6)), if_neg (fun hh => h (ex.2 hh))]
theorem kindC_nonneg (a b c d e f g h i j : Bool) : 0 ≤ kindC a b c d e f g h i j := by
 unfold kindC
 repeat' split
 all_goals decide
theorem kindRL_nonneg (L : List Pc) (n : Nat) : 0 ≤ kindRL L n := by
 unfold kindRL
 split
 ·exact kindC_nonneg _ _ _ _ _ _ _ _ _ _
 ·split <;> decide
end Go.Proofs.YtlkgnheccoodpaaGreatDoor
namespace Go.Proofs.YtlkgnheccoodpaaGreatDoor
theorem w10 : widthI 10 = 0 ∧ ctlB 10 = true ∧ flagB 10 = false := ⟨by kernel_rfl, by kernel_rfl, by kernel_rfl⟩
theorem toF_ge (R : Nat → Int) (n fr : Nat) : ∀ f tt, tt ≤ toF R n fr f tt
 | 0, tt => Nat.le_refl _
 | f + 1, tt => by
  unfold toF
  split
  ·exact Nat.le_trans (Nat.le_succ _) (toF_ge R n fr f (tt + 1))
  ·exact Nat.le_refl _
theorem toF_le (R : Nat → Int) (n fr : Nat) : ∀ f tt, tt ≤ n → toF R n fr f tt ≤ n
 | 0, tt, h => h
 | f + 1, tt, h => by
  unfold toF
  split
  ·rename_i hc
   exact toF_le R n fr f (tt + 1) (by omega)
  ·exact h
theorem kindI_set (d : Bool) (x y : Pt) : (kindI d x y = 1 ↔ x.cl = 1) ∧ 0 ≤ kindI d x y ∧ kindI d x y ≤ 3 ∧ (kindI d x y ≠ 0 → kindI d x y ≠ 1 → y.cl ≠ 1 ∧ y.cl ≠ 2 ∧ y.cl ≠ 6) := by
 unfold kindI
 by_cases h1 : x.cl = 1
 ·rw [if_pos h1]
  exact ⟨⟨fun _ => h1, fun _ => rfl⟩, by decide, by decide, fun _ h => absurd rfl h⟩
 ·rw [if_neg h1]
  by_cases h2 : y.cl = 1 ∨ y.cl = 2 ∨ y.cl = 6
  ·rw [if_pos h2]
   exact ⟨⟨fun h => absurd h (by decide), fun h => absurd h h1⟩, by decide, by decide, fun h _ => absurd rfl h⟩
  ·rw [if_neg h2]
   have h3 : y.cl ≠ 1 ∧ y.cl ≠ 2 ∧ y.cl ≠ 6 := ⟨fun h => h2 (.inl h), fun h => h2 (.inr (.inl h)), fun h => h2 (.inr (.inr h))⟩
   split
   ·exact ⟨⟨fun h => absurd h (by decide), fun h => absurd h h1⟩, by decide, by decide, fun _ _ => h3⟩
   ·split
    ·exact ⟨⟨fun h => absurd h (by decide), fun h => absurd h h1⟩, by decide, by decide, fun _ _ => h3⟩
    ·split
     ·exact ⟨⟨fun h => absurd h (by decide), fun h => absurd h h1⟩, by decide, by decide, fun _ _ => h3⟩
     ·exact ⟨⟨fun h => absurd h (by decide), fun h => absurd h h1⟩, by decide, by decide, fun _ _ => h3⟩
end Go.Proofs.YtlkgnheccoodpaaGreatDoor
