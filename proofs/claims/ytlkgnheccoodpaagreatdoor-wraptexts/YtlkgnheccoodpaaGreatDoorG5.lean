import Derived.Maps.AppendAt
import Derived.Deep.RegionHeld3
import Derived.Deep.AppendLies
import Derived.Deep.Cut
import Derived.Deep.CutRange
import Derived.Deep.DeepCutAuto
import Derived.Deep.CutBlock
import Derived.Test.YtlkgnheccoodpaaGreatDoorGC
import Derived.Test.YtlkgnheccoodpaaGreatDoorGX
namespace Go.Proofs.YtlkgnheccoodpaaGreatDoor
open Go.RowKit
def sgF2 (s : ByteArray) : Nat → Nat → List (Nat × Nat)
 | 0, _ => []
 | b + 1, pos => if pos < s.size then (pos, (Utf8.decode s pos).1) :: sgF2 s b (pos + (Utf8.decode s pos).2) else []
def sgs (s : ByteArray) : List (Nat × Nat) := sgF2 s s.size 0
theorem sgF2_length (s : ByteArray) : ∀ b pos, (sgF2 s b pos).length = cntF s b pos
 | 0, _ => rfl
 | b + 1, pos => by
  unfold sgF2 cntF
  split
  ·rw [List.length_cons, sgF2_length s b]
  ·rfl
def runeV (l : List (Nat × Nat)) : List Value := l.map fun x => .int .i32 x.2
def placeV (l : List (Nat × Nat)) : List Value := l.map fun x => .int .i64 x.1
theorem infoI32 : (Tryz.prog.info? 21).map (fun i => (i.zero, i.size, i.bytes)) = some (some (.int .i32 0), 1, 4) := by kernel_rfl
theorem infoI64 : (Tryz.prog.info? 3).map (fun i => (i.zero, i.size, i.bytes)) = some (some (.int .i64 0), 1, 8) := by kernel_rfl
theorem rows_apart {W : World} {b1 b2 : Nat} {e1 e2 : TypeId} {s1 s2 n1 n2 : Nat} {v1 v2 : Value} {x1 x2 : List Value} (h1 : W.ownsRow b1 e1 s1 v1 n1 x1) (h2 : W.ownsRow b2 e2 s2 v2 n2 x2) (hne : e1 ≠ e2) : v1.ownBlock = none ∨ v1.ownBlock ≠ v2.ownBlock := by
 rcases h1.2 with ⟨rfl, _⟩ | ⟨g1, c1, u1, rfl, _, hg1, _⟩
 ·exact .inl rfl
 ·right
  rcases h2.2 with ⟨rfl, _⟩ | ⟨g2, c2, u2, rfl, _, hg2, _⟩
  ·simp [Value.ownBlock]
  ·intro e
   simp [Value.ownBlock] at e
   subst e
   rw [hg1] at hg2
   cases hg2
   exact hne rfl
theorem grownBy_iterC (W : World) (k : Nat) (s : ByteArray) (p : Nat) : W.grownBy (W.iterAt k s p) (some k) :=
 ⟨rfl, rfl, rfl, by rw [Lib.iterAt_size]; exact Nat.le_refl _, fun i _ hi => Lib.iterAt_other W k i s p (fun e => hi (by rw [e]))⟩
theorem not_block {W : World} {b e n k sz : Nat} {v : Value} {xs : List Value} (h : W.ownsRow b e sz v n xs) (hk : k < b) : v.ownBlock ≠ some k := fun q => by have := (h.lt k q).1; omega
set_option maxRecDepth 100000 in
set_option maxHeartbeats 4000000 in
theorem refSigns_any (s : ByteArray) (hs : s.size ≤ 1048576) (w : World) :
  Calls Tryz.prog 75 #[.string s] w fun e w' => ∃ v u, e = .returned (.tuple #[v, u]) ∧ w'.ownsRow w.heap.size 21 1 v (sgs s).length (runeV (sgs s)) ∧ w'.ownsRow w.heap.size 3 1 u ((sgs s).length + 1) (placeV (sgs s) ++ [.int .i64 s.size]) ∧ Below w.heap.size w w' := by
 obtain ⟨i0, hi, hz0, hz1, hz2⟩ := info_partsC infoI32
 obtain ⟨j0, hj, hy0, hy1, hy2⟩ := info_partsC infoI64
 go_enter Tryz.func75, Tryz.ntmps75
 go_wp2
 go_loopw [4, 5] (fun v u wr => ∃ (pre : List (Nat × Nat)) (pos b : Nat), Hid (pre ++ sgF2 s b pos = sgs s) ∧ s.size ≤ pos + b ∧ pre.length ≤ pos ∧ pos ≤ s.size ∧ wr.heap[w.heap.size]? = some (.stringIter s pos) ∧ wr.ownsRow (w.heap.size + 1) 21 1 v pre.length (runeV pre) ∧ wr.ownsRow (w.heap.size + 1) 3 1 u pre.length (placeV pre) ∧ Below w.heap.size w wr ∧ w.heap.size + 1 ≤ wr.heap.size)
  (fun _ _ wr => s.size - wr.iterPos w.heap.size)
 case atStart => exact ⟨[], 0, s.size, rfl, by omega, by simp, by omega, World.alloc_heap_new w _, World.ownsRow_nil _ _ _ _, World.ownsRow_nil _ _ _ _, (Below.refl _ w).alloc (Nat.le_refl _) _, by show w.heap.size + 1 ≤ (w.alloc _).heap.size; simp⟩
 case round =>
  obtain ⟨pre, pos, b, HS, hb, hlen, hps, hit, hv, hu, hB, hz⟩ := hrel
  by_cases hp : pos < s.size
  ·have hnx : ∀ ty, (Instr.next (.pointer (some ⟨w.heap.size, 0, none⟩)) true ty).run Tryz.prog wr = _ := fun ty => Lib.run_next_any_at wr w.heap.size s pos ty hit hp
   have hwd := Lib.decode_width_pos s pos hp
   have hfit := decode_fit s pos hp
   have hit2 := Lib.iterAt_heap wr w.heap.size s pos (pos + (Utf8.decode s pos).2) hit
   have hib := iterAt_below wr w.heap.size s (pos + (Utf8.decode s pos).2) w.heap.size (Nat.le_refl _)
   have hv2 := hv.kept (grownBy_iterC wr w.heap.size s (pos + (Utf8.decode s pos).2)) (.inr (not_block hv (by omega)))
   have hu2 := hu.kept (grownBy_iterC wr w.heap.size s (pos + (Utf8.decode s pos).2)) (.inr (not_block hu (by omega)))
   have hzz : w.heap.size + 1 ≤ (wr.iterAt w.heap.size s (pos + (Utf8.decode s pos).2)).heap.size := by rw [Lib.iterAt_size]; exact hz
   have hB2 := hB.trans hib
   have hms : s.size - (wr.iterAt w.heap.size s (pos + (Utf8.decode s pos).2)).iterPos w.heap.size < s.size - wr.iterPos w.heap.size := by rw [iterPos_of hit, iterPos_of hit2]; omega
   have NX : Hid (∃ b', (pre ++ [(pos, (Utf8.decode s pos).1)]) ++ sgF2 s b' (pos + (Utf8.decode s pos).2) = sgs s ∧ s.size ≤ pos + (Utf8.decode s pos).2 + b') := by
    cases b with
    | zero => omega
    | succ b =>
     refine ⟨b, ?_, by omega⟩
     have := HS.out
     rw [sgF2, if_pos hp] at this
     simpa using this
   have HM : Hid (∀ A : World, A.heap[w.heap.size]? = some (.stringIter s (pos + (Utf8.decode s pos).2)) → s.size - A.iterPos w.heap.size < s.size - wr.iterPos w.heap.size) := fun A h => by rw [iterPos_of hit, iterPos_of h]; omega
   clear HS hms hv hu hib
   generalize hq : pos + (Utf8.decode s pos).2 = q at *
   generalize hr : (Utf8.decode s pos).1 = r at *
   generalize wr.iterAt w.heap.size s q = W2 at *
   go_wp2_with (at_builtin; first | (refine wpList_append_own _ rfl _ _ 134 rfl (w.heap.size + 1) 21 i0 (.int .i32 0) 1 4 Tryz.underlying134 hi hz0 hz1 hz2 rfl (by decide) _ _ _ rfl (hv2.alloc _) ⟨W2.heap.size, 0, none⟩ 1 1 [.int .i32 r] rfl rfl (cell_one_new _ _ _) (fun x hx => by simp at hx; subst hx; rfl) (by unfold maxLen; omega) (by omega) (by simp; omega) ?_; intro v' w3 hown3 hgrow3 _; have hu3 := (hu2.alloc (.cells #[.int .i32 r] 21)).kept hgrow3 (rows_apart hu2 hv2 (by decide)); have hB3 := Below.grown (hB2.alloc hB2.size (.cells #[.int .i32 r] 21)) hgrow3 (by simp; omega) (fun k e => by have := (hv2.lt k e).1; omega); have hit3 : w3.heap[w.heap.size]? = some (.stringIter s q) := (hgrow3.block _ (by simp; omega) (fun e => not_block hv2 (by omega) e.symm)).trans ((Below.heap_alloc _ _ _ (by omega)).trans hit2); have hz3 := hgrow3.size; rw [World.size_alloc] at hz3) | (refine wpList_append_own _ rfl _ _ 58 rfl (w.heap.size + 1) 3 j0 (.int .i64 0) 1 8 Tryz.underlying58 hj hy0 hy1 hy2 rfl (by decide) _ _ _ rfl (hu3.alloc _) ⟨w3.heap.size, 0, none⟩ 1 1 [.int .i64 pos] rfl rfl (cell_one_new _ _ _) (fun x hx => by simp at hx; subst hx; rfl) (by unfold maxLen; omega) (by omega) (by simp; omega) ?_; intro u' w5 hown5 hgrow5 _; have hv5 := (hown3.alloc (.cells #[.int .i64 pos] 3)).kept hgrow5 (rows_apart hown3 hu3 (by decide)); have hB5 := Below.grown (hB3.alloc hB3.size (.cells #[.int .i64 pos] 3)) hgrow5 (by simp; omega) (fun k e => by have := (hu3.lt k e).1; omega); have hit5 : w5.heap[w.heap.size]? = some (.stringIter s q) := (hgrow5.block _ (by simp; omega) (fun e => not_block hu3 (by omega) e.symm)).trans ((Below.heap_alloc _ _ _ (by omega)).trans hit3); have hz5 := hgrow5.size; rw [World.size_alloc] at hz5))
   obtain ⟨b', e1, e2⟩ := NX.out
   go_roundw
   case rel => exact ⟨pre ++ [(pos, r)], q, b', e1, e2, by simp; omega, by omega, hit5, by rw [List.length_append]; simpa [runeV] using hv5, by rw [List.length_append]; simpa [placeV] using hown5, hB5, by omega⟩
   case measure => exact HM.out _ hit5
  ·have hnx : ∀ ty, (Instr.next (.pointer (some ⟨w.heap.size, 0, none⟩)) true ty).run Tryz.prog wr = _ := fun ty => Lib.run_next_end_at wr w.heap.size s pos ty hit hp
   have hfin : pre = sgs s := by
    have := HS.out
    have e : sgF2 s b pos = [] := by cases b <;> simp [sgF2, hp]
    rw [e, List.append_nil] at this
    exact this
   subst hfin
   clear HS
   have hcl : (sgs s).length ≤ 1048576 := by omega
   go_wp2_with (at_builtin; refine wpList_append_own _ rfl _ _ 58 rfl (w.heap.size + 1) 3 j0 (.int .i64 0) 1 8 Tryz.underlying58 hj hy0 hy1 hy2 rfl (by decide) _ _ _ rfl (hu.alloc _) ⟨wr.heap.size, 0, none⟩ 1 1 [.int .i64 s.size] rfl rfl (cell_one_new _ _ _) (fun x hx => by simp at hx; subst hx; rfl) (by unfold maxLen; omega) (by omega) (by simp; omega) ?_; intro u' w5 hown5 hgrow5 _; have hv5 := (hv.alloc (.cells #[.int .i64 s.size] 3)).kept hgrow5 (rows_apart hv hu (by decide)); have hB5 := Below.grown (hB.alloc hB.size (.cells #[.int .i64 s.size] 3)) hgrow5 (by simp; omega) (fun k e => by have := (hu.lt k e).1; omega))
   exact bodyPost_ret (v := .tuple #[u4, u']) (by simp [results, Tryz.results75, go_sem]) rfl ⟨u4, u', rfl, ownsRow_from hv5 (by omega), ownsRow_from hown5 (by omega), hB5⟩
end Go.Proofs.YtlkgnheccoodpaaGreatDoor
namespace Go.Proofs.YtlkgnheccoodpaaGreatDoor
open Go.RowKit
def toF (R : Nat → Int) (n fr : Nat) : Nat → Nat → Nat
 | 0, tt => tt
 | f + 1, tt => if tt < n ∧ joinB (R fr) (R (tt - 1)) (R tt) (tt == fr + 1) = true then toF R n fr f (tt + 1) else tt
def rclF (R : Nat → Int) (A : Nat → Nat) (n : Nat) : Nat → Nat → List Cl
 | 0, _ => []
 | f + 1, fr => if fr < n then ⟨A fr, (A (toF R n fr n (fr + 1)) : Int) - A fr, fr, toF R n fr n (fr + 1), cellsR R fr (toF R n fr n (fr + 1))⟩ :: rclF R A n f (toF R n fr n (fr + 1)) else []
def runeAt (s : ByteArray) (i : Nat) : Int := ((sgs s).getD i (0, 0)).2
def placeAt (s : ByteArray) (i : Nat) : Nat := if i < (sgs s).length then ((sgs s).getD i (0, 0)).1 else s.size
def rcl (s : ByteArray) : List Cl := rclF (runeAt s) (placeAt s) (sgs s).length (sgs s).length 0
theorem infoRc : (Tryz.prog.info? 92).map (fun i => (i.zero, i.size, i.bytes)) = some (some (.agg #[.int .i64 0, .int .i64 0, .int .i64 0, .int .i64 0, .int .i64 0]), 5, 40) := by kernel_rfl
theorem rowCells {W : World} {b e n : Nat} {v : Value} {xs : List Value} (h : W.ownsRow b e 1 v n xs) (hn : 0 < n) : ∃ g cap, v = .slice (some ⟨g, 0, none⟩) n cap ∧ g < W.heap.size ∧ n ≤ cap ∧ cap ≤ 9223372036854775807 ∧ ∀ (i : Nat) (x : Value), xs[i]? = some x → W.cell? ⟨g, i, none⟩ = some x := by
 rcases h.2 with ⟨_, h2⟩ | ⟨g, cap, cur, rfl, hb, hg, h3, h4, h5, h6⟩
 ·omega
 ·unfold maxLen at h4
  refine ⟨g, cap, rfl, (Array.getElem?_eq_some_iff.1 hg).1, h3, by omega, fun i x hx => ?_⟩
  have hi : i < xs.length := (List.getElem?_eq_some_iff.1 hx).1
  have hl := h.1
  rw [← h6, List.getElem?_take, if_pos (by omega)] at hx
  simp [World.cell?, hg]
  simpa using hx
theorem sgF2_lt (s : ByteArray) : ∀ b pos, ∀ x ∈ sgF2 s b pos, x.1 < s.size
 | 0, _, x, h => by simp [sgF2] at h
 | b + 1, pos, x, h => by
  unfold sgF2 at h
  split at h
  ·rcases List.mem_cons.1 h with rfl | h
   ·assumption
   ·exact sgF2_lt s b _ x h
  ·simp at h
theorem placeAt_le (s : ByteArray) (i : Nat) : placeAt s i ≤ s.size := by
 unfold placeAt
 split
 ·rename_i h
  have : (sgs s).getD i (0, 0) ∈ sgs s := by
   rw [List.getD, List.getElem?_eq_getElem h]
   exact List.getElem_mem h
  exact Nat.le_of_lt (sgF2_lt s _ _ _ this)
 ·exact Nat.le_refl _
theorem toF_bd (R : Nat → Int) (n fr : Nat) : ∀ f tt, tt ≤ n → tt ≤ toF R n fr f tt ∧ toF R n fr f tt ≤ n
 | 0, tt, h => ⟨Nat.le_refl _, h⟩
 | f + 1, tt, h => by
  unfold toF
  split
  ·rename_i hc
   have := toF_bd R n fr f (tt + 1) (by omega)
   omega
  ·exact ⟨Nat.le_refl _, h⟩
set_option maxRecDepth 100000 in
set_option maxHeartbeats 4000000 in
theorem refClusters_any (s : ByteArray) (hs : s.size ≤ 1048576) (w : World) :
  Calls Tryz.prog 44 #[.string s] w fun e w' => ∃ v, e = .returned v ∧ w'.ownsRow w.heap.size 92 5 v (rcl s).length (flatC (rcl s)) ∧ Below w.heap.size w w' := by
 have hn : (sgs s).length ≤ s.size := by
  have h1 := sgF2_length s s.size 0
  have h2 := cntF_le s s.size 0
  unfold sgs
  omega
 have HRS := hideC (refSigns_any s hs)
 generalize hnn : (sgs s).length = n at *
 by_cases h0 : n = 0
 ·have hrc : rcl s = [] := by unfold rcl; rw [hnn, h0]; rfl
  rw [hrc]
  subst h0
  go_enter Tryz.func44, Tryz.ntmps44
  go_wp2_with fail
  refine (HRS.out _).mono ?_
  rintro e w1 ⟨v, u, rfl, hv, hu, hb1⟩
  have hvl : ∃ b c, v = .slice b 0 c := by
   rcases hv.2 with ⟨rfl, _⟩ | ⟨g, cap, cur, rfl, _⟩
   ·exact ⟨_, _, rfl⟩
   ·exact ⟨_, _, rfl⟩
  obtain ⟨bb, cc, rfl⟩ := hvl
  clear hv hu
  go_wp2
  go_loopw [5, 6] (fun o f wr => o = .slice none 0 0 ∧ f = .int .i64 0 ∧ w1 = wr) (fun _ _ _ => 0)
  case atStart => exact ⟨rfl, by first | rfl | go_num, rfl⟩
  case round =>
   obtain ⟨rfl, rfl, rfl⟩ := hrel
   go_wp2
   go_ret
   exact ⟨_, rfl, World.ownsRow_nil _ _ _ _, hb1⟩
 ·go_enter Tryz.func44, Tryz.ntmps44
  go_wp2_with fail
  refine (HRS.out _).mono ?_
  rintro e w1 ⟨v, u, rfl, hv, hu, hb1⟩
  obtain ⟨gl, cl, rfl, hgl, hl1, hl2, hl3⟩ := rowCells hv (by omega)
  obtain ⟨ga, ca, rfl, hga, ha1, ha2, ha3⟩ := rowCells hu (by omega)
  have hR : RunesAt w1 gl n (runeAt s) := fun i hi => by
   refine hl3 i _ ?_
   unfold runeV runeAt
   rw [List.getElem?_map, List.getElem?_eq_getElem (by omega)]
   simp [List.getD, List.getElem?_eq_getElem (show i < (sgs s).length by omega)]
  have hPl : ∀ i, i ≤ n → w1.cell? ⟨ga, i, none⟩ = some (.int .i64 (placeAt s i)) := fun i hi => by
   refine ha3 i _ ?_
   unfold placeV placeAt
   by_cases h : i < n
   ·rw [List.getElem?_append_left (by simp; omega), List.getElem?_map, List.getElem?_eq_getElem (by omega), if_pos (by omega)]
    simp [List.getD, List.getElem?_eq_getElem (show i < (sgs s).length by omega)]
   ·obtain rfl : i = n := by omega
    rw [if_neg (by omega), List.getElem?_append_right (by simp; omega)]
    simp [hnn]
  clear hl3 ha3 hv hu
  obtain ⟨i0, hi, hz0, hz1, hz2⟩ := info_partsC infoRc
  go_wp2
  go_loopw [5, 6] (fun o f wr => ∃ (pre : List Cl) (fr b : Nat), Hid (pre ++ rclF (runeAt s) (placeAt s) n b fr = rcl s) ∧ n ≤ fr + b ∧ fr ≤ n ∧ pre.length ≤ fr ∧ f = .int .i64 fr ∧ wr.ownsRow w1.heap.size 92 5 o pre.length (flatC pre) ∧ Below w1.heap.size w1 wr) (fun _ f _ => n - (intOf f).toNat)
  case atStart => exact ⟨[], 0, n, by show rclF _ _ _ _ _ = rcl s; rw [rcl, hnn], by omega, by omega, by simp, rfl, World.ownsRow_nil _ _ _ _, Below.refl _ _⟩
  case round =>
   obtain ⟨pre, fr, b, HS, hbn, hfn, hpl, rfl, hown, hb⟩ := hrel
   have hz := hb.size
   by_cases hf : fr < n
   ·obtain ⟨wq, rfl⟩ : ∃ wq, wq = wr := ⟨_, rfl⟩
    have hRq : RunesAt wq gl n (runeAt s) := fun i h => (hb.cell (p := ⟨gl, i, none⟩) hgl).trans (hR i h)
    obtain ⟨T, hTT⟩ : ∃ T, toF (runeAt s) n fr n (fr + 1) = T := ⟨_, rfl⟩
    have hTb := toF_bd (runeAt s) n fr n (fr + 1) (by omega)
    rw [hTT] at hTb
    go_upto_block 2 with fail
    go_cut [7] (fun o wx => o = .int .i64 T ∧ wq = wx)
    case first =>
     go_wp2_with fail
     go_loopw [7] (fun o wr => ∃ (k f : Nat), o = .int .i64 k ∧ fr + 1 ≤ k ∧ k ≤ n ∧ Hid (toF (runeAt s) n fr f k = T ∧ n ≤ k + f) ∧ wq = wr) (fun o _ => n - (intOf o).toNat)
     case atStart => exact ⟨fr + 1, n, by go_num, by omega, by omega, ⟨hTT, by omega⟩, rfl⟩
     case round =>
      obtain ⟨k, f, rfl, hk1, hk2, HT, rfl⟩ := hrel
      by_cases hkn : k < n
      ·have c0 := hRq fr (by omega)
       have c1 := hRq k hkn
       have c2 := hRq (k - 1) (by omega)
       have HJ := hideC (joins_any gl n cl fr k _ _ _ _ (by omega) hkn (by omega) (by omega) c0 c1 c2)
       cases hj : joinB (runeAt s fr) (runeAt s (k - 1)) (runeAt s k) (k == fr + 1)
       ·rw [hj] at HJ
        have hkT : k = T := by
         have := HT.out.1
         cases f with
         | zero => exact this
         | succ f => rw [toF, if_neg (by rw [hj]; simp)] at this; exact this
        subst hkT
        clear HT
        go_wp2_with fail
        refine HJ.out.mono ?_
        rintro e wx ⟨rfl, hwx⟩
        obtain rfl := hwx.symm
        go_wp2_with fail
        go_meet
        case rel => exact ⟨rfl, rfl⟩
       ·rw [hj] at HJ
        have HT2 : Hid (∃ f', toF (runeAt s) n fr f' (k + 1) = T ∧ n ≤ k + 1 + f') := by
         obtain ⟨e1, e2⟩ := HT.out
         cases f with
         | zero => omega
         | succ f => exact ⟨f, by rw [toF, if_pos ⟨hkn, hj⟩] at e1; exact e1, by omega⟩
        go_wp2_with fail
        refine HJ.out.mono ?_
        rintro e wx ⟨rfl, hwx⟩
        obtain rfl := hwx.symm
        go_wp2
        obtain ⟨f', e1, e2⟩ := HT2.out
        go_roundw
        case rel => exact ⟨k + 1, f', by go_num, by omega, by omega, ⟨e1, e2⟩, by first | rfl | trivial⟩
        case measure => simp [intOf]; omega
      ·have hkT : k = T := by
        have := HT.out.1
        cases f with
        | zero => exact this
        | succ f => rw [toF, if_neg (by omega)] at this; exact this
       subst hkT
       clear HT
       go_wp2_with fail
       go_meet
       case rel => exact ⟨rfl, rfl⟩
    case rest =>
     obtain ⟨rfl, rfl⟩ := hcut
     go_upto_region 8 with fail
     have ef := (hb.cell (p := ⟨ga, fr, none⟩) hga).trans (hPl fr (by omega))
     have et := (hb.cell (p := ⟨ga, T, none⟩) hga).trans (hPl T (by omega))
     have hp1 := placeAt_le s fr
     have hp2 := placeAt_le s T
     have HC := hideC (fun W h => cells_any gl n cl fr T (runeAt s) W (by omega) (by omega) (by omega) h)
     have hRd : RunesAt wq.drew gl n (runeAt s) := hRq
     have hwr : IntKind.i64.wrap ((placeAt s T : Int) - placeAt s fr) = (placeAt s T : Int) - placeAt s fr := IntWalk.i64_in _ ⟨by omega, by omega⟩
     have hne : u5.ownBlock ≠ some ga := fun e => by have := (hown.lt _ e).1; omega
     have i1 : (0 : Int) ≤ (fr : Int) := by omega
     have i2 : (fr : Int) < ((n + 1 : Nat) : Int) := by omega
     have i3 : (0 : Int) ≤ (T : Int) := by omega
     have i4 : (T : Int) < ((n + 1 : Nat) : Int) := by omega
     have i5 : (fr : Int) < (n : Int) + 1 := by omega
     have i6 : (T : Int) < (n : Int) + 1 := by omega
     have hgaq : ga < wq.heap.size := by omega
     have hnew := World.new_ne wq ⟨ga, fr, none⟩ ef
     have hnew2 := World.new_ne wq ⟨ga, T, none⟩ et
     generalize hcc : cellsR (runeAt s) fr T = cc at *
     have hfar := Below.heap_alloc wq (.cells #[.int .i64 (placeAt s fr), .int .i64 ((placeAt s T : Int) - placeAt s fr), .int .i64 fr, .int .i64 T, .int .i64 cc] 92) ga hgaq
     have hga9 : ga < (wq.alloc (.cells #[.int .i64 (placeAt s fr), .int .i64 ((placeAt s T : Int) - placeAt s fr), .int .i64 fr, .int .i64 T, .int .i64 cc] 92)).heap.size := by rw [World.size_alloc]; omega
     go_cut [5] (fun o wx => ∃ gg cap, o = .slice (some ⟨gg, 0, none⟩) (pre.length + 1) cap ∧ wx.ownsRow w1.heap.size 92 5 o (pre.length + 1) (flatC pre ++ [.int .i64 (placeAt s fr), .int .i64 ((placeAt s T : Int) - placeAt s fr), .int .i64 fr, .int .i64 T, .int .i64 cc]) ∧ Below w1.heap.size w1 wx)
     case first =>
      go_region_held3 (fun w' => w'.cell? ⟨ga, fr, none⟩ = some (.int .i64 (placeAt s fr)) ∧ w'.cell? ⟨ga, T, none⟩ = some (.int .i64 (placeAt s T)))
       (first | go_keep | exact ⟨k5, k6⟩)
       (first | (go_at_call 77; refine (HC.out _ hRd).mono ?_; rintro e wy ⟨rfl, hwy⟩; obtain rfl := hwy.symm) | ((refine step_append_lies _ (by rfl) _ _ _ (by rfl) w1.heap.size 92 i0 _ 5 40 Tryz.underlying89 hi hz0 hz1 hz2 rfl (by omega) u5 pre.length (flatC pre) (by rfl) ((hown.alloc _).drew) ⟨wq.heap.size, 0, none⟩ 1 1 [.int .i64 (placeAt s fr), .int .i64 ((placeAt s T : Int) - placeAt s fr), .int .i64 fr, .int .i64 T, .int .i64 cc] (by rfl) (by rfl) (World.news_of_block (cs := #[.int .i64 (placeAt s fr), .int .i64 ((placeAt s T : Int) - placeAt s fr), .int .i64 fr, .int .i64 T, .int .i64 cc]) (t := 92) (fr := (0, 0)) (heap_alloc_new wq _)) (by simp [Value.oneCell']) (by omega) (by unfold maxLen; omega) (by omega) (by simp; omega) (wq.heap.size + 1) (by simp) ?_; intro gg cap w5 hown5 hgrow hat hlt; have hga5 : w5.heap[ga]? = wq.heap[ga]? := (hgrow.block ga hga9 (Ne.symm hne)).trans hfar; have k5 : w5.cell? ⟨ga, fr, none⟩ = some (.int .i64 (placeAt s fr)) := (World.cell?_of_block hga5).trans ef; have k6 : w5.cell? ⟨ga, T, none⟩ = some (.int .i64 (placeAt s T)) := (World.cell?_of_block hga5).trans et; have hb5 : Below w1.heap.size w1 w5 := Below.grown ((hb.alloc (by omega) _).drew) hgrow (by show w1.heap.size ≤ (wq.alloc _).heap.size; rw [World.size_alloc]; omega) (fun j hj => (hown.lt _ hj).1))))
      all_goals first | go_wp2_with fail | skip
      all_goals go_meet
      all_goals exact ⟨gg, cap, rfl, hown5, hb5⟩
     case rest =>
      obtain ⟨gg, cap, rfl, hown5, hb5⟩ := hcut
      go_wp2
      obtain ⟨b', rfl⟩ : ∃ b', b = b' + 1 := ⟨b - 1, by omega⟩
      have hS2 : (pre ++ [⟨placeAt s fr, (placeAt s T : Int) - placeAt s fr, fr, T, cc⟩]) ++ rclF (runeAt s) (placeAt s) n b' T = rcl s := by
       have := HS.out
       rw [rclF, if_pos hf, hTT, hcc] at this
       rw [List.append_assoc]
       exact this
      refine ⟨⟨pre ++ [⟨placeAt s fr, (placeAt s T : Int) - placeAt s fr, fr, T, cc⟩], T, b', hideC hS2, by omega, hTb.2, by simp; omega, rfl, ?_, hb5⟩, by simp [intOf]; omega⟩
      rw [List.length_append, flatC_snoc]
      exact hown5
   ·obtain rfl : fr = n := by omega
    have hfin : pre = rcl s := by
     have := HS.out
     have e : rclF (runeAt s) (placeAt s) fr b fr = [] := by cases b <;> simp [rclF]
     rw [e, List.append_nil] at this
     exact this
    subst hfin
    go_wp2
    go_ret
    exact ⟨_, rfl, ownsRow_from hown hb1.size, hb1.trans (hb.mono hb1.size)⟩
end Go.Proofs.YtlkgnheccoodpaaGreatDoor
namespace Go.Proofs.YtlkgnheccoodpaaGreatDoor
open Go.RowKit
theorem takes_join (g : Gr) (r : Int) : g.takes r = joinB g.first g.last r (g.to - g.fr == 1) := by
 unfold Gr.takes joinB
 have hb := widthI_bd r
 by_cases h0 : widthI r = 0
 ·have hf : flagB r = false := by
   cases h : flagB r
   ·rfl
   ·have := flag_width r h; omega
  simp [h0, hf]
 ·by_cases h2 : widthI r = 2
  ·have hf : flagB r = false := by
    cases h : flagB r
    ·rfl
    ·have := flag_width r h; omega
   simp [h2, hf]
  ·rw [if_neg h0, if_neg h2]
   have e0 : (widthI r == 0) = false := by simpa using h0
   have e2 : (widthI r == 2) = false := by simpa using h2
   rw [e0, e2]
   cases flagB r <;> cases flagB g.first <;> simp
theorem cells_step (R : Nat → Int) (fr k : Nat) (h : fr < k) (hj : joinB (R fr) (R (k - 1)) (R k) (k == fr + 1) = true) :
  cellsR R fr (k + 1) = if (flagB (R k) || (R k == 65039 && symB (R fr))) = true then 2 else cellsR R fr k := by
 obtain ⟨d, rfl⟩ : ∃ d, k = fr + 1 + d := ⟨k - fr - 1, by omega⟩
 unfold cellsR
 have e1 : fr + 1 + d + 1 - fr - 1 = d + 1 := by omega
 have e2 : fr + 1 + d - fr - 1 = d := by omega
 rw [e1, e2, asksB]
 cases hf : flagB (R (fr + 1 + d))
 ·cases d with
  | zero =>
   have hf' : flagB (R (fr + 1)) = false := hf
   rw [hf']
   simp only [asksB, Bool.and_false, Bool.false_or, Bool.false_eq_true, if_false, Nat.add_zero]
   rw [Bool.and_comm]
  | succ d =>
   have h1 : decide (1 < fr + 1 + (d + 1) + 1 - fr) = true := decide_eq_true (by omega)
   have h2 : decide (1 < fr + 1 + (d + 1) - fr) = true := decide_eq_true (by omega)
   rw [h1, h2]
   cases flagB (R fr) <;> cases flagB (R (fr + 1)) <;> cases symB (R fr) <;> cases asksB R fr (d + 1) <;> cases (R (fr + 1 + (d + 1)) == 65039) <;> simp
 ·have hw := flag_width _ hf
  unfold joinB at hj
  simp [hw, hf] at hj
  obtain ⟨hd, hff⟩ := hj
  have hd0 : d = 0 := by omega
  subst hd0
  have h1 : decide (1 < fr + 1 + 0 + 1 - fr) = true := decide_eq_true (by omega)
  have hf' : flagB (R (fr + 1)) = true := hf
  rw [h1, hff, hf']
  simp
theorem sgF2_at (s : ByteArray) : ∀ b pos, s.size ≤ pos + b → pos ≤ s.size → ((sgF2 s b pos).length = 0 → pos = s.size) ∧ (0 < (sgF2 s b pos).length → ((sgF2 s b pos).getD 0 (0, 0)).1 = pos) ∧
  ∀ i, i < (sgF2 s b pos).length → ((sgF2 s b pos).getD i (0, 0)).1 < s.size ∧ ((sgF2 s b pos).getD i (0, 0)).2 = (Utf8.decode s ((sgF2 s b pos).getD i (0, 0)).1).1 ∧
   (if i + 1 < (sgF2 s b pos).length then ((sgF2 s b pos).getD (i + 1) (0, 0)).1 else s.size) = ((sgF2 s b pos).getD i (0, 0)).1 + (Utf8.decode s ((sgF2 s b pos).getD i (0, 0)).1).2
 | 0, pos, hb, hp => ⟨fun _ => by omega, fun h => by simp [sgF2] at h, fun i h => by simp [sgF2] at h⟩
 | b + 1, pos, hb, hp => by
  unfold sgF2
  by_cases h : pos < s.size
  ·rw [if_pos h]
   have hd := decode_fit s pos h
   have hw := Lib.decode_width_pos s pos h
   obtain ⟨i1, i2, i3⟩ := sgF2_at s b (pos + (Utf8.decode s pos).2) (by omega) (by omega)
   refine ⟨fun e => by simp at e, fun _ => by simp [List.getD], fun i hi => ?_⟩
   cases i with
   | zero =>
    refine ⟨by simpa [List.getD] using h, by simp [List.getD], ?_⟩
    rw [List.length_cons]
    have ez : ((pos, (Utf8.decode s pos).1) :: sgF2 s b (pos + (Utf8.decode s pos).2)).getD 0 (0, 0) = (pos, (Utf8.decode s pos).1) := rfl
    have es : ((pos, (Utf8.decode s pos).1) :: sgF2 s b (pos + (Utf8.decode s pos).2)).getD (0 + 1) (0, 0) = (sgF2 s b (pos + (Utf8.decode s pos).2)).getD 0 (0, 0) := rfl
    rw [ez, es]
    split
    ·rename_i hh
     exact i2 (by omega)
    ·rename_i hh
     exact (i1 (by omega)).symm
   | succ i =>
    rw [List.length_cons] at hi ⊢
    obtain ⟨a1, a2, a3⟩ := i3 i (by omega)
    have es : ∀ j, ((pos, (Utf8.decode s pos).1) :: sgF2 s b (pos + (Utf8.decode s pos).2)).getD (j + 1) (0, 0) = (sgF2 s b (pos + (Utf8.decode s pos).2)).getD j (0, 0) := fun _ => rfl
    rw [es, es]
    refine ⟨a1, a2, ?_⟩
    rw [← a3]
    by_cases hh : i + 1 < (sgF2 s b (pos + (Utf8.decode s pos).2)).length
    ·rw [if_pos hh, if_pos (by omega)]
    ·rw [if_neg hh, if_neg (by omega)]
  ·rw [if_neg h]
   exact ⟨fun _ => by omega, fun e => by simp at e, fun i e => by simp at e⟩
theorem at_next (s : ByteArray) (k : Nat) (hk : k < (sgs s).length) : placeAt s k < s.size ∧ runeAt s k = (Utf8.decode s (placeAt s k)).1 ∧ placeAt s (k + 1) = placeAt s k + (Utf8.decode s (placeAt s k)).2 := by
 obtain ⟨_, _, h3⟩ := sgF2_at s s.size 0 (by omega) (by omega)
 obtain ⟨a1, a2, a3⟩ := h3 k hk
 have e : placeAt s k = ((sgs s).getD k (0, 0)).1 := by unfold placeAt; rw [if_pos hk]
 refine ⟨by rw [e]; exact a1, ?_, ?_⟩
 ·rw [e]
  unfold runeAt
  exact congrArg Int.ofNat a2
 ·rw [e]
  unfold placeAt
  exact a3
theorem at_first (s : ByteArray) : placeAt s 0 = 0 := by
 obtain ⟨h1, h2, _⟩ := sgF2_at s s.size 0 (by omega) (by omega)
 unfold placeAt
 split
 ·rename_i h
  exact h2 h
 ·rename_i h
  exact (h1 (by unfold sgs at h; omega)).symm
theorem at_mono (s : ByteArray) (k : Nat) (h1 : 1 ≤ k) (hk : k ≤ (sgs s).length) : 0 < placeAt s k := by
 obtain ⟨j, rfl⟩ : ∃ j, k = j + 1 := ⟨k - 1, by omega⟩
 obtain ⟨a1, _, a3⟩ := at_next s j (by omega)
 have := Lib.decode_width_pos s (placeAt s j) a1
 omega
theorem at_last (s : ByteArray) : placeAt s (sgs s).length = s.size := by unfold placeAt; rw [if_neg (by omega)]
theorem rclF_done (R : Nat → Int) (A : Nat → Nat) (n : Nat) : ∀ b, rclF R A n b n = []
 | 0 => rfl
 | b + 1 => by unfold rclF; rw [if_neg (by omega)]
theorem clusF_rcl (s : ByteArray) : ∀ (m b f f' fr k : Nat) (g : Gr), (sgs s).length = k + m → m + 1 ≤ b → m ≤ f → m ≤ f' → fr < k → g.loc = placeAt s fr → g.fr = fr → g.to = k → g.cells = cellsR (runeAt s) fr k → g.first = runeAt s fr → g.last = runeAt s (k - 1) →
  clusF s b (placeAt s k) g = ⟨placeAt s fr, (placeAt s (toF (runeAt s) (sgs s).length fr f k) : Int) - placeAt s fr, fr, toF (runeAt s) (sgs s).length fr f k, cellsR (runeAt s) fr (toF (runeAt s) (sgs s).length fr f k)⟩ :: rclF (runeAt s) (placeAt s) (sgs s).length f' (toF (runeAt s) (sgs s).length fr f k) := by
 intro m
 induction m with
 | zero =>
  intro b f f' fr k g hn hb hf hf' hfr g1 g2 g3 g4 g5 g6
  obtain ⟨b, rfl⟩ : ∃ j, b = j + 1 := ⟨b - 1, by omega⟩
  have hk : k = (sgs s).length := by omega
  subst hk
  have hT : toF (runeAt s) (sgs s).length fr f (sgs s).length = (sgs s).length := by
   cases f with
   | zero => rfl
   | succ f => unfold toF; rw [if_neg (by omega)]
  rw [hT, rclF_done]
  have hp := at_mono s (sgs s).length (by omega) (by omega)
  rw [at_last] at hp ⊢
  unfold clusF
  rw [if_neg (by omega), if_neg (by omega)]
  unfold Gr.upTo
  rw [g1, g2, g3, g4]
 | succ m ih =>
  intro b f f' fr k g hn hb hf hf' hfr g1 g2 g3 g4 g5 g6
  obtain ⟨b, rfl⟩ : ∃ j, b = j + 1 := ⟨b - 1, by omega⟩
  obtain ⟨f, rfl⟩ : ∃ j, f = j + 1 := ⟨f - 1, by omega⟩
  obtain ⟨a1, a2, a3⟩ := at_next s k (by omega)
  have hp := at_mono s k (by omega) (by omega)
  have htk : g.takes (runeAt s k) = joinB (runeAt s fr) (runeAt s (k - 1)) (runeAt s k) (k == fr + 1) := by
   rw [takes_join, g5, g6, g2, g3]
   congr 1
   by_cases h : k = fr + 1
   ·subst h
    simp
    omega
   ·have e1 : (k == fr + 1) = false := by simpa using h
    have e2 : ((k : Int) - fr == 1) = false := by simp; omega
    rw [e1, e2]
  unfold clusF toF
  rw [if_pos a1, if_pos hp, ← a2, ← a3, htk]
  cases hj : joinB (runeAt s fr) (runeAt s (k - 1)) (runeAt s k) (k == fr + 1)
  ·rw [if_neg (by simp), if_neg (by simp)]
   obtain ⟨f', rfl⟩ : ∃ j, f' = j + 1 := ⟨f' - 1, by omega⟩
   rw [rclF, if_pos (by omega)]
   have h1 : g.upTo (placeAt s k) = ⟨placeAt s fr, (placeAt s k : Int) - placeAt s fr, fr, k, cellsR (runeAt s) fr k⟩ := by
    unfold Gr.upTo
    rw [g1, g2, g3, g4]
   rw [h1]
   congr 1
   refine ih b (sgs s).length f' k (k + 1) _ (by omega) (by omega) (by omega) (by omega) (by omega) rfl ?_ ?_ ?_ rfl ?_
   ·simp [Gr.begin, g3]
   ·simp [Gr.begin, g3]
   ·have e : k + 1 - k - 1 = 0 := by omega
    have e' : decide (1 < k + 1 - k) = false := decide_eq_false (by omega)
    simp [Gr.begin, cellsR, asksB]
   ·simp [Gr.begin]
  ·rw [if_pos rfl, if_pos ⟨by omega, rfl⟩]
   refine ih b f f' fr (k + 1) _ (by omega) (by omega) (by omega) (by omega) (by omega) ?_ ?_ ?_ ?_ ?_ ?_
   ·simpa [Gr.add] using g1
   ·simpa [Gr.add] using g2
   ·simp [Gr.add, g3]
   ·rw [cells_step _ _ _ hfr hj, ← g4, ← g5]
    rfl
   ·simpa [Gr.add] using g5
   ·simp [Gr.add]
theorem rcl_clusters (s : ByteArray) : rcl s = clusters s := by
 unfold rcl clusters
 by_cases h0 : (sgs s).length = 0
 ·rw [h0]
  have : s.size = 0 := by
   have := at_last s
   rw [h0, at_first] at this
   omega
  unfold clusF
  rw [if_neg (by omega), if_pos this]
  rfl
 ·obtain ⟨n, hn⟩ : ∃ n, (sgs s).length = n + 1 := ⟨(sgs s).length - 1, by omega⟩
  obtain ⟨a1, a2, a3⟩ := at_next s 0 (by omega)
  rw [at_first] at a1 a2 a3
  have hle : (sgs s).length ≤ s.size := by
   have h1 := sgF2_length s s.size 0
   have h2 := cntF_le s s.size 0
   unfold sgs
   omega
  unfold clusF
  rw [if_pos a1, if_neg (by omega), ← a2, ← a3]
  rw [clusF_rcl s n s.size (sgs s).length n 0 1 _ (by omega) (by omega) (by omega) (by omega) (by omega) (by simp [Gr.begin, at_first]) (by simp [Gr.begin, Gr.zero]) (by simp [Gr.begin, Gr.zero]) (by simp [Gr.begin, cellsR, asksB]) rfl rfl]
  conv => lhs; arg 4; rw [hn]
  rw [rclF, if_pos (by omega)]
end Go.Proofs.YtlkgnheccoodpaaGreatDoor
