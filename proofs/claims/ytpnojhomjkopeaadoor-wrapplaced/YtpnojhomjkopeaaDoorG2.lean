/- Several texts, one behind the other. -/
import Derived.OwnWalkIn
import Derived.Laws.OwnMore
import Derived.Test.YtpnojhomjkopeaaDoorG1
import Derived.Test.YtpnojhomjkopeaaDoorG5
import Derived.Test.YtpnojhomjkopeaaDoorGH
import Derived.Test.YtpnojhomjkopeaaDoorRS
import Derived.Test.YtpnojhomjkopeaaDoorWrP
import Derived.Test.YtpnojhomjkopeaaDoorWrU
/- The program's kind of a place is the reference's (chapter 10): over the classes. -/
namespace Go.Proofs.YtpnojhomjkopeaaDoor

theorem cls_end (r : Int) : (classI r = 1) ↔ (r == 10) = true := by
  unfold classI
  by_cases h : r = 10
  · simp [h]
  · rw [if_neg h]
    have : (r == 10) = false := by simp [h]
    rw [this]
    repeat' split
    all_goals simp
theorem blank_mem (r : Int) : r ∈ clsBlank ↔ (bl5.contains r || (decide (8192 ≤ r) && decide (r ≤ 8202) && r != 8199)) = true := by
  unfold clsBlank bl5
  simp
  omega
theorem cls_blank (x : Pc) : (classI x.r = 2) ↔ blankB x = true := by
  show _ ↔ (bl5.contains x.r || (decide (8192 ≤ x.r) && decide (x.r ≤ 8202) && x.r != 8199)) = true
  rw [← blank_mem]
  unfold classI
  by_cases h : x.r = 10
  · rw [if_pos h, h]
    simp [clsBlank]
  · rw [if_neg h]
    by_cases h2 : x.r ∈ clsBlank
    · simp [h2]
    · rw [if_neg h2]
      constructor
      · intro hh
        revert hh
        repeat' split
        all_goals simp
      · intro hh
        exact absurd hh h2
theorem cls_apart : (∀ r ∈ clsDash, r ≠ 10 ∧ r ∉ clsBlank) ∧ (∀ r ∈ clsOpen, r ≠ 10 ∧ r ∉ clsBlank ∧ r ∉ clsDash) ∧ (∀ r ∈ clsClose, r ≠ 10 ∧ r ∉ clsBlank ∧ r ∉ clsDash ∧ r ∉ clsOpen) := by decide
theorem cls_dash (x : Pc) : (classI x.r = 3) ↔ hyphB x = true := by
  show _ ↔ clsDash.contains x.r = true
  rw [List.contains_iff_mem]
  unfold classI
  by_cases h : x.r ∈ clsDash
  · obtain ⟨a, b⟩ := cls_apart.1 _ h
    rw [if_neg a, if_neg b, if_pos h]
    simp [h]
  · rw [if_neg (c := x.r ∈ clsDash) h]
    constructor
    · intro hh
      revert hh
      repeat' split
      all_goals simp
    · intro hh
      exact absurd hh h
theorem cls_open (x : Pc) : (classI x.r = 4) ↔ openB x = true := by
  show _ ↔ clsOpen.contains x.r = true
  rw [List.contains_iff_mem]
  unfold classI
  by_cases h : x.r ∈ clsOpen
  · obtain ⟨a, b, c⟩ := cls_apart.2.1 _ h
    rw [if_neg a, if_neg b, if_neg c, if_pos h]
    simp [h]
  · rw [if_neg (c := x.r ∈ clsOpen) h]
    constructor
    · intro hh
      revert hh
      repeat' split
      all_goals simp
    · intro hh
      exact absurd hh h
theorem cls_close (x : Pc) : (classI x.r = 5) ↔ closeB x = true := by
  show _ ↔ clsClose.contains x.r = true
  rw [List.contains_iff_mem]
  unfold classI
  by_cases h : x.r ∈ clsClose
  · obtain ⟨a, b, c, d⟩ := cls_apart.2.2 _ h
    rw [if_neg a, if_neg b, if_neg c, if_neg d, if_pos h]
    simp [h]
  · rw [if_neg (c := x.r ∈ clsClose) h]
    constructor
    · intro hh
      revert hh
      repeat' split
      all_goals simp
    · intro hh
      exact absurd hh h
theorem cls_six (r : Int) : classI r ≠ 6 := by
  unfold classI
  repeat' split
  all_goals simp
/-- A part and a piece of one cluster. -/
def Twin (p : Pt) (x : Pc) : Prop := p.cl = classI x.r ∧ p.wd = (x.ce == 2)
theorem kind_same {p q : Pt} {x y : Pc} (hp : Twin p x) (hq : Twin q y) (d : Bool) :
    kindI d p q = kindC (endsB x) (endsB y) (blankB x) (blankB y) (hyphB x) d (wideB x) (wideB y) (openB x) (closeB y) := by
  obtain ⟨hp1, hp2⟩ := hp
  obtain ⟨hq1, hq2⟩ := hq
  have ex := cls_end x.r
  have ey := cls_end y.r
  have bx := cls_blank x
  have b2 := cls_blank y
  have dx := cls_dash x
  have ox := cls_open x
  have cy := cls_close y
  have s6 := cls_six y.r
  have wx : wideB x = (x.ce == 2 && !blankB x) := rfl
  have wy : wideB y = (y.ce == 2 && !blankB y) := rfl
  have ee : endsB x = (x.r == 10) := rfl
  have ef : endsB y = (y.r == 10) := rfl
  rw [← ee] at ex
  rw [← ef] at ey
  rw [← hp1] at ex bx dx ox
  rw [← hq1] at ey b2 cy s6
  unfold kindI kindC
  rw [wx, wy, ← hp2, ← hq2]
  clear wx wy ee ef hp1 hq1 hp2 hq2
  generalize endsB x = e1 at *
  generalize endsB y = e2 at *
  generalize blankB x = b1 at *
  generalize blankB y = b3 at *
  generalize hyphB x = h1 at *
  generalize openB x = o1 at *
  generalize closeB y = c1 at *
  cases e1 <;> cases e2 <;> cases b1 <;> cases b3 <;> simp_all [and_assoc]

end Go.Proofs.YtpnojhomjkopeaaDoor

/- The reference's runes of a text (chapter 10's pieces). -/
namespace Go.Proofs.YtpnojhomjkopeaaDoor
open Go.RowKit

def intT (l : List Int) : List Value := l.map fun x => .int .i64 x
theorem infoI1 : (Tryd.prog.info? 3).map (fun i => (i.zero, i.size, i.bytes)) = some (some (.int .i64 0), 1, 8) := by kernel_rfl
theorem cell_oneT (w : World) (a : Value) (t : TypeId) : ∀ j u, [a][j]? = some u → (w.alloc (.cells #[a] t)).cell? ((⟨w.heap.size, 0, none⟩ : Addr).add j) = some u := by
  intro j u hj
  match j, hj with
  | 0, hj => simp at hj; subst hj; simp [Addr.add]
  | j + 1, hj => simp at hj
def runesT (s : ByteArray) : List Int := (signs s).map Sg.rune
theorem runesT_eq (s : ByteArray) : ∀ f p, (sgns s f p).map Sg.rune = (sgF2 s f p).map (fun x => (x.2 : Int))
  | 0, _ => rfl
  | f + 1, p => by
    unfold sgns sgF2
    by_cases h : p < s.size
    · rw [if_pos h, if_pos h, List.map_cons, List.map_cons, runesT_eq s f]
      obtain ⟨_, _, c, _⟩ := sgn_dec s p h
      rw [c]
    · rw [if_neg h, if_neg h]
      rfl
theorem runesT_at (s : ByteArray) (i : Nat) (h : i < (sgs s).length) : (runesT s)[i]? = some (runeAt s i) := by
  unfold runesT signs
  rw [runesT_eq, List.getElem?_map]
  show ((sgs s)[i]?).map _ = _
  unfold runeAt
  rw [List.getD, List.getElem?_eq_getElem h]
  rfl

set_option maxRecDepth 100000 in
set_option maxHeartbeats 2000000 in
theorem rrunesT_any (s : ByteArray) (hs : s.size ≤ 1048576) (w : World) :
    Calls Tryd.prog 42 #[.string s] w fun e w' => ∃ v, e = .returned v ∧ w'.ownsRow w.heap.size 3 1 v (runesT s).length (intT (runesT s)) ∧ Below w.heap.size w w' := by
  obtain ⟨i0, hi, hz0, hz1, hz2⟩ := info_parts2 infoI1
  have hln : (signs s).length ≤ 1048576 := Nat.le_trans (sgns_length s _ _) hs
  have HS := hideO (rsigns_any s hs w)
  have hrl : runesT s = (signs s).map Sg.rune := rfl
  generalize runesT s = RL at *
  generalize signs s = S at *
  have HRL := hideO hrl
  clear hrl
  go_enter Tryd.func42, Tryd.ntmps42
  go_wp2_with fail
  refine HS.out.mono ?_
  rintro r w1 ⟨v1, rfl, o1, b1⟩
  have s1 := b1.size
  obtain ⟨oa, ca, rfl, hca⟩ := rows_at o1
  have HCA := hideO hca
  clear o1 hca HS
  go_wp2
  go_loopw [4, 5] (fun v i wr => ∃ k : Nat, i = .int .i64 k ∧ k ≤ S.length ∧ wr.ownsRow w1.heap.size 3 1 v k (intT ((S.take k).map Sg.rune)) ∧ Below w1.heap.size w1 wr) (fun _ i _ => S.length - (intOf i).toNat)
  case atStart => exact ⟨0, rfl, by omega, World.ownsRow_nil _ _ _ _, Below.refl _ _⟩
  case round =>
    obtain ⟨k, rfl, hk, hown, hB⟩ := hrel
    have sB := hB.size
    by_cases hkl : k < S.length
    · obtain ⟨g, rfl, hg, _, hc⟩ := HCA.out k hkl
      obtain ⟨c0, c1, c2, c3⟩ := hc.below hB hg
      have hki : (k : Int) < (S.length : Int) := by omega
      have HTK : Hid (intT ((S.take (k + 1)).map Sg.rune) = intT ((S.take k).map Sg.rune) ++ [.int .i64 S[k].rune]) := by
        show _ = _
        rw [List.take_succ_eq_append_getElem hkl]
        unfold intT
        rw [List.map_append, List.map_append]
        rfl
      clear hc
      generalize S[k] = x at *
      go_wp2_with (at_builtin; refine wpList_append_own _ rfl _ _ 32 rfl w1.heap.size 3 i0 (.int .i64 0) 1 8 Tryd.underlying32 hi hz0 hz1 hz2 rfl (by decide) _ _ _ rfl (hown.alloc _) ⟨wr.heap.size, 0, none⟩ 1 1 [.int .i64 x.rune] rfl rfl (cell_oneT _ _ _) (fun u hu => by simp at hu; subst hu; rfl) (by unfold maxLen; omega) (by omega) (by simp; omega) ?_; intro v' w3 hown' hgrow _)
      have hB3 := Below.grown (hB.alloc sB (.cells #[.int .i64 x.rune] 3)) hgrow (by simp; omega) (fun j hj => (hown.lt j hj).1)
      go_roundw
      case rel => exact ⟨k + 1, by go_num, by omega, by rw [HTK.out]; exact hown', hB3⟩
      case measure => simp [intOf]; omega
    · obtain rfl : k = S.length := by omega
      rw [List.take_length] at hown
      go_wp2
      go_ret
      exact ⟨_, rfl, by rw [HRL.out, List.length_map]; exact row_low hown s1, b1.trans (hB.mono s1)⟩

end Go.Proofs.YtpnojhomjkopeaaDoor

/- The reference's pieces of a text (chapter 10). -/
namespace Go.Proofs.YtpnojhomjkopeaaDoor
open Go.RowKit Go.Shelf
attribute [local go_sem] Oper.semAt_some

theorem rclF_fr (R : Nat → Int) (A : Nat → Nat) (n : Nat) : ∀ b fr, ∀ c ∈ rclF R A n b fr, ∃ k : Nat, c.fr = (k : Int) ∧ k < n
  | 0, _, c, h => by simp [rclF] at h
  | b + 1, fr, c, h => by
    unfold rclF at h
    split at h
    · rcases List.mem_cons.1 h with rfl | h
      · exact ⟨fr, rfl, by assumption⟩
      · exact rclF_fr R A n b _ c h
    · simp at h
def pcOf (s : ByteArray) (c : Cl) : Pc := ⟨runeAt s c.fr.toNat, c.fr, c.to, c.cells⟩
def piecesL (s : ByteArray) : List Pc := (rcl s).map (pcOf s)
theorem flatPc_snoc (l : List Pc) (x : Pc) : flatPc (l ++ [x]) = flatPc l ++ [.int .i64 x.r, .int .i64 x.fr, .int .i64 x.tt, .int .i64 x.ce] := by simp [flatPc]
theorem cell_fourP (w : World) (a b c d : Value) (t : TypeId) : ∀ j u, [a, b, c, d][j]? = some u → (w.alloc (.cells #[a, b, c, d] t)).cell? ((⟨w.heap.size, 0, none⟩ : Addr).add j) = some u := cell_four2 w a b c d t
theorem infoPc : (Tryd.prog.info? 96).map (fun i => (i.zero, i.size, i.bytes)) = some (some (.agg #[.int .i64 0, .int .i64 0, .int .i64 0, .int .i64 0]), 4, 32) := by kernel_rfl
theorem flatC_get : ∀ (Q : List Cl) (i : Nat) (c : Cl), Q[i]? = some c → (flatC Q)[i * 5 + 2]? = some (.int .i64 c.fr) ∧ (flatC Q)[i * 5 + 3]? = some (.int .i64 c.to) ∧ (flatC Q)[i * 5 + 4]? = some (.int .i64 c.cells)
  | [], _, _, h => by simp at h
  | q :: l, 0, p, h => by
    obtain rfl : q = p := by simpa using h
    exact ⟨rfl, rfl, rfl⟩
  | q :: l, i + 1, p, h => by
    have h' : l[i]? = some p := by simpa using h
    obtain ⟨a, b, c⟩ := flatC_get l i p h'
    have e : ∀ j, (flatC (q :: l))[(i + 1) * 5 + j]? = (flatC l)[i * 5 + j]? := fun j => by
      show ([.int .i64 q.loc, .int .i64 q.len, .int .i64 q.fr, .int .i64 q.to, .int .i64 q.cells] ++ flatC l)[(i + 1) * 5 + j]? = _
      rw [List.getElem?_append_right (by simp; omega)]
      congr 1
      simp
      omega
    exact ⟨(e 2).trans a, (e 3).trans b, (e 4).trans c⟩

set_option maxRecDepth 100000 in
set_option maxHeartbeats 1000000 in
theorem pieces_walk (s : ByteArray) (hs : s.size ≤ 4096) (w : World) :
    Calls Tryd.prog 24 #[.string s] w fun e w' => ∃ v, e = .returned v ∧ w'.ownsRow w.heap.size 96 4 v (piecesL s).length (flatPc (piecesL s)) ∧ Below w.heap.size w w' := by
  have hmx : maxLen ≤ 9223372036854775807 := by decide
  obtain ⟨i0, hi, hz0, hz1, hz2⟩ := info_partsC infoPc
  have HA := hideW (rrunesT_any s (by omega))
  have HB := hideW (refClusters_any s (by omega))
  have hrl : (rcl s).length ≤ 1048576 := by rw [rcl_clusters]; have := clusters_length s; omega
  have HC := hideW (show ∀ c ∈ rcl s, ∃ k : Nat, c.fr = (k : Int) ∧ k < (sgs s).length from rclF_fr _ _ _ _ _)
  go_enter Tryd.func24, Tryd.ntmps24
  go_wp2_with fail
  refine (HA.out _).mono ?_
  rintro e w1 ⟨v1, rfl, o1, b1⟩
  obtain ⟨oa, ca, rfl⟩ : ∃ oa ca, v1 = .slice oa (runesT s).length ca := by
    rcases o1.2 with ⟨rfl, h0⟩ | ⟨g, cap, cur, rfl, _⟩
    · exact ⟨none, 0, by rw [h0]⟩
    · exact ⟨_, _, rfl⟩
  have H1 := hideW (And.intro o1 b1)
  clear o1 b1 HA
  go_wp2_with fail
  refine (HB.out _).mono ?_
  rintro e w2 ⟨v2, rfl, o2, b2⟩
  obtain ⟨ob, cb, rfl⟩ : ∃ oa ca, v2 = .slice oa (rcl s).length ca := by
    rcases o2.2 with ⟨rfl, h0⟩ | ⟨g, cap, cur, rfl, _⟩
    · exact ⟨none, 0, by rw [h0]⟩
    · exact ⟨_, _, rfl⟩
  have H2 := hideW (And.intro o2 b2)
  clear o2 b2 HB
  go_wp2
  have hpl : (piecesL s).length = (rcl s).length := by unfold piecesL; rw [List.length_map]
  have HPL := hideW hpl
  have HPA := hideW (show ∀ k c, (rcl s)[k]? = some c → (piecesL s)[k]? = some (pcOf s c) from fun k c h => by unfold piecesL; rw [List.getElem?_map, h]; rfl)
  clear hpl
  generalize hC : rcl s = C at *
  generalize hPQ : piecesL s = P at *
  have HPQ := hideW hPQ
  clear hPQ
  go_loopw [5, 6] (fun v i wr => ∃ k : Nat, i = .int .i64 k ∧ k ≤ C.length ∧ wr.ownsRow w2.heap.size 96 4 v k (flatPc (P.take k)) ∧ Below w2.heap.size w2 wr) (fun _ i _ => C.length - (intOf i).toNat)
  case atStart => exact ⟨0, by first | rfl | go_num, by omega, World.ownsRow_nil _ _ _ _, Below.refl _ _⟩
  case round =>
    obtain ⟨k, rfl, hk, hown, hB⟩ := hrel
    have sB := hB.size
    have e3 : IntKind.i64.wrap ((k : Int) + 1) = ((k + 1 : Nat) : Int) := by rw [show ((k + 1 : Nat) : Int) = (k : Int) + 1 by omega]; exact IntWalk.i64_in _ ⟨by omega, by omega⟩
    by_cases hkl : k < C.length
    · obtain ⟨c, hc⟩ : ∃ c, C[k]? = some c := ⟨_, List.getElem?_eq_getElem hkl⟩
      obtain ⟨q, hq1, hq2⟩ := HC.out c (List.mem_of_getElem? hc)
      have hTK : P.take (k + 1) = P.take k ++ [pcOf s c] := by rw [List.take_add_one, HPA.out k c hc]; rfl
      obtain ⟨o1, b1⟩ := H1.out
      obtain ⟨o2, b2⟩ := H2.out
      have hrr := runesT_at s q hq2
      obtain ⟨g, rfl, hg, r0⟩ : ∃ g, oa = some ⟨g, 0, none⟩ ∧ g < w1.heap.size ∧ w1.cell? ⟨g, q, none⟩ = some (.int .i64 (runeAt s q)) := by
        rcases o1.2 with ⟨e, h0⟩ | ⟨g, cap, cur, e, hg, hh, _⟩
        · have := (List.getElem?_eq_some_iff.1 hrr).1
          omega
        · obtain ⟨rfl, rfl⟩ : oa = some ⟨g, 0, none⟩ ∧ ca = cap := by simpa using e
          refine ⟨g, rfl, (Array.getElem?_eq_some_iff.1 hh).1, ?_⟩
          have := row_cells o1 q (.int .i64 (runeAt s q)) (by unfold intT; rw [List.getElem?_map, hrr]; rfl)
          rw [addG] at this
          exact this
      obtain ⟨g2, rfl, hg2, c2, c3, c4⟩ : ∃ g, ob = some ⟨g, 0, none⟩ ∧ g < w2.heap.size ∧ w2.cell? ⟨g, k * 5 + 2, none⟩ = some (.int .i64 c.fr) ∧ w2.cell? ⟨g, k * 5 + 3, none⟩ = some (.int .i64 c.to) ∧ w2.cell? ⟨g, k * 5 + 4, none⟩ = some (.int .i64 c.cells) := by
        rcases o2.2 with ⟨e, h0⟩ | ⟨g, cap, cur, e, hg, hh, _⟩
        · omega
        · obtain ⟨rfl, rfl⟩ : ob = some ⟨g, 0, none⟩ ∧ cb = cap := by simpa using e
          obtain ⟨f2, f3, f4⟩ := flatC_get C k c hc
          have a2 := row_cells o2 _ _ f2
          have a3 := row_cells o2 _ _ f3
          have a4 := row_cells o2 _ _ f4
          rw [addG] at a2 a3 a4
          exact ⟨g, rfl, (Array.getElem?_eq_some_iff.1 hh).1, a2, a3, a4⟩
      have r0 := (hB.cell (p := ⟨g, q, none⟩) (by have := b2.size; show g < _; omega)).trans ((b2.cell (p := ⟨g, q, none⟩) hg).trans r0)
      have c2 := (hB.cell (p := ⟨g2, k * 5 + 2, none⟩) hg2).trans c2
      have c3 := (hB.cell (p := ⟨g2, k * 5 + 3, none⟩) hg2).trans c3
      have c4 := (hB.cell (p := ⟨g2, k * 5 + 4, none⟩) hg2).trans c4
      have hql : q < (runesT s).length := (List.getElem?_eq_some_iff.1 hrr).1
      have hz12 := b2.size
      have hp : pcOf s c = ⟨runeAt s q, q, c.to, c.cells⟩ := by unfold pcOf; rw [hq1, Int.toNat_natCast]
      rw [hq1] at c2
      have HTK : Hid (flatPc (P.take (k + 1)) = flatPc (P.take k) ++ [.int .i64 (runeAt s q), .int .i64 q, .int .i64 c.to, .int .i64 c.cells]) := by
        show _ = _
        rw [hTK, flatPc_snoc, hp]
      clear hTK hp hq1 hrr o1 o2 b1 b2 hc
      generalize runeAt s q = rr at *
      generalize (runesT s).length = rl at *
      generalize c.to = ct at *
      generalize c.cells = cc at *
      have t1 : (k : Int) < (C.length : Int) := by omega
      have t2 : (q : Int) < (rl : Int) := by omega
      have hne1 : u5.ownBlock ≠ some g := fun e => by have := (hown.lt _ e).1; omega
      have hne2 : u5.ownBlock ≠ some g2 := fun e => by have := (hown.lt _ e).1; omega
      have hgq : g < wr.heap.size := by omega
      have hgq2 : g2 < wr.heap.size := by omega
      have hnew := World.new_ne wr ⟨g, q, none⟩ r0
      have hnew2 := World.new_ne wr ⟨g2, k * 5 + 2, none⟩ c2
      have hnew3 := World.new_ne wr ⟨g2, k * 5 + 3, none⟩ c3
      have hnew4 := World.new_ne wr ⟨g2, k * 5 + 4, none⟩ c4
      have hfar := Below.heap_alloc wr (.cells #[.int .i64 rr, .int .i64 q, .int .i64 ct, .int .i64 cc] 96) g hgq
      have hfar2 := Below.heap_alloc wr (.cells #[.int .i64 rr, .int .i64 q, .int .i64 ct, .int .i64 cc] 96) g2 hgq2
      have hga9 : g < (wr.alloc (.cells #[.int .i64 rr, .int .i64 q, .int .i64 ct, .int .i64 cc] 96)).heap.size := by rw [World.size_alloc]; omega
      have hgb9 : g2 < (wr.alloc (.cells #[.int .i64 rr, .int .i64 q, .int .i64 ct, .int .i64 cc] 96)).heap.size := by rw [World.size_alloc]; omega
      go_wp2_with fail
      go_region_held3 (fun w' => w'.cell? ⟨g, q, none⟩ = some (.int .i64 rr) ∧ w'.cell? ⟨g2, k * 5 + 2, none⟩ = some (.int .i64 q) ∧ w'.cell? ⟨g2, k * 5 + 3, none⟩ = some (.int .i64 ct) ∧ w'.cell? ⟨g2, k * 5 + 4, none⟩ = some (.int .i64 cc))
        (first | go_keep | exact k5)
        (first | ((refine step_append_lies _ (by rfl) _ _ _ (by rfl) w2.heap.size 96 i0 _ 4 32 Tryd.underlying59 hi hz0 hz1 hz2 rfl (by omega) u5 k (flatPc (P.take k)) (by rfl) ((hown.alloc _).drew) ⟨wr.heap.size, 0, none⟩ 1 1 [.int .i64 rr, .int .i64 q, .int .i64 ct, .int .i64 cc] (by rfl) (by rfl) (World.news_of_block (cs := #[.int .i64 rr, .int .i64 q, .int .i64 ct, .int .i64 cc]) (t := 96) (fr := (0, 0)) (heap_alloc_new wr _)) (by simp [Value.oneCell']) (by omega) (by unfold maxLen; omega) (by omega) (by simp; omega) (wr.heap.size + 1) (by simp) ?_; intro gg cap w5 hown5 hgrow hat hlt; have ha5 : w5.heap[g]? = wr.heap[g]? := (hgrow.block g hga9 (Ne.symm hne1)).trans hfar; have hb5' : w5.heap[g2]? = wr.heap[g2]? := (hgrow.block g2 hgb9 (Ne.symm hne2)).trans hfar2; have k5 : w5.cell? ⟨g, q, none⟩ = some (.int .i64 rr) ∧ w5.cell? ⟨g2, k * 5 + 2, none⟩ = some (.int .i64 q) ∧ w5.cell? ⟨g2, k * 5 + 3, none⟩ = some (.int .i64 ct) ∧ w5.cell? ⟨g2, k * 5 + 4, none⟩ = some (.int .i64 cc) := ⟨(World.cell?_of_block ha5).trans r0, (World.cell?_of_block hb5').trans c2, (World.cell?_of_block hb5').trans c3, (World.cell?_of_block hb5').trans c4⟩; have hb5 : Below w2.heap.size w2 w5 := Below.grown ((hB.alloc (by omega) _).drew) hgrow (by show w2.heap.size ≤ (wr.alloc _).heap.size; rw [World.size_alloc]; omega) (fun j hj => (hown.lt _ hj).1))))
      all_goals
        have HF := hideW (And.intro hown5 hb5)
        clear hown5 hb5 hown hB r0 c2 c3 c4
        first | go_wp2 | skip
        go_roundw
        case rel => exact ⟨k + 1, by first | rfl | rw [e3] | go_num, by omega, by rw [HTK.out]; exact HF.out.1, HF.out.2⟩
        case measure => simp [intOf]; omega
    · obtain rfl : k = C.length := by omega
      rw [← HPL.out, List.take_length] at hown
      have HF := hideW (And.intro hown hB)
      clear hown hB
      go_wp2
      go_ret
      obtain rfl := HPQ.out
      exact ⟨_, rfl, row_low HF.out.1 (Nat.le_trans H1.out.2.size H2.out.2.size), bupW (bupW H1.out.2 H2.out.2) HF.out.2⟩

end Go.Proofs.YtpnojhomjkopeaaDoor

/- Package wrap: the parts of a text, one by one. -/
namespace Go.Proofs.YtpnojhomjkopeaaDoor

theorem partsG_at2 : ∀ (l : List Cl) (e : Int × Int × Int) (n : Nat) (c : Cl), l[n]? = some c → (partsG l e)[n]? = some ⟨(endG (l.take n) e).1, (endG (l.take n) e).2.1, (endG (l.take n) e).2.2, 0, c.cells == 2⟩
  | [], _, _, _, h => by simp at h
  | x :: l, e, 0, c, h => by
    obtain rfl : x = c := by simpa using h
    rfl
  | x :: l, e, n + 1, c, h => by
    have h' : l[n]? = some c := by simpa using h
    show (partsG l _)[n]? = _
    rw [partsG_at2 l _ n c h']
    rfl
theorem clsL_lt (s : ByteArray) (C : List Cl) (Q : List Pt) : ∀ (m n : Nat), n < m → (clsL s C Q m)[n]? = (Q[n]?).map (fun p => { p with cl := classI (Utf8.decode s (C.getD n cl0).loc.toNat).1 })
  | 0, _, h => by omega
  | m + 1, n, h => by
    show ((clsL s C Q m).modify m _)[n]? = _
    rw [List.getElem?_modify]
    by_cases c : m = n
    · subst c
      rw [clsL_ge s C Q m m (Nat.le_refl _)]
      simp
    · rw [clsL_lt s C Q m n (by omega)]
      cases Q[n]? <;> simp [c]
theorem getD_at {α : Type} {l : List α} {n : Nat} {d x : α} (h : l[n]? = some x) : l.getD n d = x := by rw [List.getD, h]; rfl

end Go.Proofs.YtpnojhomjkopeaaDoor

/- The program's places are the reference's (chapter 10): over the clusters. -/
namespace Go.Proofs.YtpnojhomjkopeaaDoor

theorem rclF_mem (R : Nat → Int) (A : Nat → Nat) (n : Nat) : ∀ b fr, ∀ c ∈ rclF R A n b fr, ∃ k : Nat, c.fr = (k : Int) ∧ c.loc = (A k : Int) ∧ k < n
  | 0, _, c, h => by simp [rclF] at h
  | b + 1, fr, c, h => by
    unfold rclF at h
    split at h
    · rcases List.mem_cons.1 h with rfl | h
      · exact ⟨fr, rfl, rfl, by assumption⟩
      · exact rclF_mem R A n b _ c h
    · simp at h
theorem rclF_head (R : Nat → Int) (A : Nat → Nat) (n : Nat) (b fr : Nat) (c : Cl) (h : (rclF R A n b fr)[0]? = some c) : c.fr = (fr : Int) := by
  cases b with
  | zero => simp [rclF] at h
  | succ b =>
    unfold rclF at h
    split at h
    · have := h
      simp at this
      rw [← this]
    · simp at h
theorem rclF_chain (R : Nat → Int) (A : Nat → Nat) (n : Nat) : ∀ b fr m c d, (rclF R A n b fr)[m]? = some c → (rclF R A n b fr)[m + 1]? = some d → c.to = d.fr
  | 0, _, _, _, _, h, _ => by simp [rclF] at h
  | b + 1, fr, m, c, d, h, h2 => by
    unfold rclF at h h2
    split at h
    · rename_i hf
      rw [if_pos hf] at h2
      rw [List.getElem?_cons_succ] at h2
      cases m with
      | zero =>
        have e := rclF_head R A n b _ d h2
        simp at h
        rw [← h, e]
      | succ m =>
        rw [List.getElem?_cons_succ] at h
        exact rclF_chain R A n b _ m c d h h2
    · simp at h
theorem piecesL_len (s : ByteArray) : (piecesL s).length = (clusters s).length := by unfold piecesL; rw [List.length_map, rcl_clusters]
theorem piecesL_at (s : ByteArray) (n : Nat) (c : Cl) (h : (clusters s)[n]? = some c) : (piecesL s)[n]? = some (pcOf s c) := by
  unfold piecesL
  rw [List.getElem?_map, rcl_clusters, h]
  rfl
/-- The part ahead of the end. -/
theorem partsL_at (s : ByteArray) (n : Nat) (c : Cl) (h : (clusters s)[n]? = some c) : ∃ p : Pt, (partsL s)[n]? = some p ∧ Twin p (pcOf s c) ∧ p.sg = (endG ((clusters s).take n) (0, 0, 0)).2.1 := by
  have hn : n < (clusters s).length := (List.getElem?_eq_some_iff.1 h).1
  unfold partsL
  rw [clsL_lt s _ _ _ _ hn]
  have e : (partsR s)[n]? = some ⟨(endG ((clusters s).take n) (0, 0, 0)).1, (endG ((clusters s).take n) (0, 0, 0)).2.1, (endG ((clusters s).take n) (0, 0, 0)).2.2, 0, c.cells == 2⟩ := by
    unfold partsR
    rw [List.getElem?_append_left (by rw [partsG_len]; exact hn)]
    exact partsG_at2 _ _ _ _ h
  rw [e]
  refine ⟨_, rfl, ⟨?_, rfl⟩, rfl⟩
  have hg : (clusters s).getD n cl0 = c := by rw [List.getD, h]; rfl
  show classI (Utf8.decode s ((clusters s).getD n cl0).loc.toNat).1 = classI (runeAt s c.fr.toNat)
  rw [hg]
  have hm : c ∈ rcl s := by rw [rcl_clusters]; exact List.mem_of_getElem? h
  obtain ⟨k, h1, h2, h3⟩ := rclF_mem _ _ _ _ _ c hm
  rw [h1, h2, Int.toNat_natCast, Int.toNat_natCast, (at_next s k h3).2.1]
theorem partsL_end (s : ByteArray) : ∃ p : Pt, (partsL s)[(clusters s).length]? = some p ∧ p.cl = 6 ∧ p.sg = (endG (clusters s) (0, 0, 0)).2.1 := by
  unfold partsL
  rw [clsL_ge s _ _ _ _ (Nat.le_refl _)]
  unfold partsR
  rw [List.getElem?_append_right (by rw [partsG_len]; exact Nat.le_refl _), partsG_len, Nat.sub_self]
  exact ⟨_, rfl, rfl, rfl⟩
theorem endG_to (s : ByteArray) (n : Nat) (c : Cl) (h : (clusters s)[n]? = some c) : (endG ((clusters s).take (n + 1)) (0, 0, 0)).2.1 = c.to := by
  rw [List.take_add_one, h]
  show (endG (_ ++ [c]) _).2.1 = _
  rw [endG_snoc]
theorem chain_to (s : ByteArray) (n : Nat) (c d : Cl) (h : (clusters s)[n]? = some c) (h2 : (clusters s)[n + 1]? = some d) : c.to = d.fr := by
  rw [← rcl_clusters] at h h2
  exact rclF_chain _ _ _ _ _ n c d h h2
theorem dash_same {p : Pt} {x : Pc} (h : Twin p x) : dashB p = (!blankB x && !endsB x && !hyphB x) := by
  have a := cls_end x.r
  have b := cls_blank x
  have c := cls_dash x
  have ee : endsB x = (x.r == 10) := rfl
  rw [← ee] at a
  rw [← h.1] at a b c
  unfold dashB
  generalize endsB x = e1 at *
  generalize blankB x = e2 at *
  generalize hyphB x = e3 at *
  clear ee h
  cases e1 <;> cases e2 <;> cases e3 <;> simp_all
theorem kindL_same (s : ByteArray) (n : Nat) (h1 : 1 ≤ n) (hn : n ≤ (clusters s).length) : kindL (partsL s) n = kindRL (piecesL s) n := by
  obtain ⟨c, hc⟩ : ∃ c, (clusters s)[n - 1]? = some c := ⟨_, List.getElem?_eq_getElem (by omega)⟩
  obtain ⟨p, hp, tp, _⟩ := partsL_at s _ c hc
  have hx := piecesL_at s _ c hc
  unfold kindL kindRL
  rw [getD_at hp, getD_at hx, piecesL_len]
  by_cases hl : n < (clusters s).length
  · rw [if_pos hl]
    obtain ⟨d, hd⟩ : ∃ d, (clusters s)[n]? = some d := ⟨_, List.getElem?_eq_getElem hl⟩
    obtain ⟨q, hq, tq, _⟩ := partsL_at s _ d hd
    obtain ⟨z, hz⟩ : ∃ z, (clusters s)[n - 2]? = some z := ⟨_, List.getElem?_eq_getElem (by omega)⟩
    obtain ⟨r, hr, tr, _⟩ := partsL_at s _ z hz
    rw [getD_at hq, getD_at (piecesL_at s _ d hd), getD_at (piecesL_at s _ z hz), hr]
    simp only
    rw [dash_same tr]
    exact kind_same tp tq _
  · obtain rfl : n = (clusters s).length := by omega
    rw [if_neg hl]
    obtain ⟨q, hq, q6, _⟩ := partsL_end s
    rw [getD_at hq]
    have ex := cls_end (pcOf s c).r
    have ee : endsB (pcOf s c) = ((pcOf s c).r == 10) := rfl
    rw [← ee, ← tp.1] at ex
    unfold kindI
    by_cases h : p.cl = 1
    · rw [if_pos h, if_pos (ex.1 h)]
    · rw [if_neg h, if_pos (.inr (.inr q6)), if_neg (fun hh => h (ex.2 hh))]
theorem place_same (s : ByteArray) (n : Nat) (h1 : 1 ≤ n) (hn : n ≤ (clusters s).length) : ((partsL s).getD n pt0).sg = placeR (piecesL s) n := by
  obtain ⟨c, hc⟩ : ∃ c, (clusters s)[n - 1]? = some c := ⟨_, List.getElem?_eq_getElem (by omega)⟩
  have ht := endG_to s _ c hc
  rw [show n - 1 + 1 = n by omega] at ht
  unfold placeR
  rw [piecesL_len]
  by_cases hl : n = (clusters s).length
  · obtain ⟨q, hq, _, qs⟩ := partsL_end s
    rw [if_pos hl, getD_at (piecesL_at s _ c hc), getD_at (hl ▸ hq), qs]
    rw [hl, List.take_length] at ht
    rw [ht]
    rfl
  · obtain ⟨d, hd⟩ : ∃ d, (clusters s)[n]? = some d := ⟨_, List.getElem?_eq_getElem (by omega)⟩
    obtain ⟨q, hq, _, qs⟩ := partsL_at s _ d hd
    rw [if_neg hl, getD_at (piecesL_at s _ d hd), getD_at hq, qs, ht]
    exact chain_to s (n - 1) c d hc (by rw [show n - 1 + 1 = n by omega]; exact hd)
theorem kindC_nonneg (a b c d e f g h i j : Bool) : 0 ≤ kindC a b c d e f g h i j := by
  unfold kindC
  repeat' split
  all_goals decide
theorem kindRL_nonneg (L : List Pc) (n : Nat) : 0 ≤ kindRL L n := by
  unfold kindRL
  split
  · exact kindC_nonneg _ _ _ _ _ _ _ _ _ _
  · split <;> decide
/-- The program's breaks are the reference's. -/
theorem stops_same (s : ByteArray) : ∀ m, m ≤ (clusters s).length + 1 → (stopsTo (partsL s) m).length = (rbr (piecesL s) m).length ∧ flatB (stopsTo (partsL s) m) = flatK (rbr (piecesL s) m)
  | 0, _ => ⟨rfl, rfl⟩
  | m + 1, h => by
    obtain ⟨a, b⟩ := stops_same s m (by omega)
    unfold stopsTo rbr
    by_cases h0 : m = 0
    · rw [if_pos (.inl h0), if_pos (.inl h0), List.append_nil, List.append_nil]
      exact ⟨a, b⟩
    · have hk := kindL_same s m (by omega) (by omega)
      have hp := place_same s m (by omega) (by omega)
      have hg := kindRL_nonneg (piecesL s) m
      by_cases hz : kindRL (piecesL s) m = 0
      · rw [if_pos (.inr (hk.trans hz)), if_pos (.inr (by omega)), List.append_nil, List.append_nil]
        exact ⟨a, b⟩
      · rw [if_neg (by rw [hk]; omega), if_neg (by omega), flatB_snoc, flatK_snoc, List.length_append, List.length_append, a, b, hk]
        refine ⟨rfl, ?_⟩
        show _ ++ [Value.int .i64 ((partsL s).getD m pt0).sg, _] = _
        rw [hp]
        rfl

end Go.Proofs.YtpnojhomjkopeaaDoor

/- The places of a text as the statement WrapPlaced asks of them (chapter 10, P1001): mathematics. -/
namespace Go.Proofs.YtpnojhomjkopeaaDoor

theorem w10 : widthI 10 = 0 ∧ ctlB 10 = true ∧ flagB 10 = false := ⟨by kernel_rfl, by kernel_rfl, by kernel_rfl⟩
theorem join_ten (f q : Int) (o : Bool) : joinB f q 10 o = false := by
  obtain ⟨a, b, c⟩ := w10
  unfold joinB
  rw [a, b, c]
  simp
theorem join_behind (q r : Int) (o : Bool) : joinB 10 q r o = false := by
  obtain ⟨a, b, c⟩ := w10
  unfold joinB
  rw [a, b, c]
  simp
theorem toF_ge (R : Nat → Int) (n fr : Nat) : ∀ f tt, tt ≤ toF R n fr f tt
  | 0, tt => Nat.le_refl _
  | f + 1, tt => by
    unfold toF
    split
    · exact Nat.le_trans (Nat.le_succ _) (toF_ge R n fr f (tt + 1))
    · exact Nat.le_refl _
theorem toF_le (R : Nat → Int) (n fr : Nat) : ∀ f tt, tt ≤ n → toF R n fr f tt ≤ n
  | 0, tt, h => h
  | f + 1, tt, h => by
    unfold toF
    split
    · rename_i hc
      exact toF_le R n fr f (tt + 1) (by omega)
    · exact h
/-- A cluster ends with a line end just where it begins with one. -/
theorem toF_ten (R : Nat → Int) (n fr : Nat) : ∀ f tt, (R (tt - 1) = 10 ↔ R fr = 10) → (R (toF R n fr f tt - 1) = 10 ↔ R fr = 10)
  | 0, tt, h => h
  | f + 1, tt, h => by
    unfold toF
    split
    · rename_i hc
      refine toF_ten R n fr f (tt + 1) ?_
      have h1 : ¬ R tt = 10 := fun e => by have h3 := hc.2; rw [e, join_ten] at h3; cases h3
      have h2 : ¬ R fr = 10 := fun e => by have h3 := hc.2; rw [e, join_behind] at h3; cases h3
      rw [Nat.add_sub_cancel]
      exact ⟨fun e => absurd e h1, fun e => absurd e h2⟩
    · exact h
theorem rclF_all (R : Nat → Int) (A : Nat → Nat) (n : Nat) : ∀ b fr, ∀ c ∈ rclF R A n b fr, ∃ k t : Nat, c.fr = (k : Int) ∧ c.to = (t : Int) ∧ k < t ∧ t ≤ n ∧ (R (t - 1) = 10 ↔ R k = 10)
  | 0, _, c, h => by simp [rclF] at h
  | b + 1, fr, c, h => by
    unfold rclF at h
    split at h
    · rename_i hf
      rcases List.mem_cons.1 h with rfl | h
      · exact ⟨fr, _, rfl, rfl, toF_ge R n fr n (fr + 1), toF_le R n fr n (fr + 1) hf, toF_ten R n fr n (fr + 1) (by rw [Nat.add_sub_cancel])⟩
      · exact rclF_all R A n b _ c h
    · simp at h
theorem rclF_last (R : Nat → Int) (A : Nat → Nat) (n : Nat) : ∀ b fr, n ≤ fr + b → fr ≤ n → ∀ m c, (rclF R A n b fr)[m]? = some c → (rclF R A n b fr).length = m + 1 → c.to = (n : Int)
  | 0, _, _, _, m, c, h, _ => by simp [rclF] at h
  | b + 1, fr, hb, hf, m, c, h, hl => by
    have g1 := toF_ge R n fr n (fr + 1)
    unfold rclF at h hl
    split at h
    · rename_i hfn
      rw [if_pos hfn] at hl
      have g2 := toF_le R n fr n (fr + 1) hfn
      rw [List.length_cons] at hl
      cases m with
      | zero =>
        obtain rfl : _ = c := by simpa using h
        show ((toF R n fr n (fr + 1) : Nat) : Int) = n
        generalize toF R n fr n (fr + 1) = t at *
        by_cases ht : t < n
        · obtain ⟨b', rfl⟩ : ∃ b', b = b' + 1 := ⟨b - 1, by omega⟩
          unfold rclF at hl
          rw [if_pos ht, List.length_cons] at hl
          omega
        · omega
      | succ m =>
        rw [List.getElem?_cons_succ] at h
        exact rclF_last R A n b _ (by omega) g2 m c h (by omega)
    · simp at h
/-- What is asked of a cluster. -/
theorem cl_all (s : ByteArray) (c : Cl) (h : c ∈ clusters s) : ∃ k t : Nat, c.fr = (k : Int) ∧ c.to = (t : Int) ∧ k < t ∧ t ≤ (sgs s).length ∧ (runeAt s (t - 1) = 10 ↔ runeAt s k = 10) := by
  rw [← rcl_clusters] at h
  exact rclF_all _ _ _ _ _ c h
theorem cl_last (s : ByteArray) (m : Nat) (c : Cl) (h : (clusters s)[m]? = some c) (hl : (clusters s).length = m + 1) : c.to = ((sgs s).length : Int) := by
  rw [← rcl_clusters] at h hl
  exact rclF_last _ _ _ _ _ (by omega) (Nat.zero_le _) m c h hl
theorem cl_rise (s : ByteArray) (i : Nat) (c : Cl) (hc : (clusters s)[i]? = some c) : ∀ (k : Nat) (d : Cl), (clusters s)[i + k + 1]? = some d → c.to < d.to
  | 0, d, hd => by
    have e := chain_to s i c d hc hd
    obtain ⟨a, b, h1, h2, h3, _⟩ := cl_all s d (List.mem_of_getElem? hd)
    omega
  | k + 1, d, hd => by
    obtain ⟨m, hm⟩ : ∃ m, (clusters s)[i + k + 1]? = some m := ⟨_, List.getElem?_eq_getElem (by have := (List.getElem?_eq_some_iff.1 hd).1; omega)⟩
    have r := cl_rise s i c hc k m hm
    have e := chain_to s (i + k + 1) m d hm hd
    obtain ⟨a, b, h1, h2, h3, _⟩ := cl_all s d (List.mem_of_getElem? hd)
    omega
/-- The end of the cluster ahead of a place. -/
theorem sg_to (s : ByteArray) (k : Nat) (c : Cl) (hc : (clusters s)[k]? = some c) : ((partsL s).getD (k + 1) pt0).sg = c.to := by
  have hn := (List.getElem?_eq_some_iff.1 hc).1
  have ht := endG_to s k c hc
  by_cases hl : k + 1 = (clusters s).length
  · obtain ⟨q, hq, _, qs⟩ := partsL_end s
    rw [hl, getD_at hq, qs]
    rw [hl, List.take_length] at ht
    exact ht
  · obtain ⟨d, hd⟩ : ∃ d, (clusters s)[k + 1]? = some d := ⟨_, List.getElem?_eq_getElem (by omega)⟩
    obtain ⟨q, hq, _, qs⟩ := partsL_at s _ d hd
    rw [getD_at hq, qs, ht]
theorem kindI_set (d : Bool) (x y : Pt) : (kindI d x y = 1 ↔ x.cl = 1) ∧ 0 ≤ kindI d x y ∧ kindI d x y ≤ 3 ∧ (kindI d x y ≠ 0 → kindI d x y ≠ 1 → y.cl ≠ 1 ∧ y.cl ≠ 2 ∧ y.cl ≠ 6) := by
  unfold kindI
  by_cases h1 : x.cl = 1
  · rw [if_pos h1]
    exact ⟨⟨fun _ => h1, fun _ => rfl⟩, by decide, by decide, fun _ h => absurd rfl h⟩
  · rw [if_neg h1]
    by_cases h2 : y.cl = 1 ∨ y.cl = 2 ∨ y.cl = 6
    · rw [if_pos h2]
      exact ⟨⟨fun h => absurd h (by decide), fun h => absurd h h1⟩, by decide, by decide, fun h _ => absurd rfl h⟩
    · rw [if_neg h2]
      have h3 : y.cl ≠ 1 ∧ y.cl ≠ 2 ∧ y.cl ≠ 6 := ⟨fun h => h2 (.inl h), fun h => h2 (.inr (.inl h)), fun h => h2 (.inr (.inr h))⟩
      split
      · exact ⟨⟨fun h => absurd h (by decide), fun h => absurd h h1⟩, by decide, by decide, fun _ _ => h3⟩
      · split
        · exact ⟨⟨fun h => absurd h (by decide), fun h => absurd h h1⟩, by decide, by decide, fun _ _ => h3⟩
        · split
          · exact ⟨⟨fun h => absurd h (by decide), fun h => absurd h h1⟩, by decide, by decide, fun _ _ => h3⟩
          · exact ⟨⟨fun h => absurd h (by decide), fun h => absurd h h1⟩, by decide, by decide, fun _ _ => h3⟩
theorem cls_ten (r : Int) : classI r = 1 ↔ r = 10 := by rw [cls_end]; simp
theorem cls_two (r : Int) (h : r ∈ clsBlank) (h10 : r ≠ 10) : classI r = 2 := by unfold classI; rw [if_neg h10, if_pos h]
/-- What is asked of a place. -/
def PlOk (s : ByteArray) (g k : Int) : Prop := ∃ a : Nat, g = (a : Int) ∧ 1 ≤ a ∧ a ≤ (sgs s).length ∧ (a = (sgs s).length ∨ ∃ c ∈ clusters s, c.fr = (a : Int)) ∧ 1 ≤ k ∧ k ≤ 3 ∧ (k = 1 ↔ runeAt s (a - 1) = 10) ∧ (k ≠ 1 → a < (sgs s).length ∧ runeAt s a ≠ 10 ∧ runeAt s a ∉ clsBlank)
theorem kind_hard (s : ByteArray) (k : Nat) (c : Cl) (hc : (clusters s)[k]? = some c) : kindL (partsL s) (k + 1) = 1 ↔ runeAt s c.fr.toNat = 10 := by
  obtain ⟨p, hp, tp, _⟩ := partsL_at s _ c hc
  unfold kindL
  rw [Nat.add_sub_cancel, getD_at hp, (kindI_set _ _ _).1, tp.1, cls_ten]
  rfl
theorem place_ok (s : ByteArray) (k : Nat) (c : Cl) (hc : (clusters s)[k]? = some c) (hk : kindL (partsL s) (k + 1) ≠ 0) : PlOk s ((partsL s).getD (k + 1) pt0).sg (kindL (partsL s) (k + 1)) := by
  have hn := (List.getElem?_eq_some_iff.1 hc).1
  obtain ⟨a, t, h1, h2, h3, h4, h5⟩ := cl_all s c (List.mem_of_getElem? hc)
  have hh := kind_hard s k c hc
  rw [h1, Int.toNat_natCast] at hh
  rw [sg_to s k c hc, h2]
  have hset : (0 ≤ kindL (partsL s) (k + 1) ∧ kindL (partsL s) (k + 1) ≤ 3) ∧ (kindL (partsL s) (k + 1) ≠ 0 → kindL (partsL s) (k + 1) ≠ 1 → ((partsL s).getD (k + 1) ⟨0, 0, 0, 0, false⟩).cl ≠ 1 ∧ ((partsL s).getD (k + 1) ⟨0, 0, 0, 0, false⟩).cl ≠ 2 ∧ ((partsL s).getD (k + 1) ⟨0, 0, 0, 0, false⟩).cl ≠ 6) := by
    unfold kindL
    exact ⟨⟨(kindI_set _ _ _).2.1, (kindI_set _ _ _).2.2.1⟩, (kindI_set _ _ _).2.2.2⟩
  obtain ⟨⟨k1, k2⟩, k3⟩ := hset
  have k3 := k3 hk
  generalize kindL (partsL s) (k + 1) = K at *
  by_cases hl : k + 1 = (clusters s).length
  · have e := cl_last s k c hc hl.symm
    obtain ⟨q, hq, q6, _⟩ := partsL_end s
    rw [← hl] at hq
    rw [getD_at hq] at k3
    have hK : K = 1 := Classical.byContradiction fun h => (k3 h).2.2 q6
    exact ⟨t, rfl, by omega, h4, .inl (by omega), by omega, by omega, by rw [hh, h5], fun h => absurd hK h⟩
  · obtain ⟨d, hd⟩ : ∃ d, (clusters s)[k + 1]? = some d := ⟨_, List.getElem?_eq_getElem (by omega)⟩
    have e := chain_to s k c d hc hd
    obtain ⟨q, hq, tq, _⟩ := partsL_at s _ d hd
    rw [getD_at hq, tq.1] at k3
    obtain ⟨a', t', g1, g2, g3, g4, _⟩ := cl_all s d (List.mem_of_getElem? hd)
    have ea : a' = t := by omega
    have er : (pcOf s d).r = runeAt s t := by show runeAt s d.fr.toNat = _; rw [g1, Int.toNat_natCast, ea]
    rw [er] at k3
    refine ⟨t, rfl, by omega, h4, .inr ⟨d, List.mem_of_getElem? hd, by omega⟩, by omega, by omega, by rw [hh, h5], fun h => ⟨by omega, fun h10 => (k3 h).1 ((cls_ten _).2 h10), fun hb => ?_⟩⟩
    exact (k3 h).2.1 (cls_two _ hb (fun h10 => (k3 h).1 ((cls_ten _).2 h10)))
/-- A stop stands at a place of a kind. -/
theorem stop_mem (s : ByteArray) : ∀ m, ∀ x ∈ stopsTo (partsL s) m, ∃ k, k + 1 < m ∧ kindL (partsL s) (k + 1) ≠ 0 ∧ x.kind = kindL (partsL s) (k + 1) ∧ x.nxt.sg = ((partsL s).getD (k + 1) pt0).sg
  | 0, x, h => by simp [stopsTo] at h
  | m + 1, x, h => by
    unfold stopsTo at h
    rcases List.mem_append.1 h with h | h
    · obtain ⟨k, h1, h2⟩ := stop_mem s m x h
      exact ⟨k, by omega, h2⟩
    · split at h
      · simp at h
      · rename_i hc
        obtain rfl : x = _ := by simpa using h
        obtain ⟨k, rfl⟩ : ∃ k, m = k + 1 := ⟨m - 1, by omega⟩
        exact ⟨k, by omega, fun e => hc (.inr e), rfl, rfl⟩
theorem stops_ok (s : ByteArray) : ∀ x ∈ stopsTo (partsL s) ((clusters s).length + 1), PlOk s x.nxt.sg x.kind := by
  intro x hx
  obtain ⟨k, h1, h2, h3, h4⟩ := stop_mem s _ x hx
  rw [h3, h4]
  exact place_ok s k _ (List.getElem?_eq_getElem (by omega)) h2
theorem stops_rise (s : ByteArray) : ∀ m, m ≤ (clusters s).length + 1 → (stopsTo (partsL s) m).Pairwise fun x y => x.nxt.sg < y.nxt.sg
  | 0, _ => .nil
  | m + 1, h => by
    unfold stopsTo
    split
    · rw [List.append_nil]
      exact stops_rise s m (by omega)
    · rename_i hc
      refine List.pairwise_append.2 ⟨stops_rise s m (by omega), List.pairwise_singleton _ _, fun x hx y hy => ?_⟩
      obtain rfl : y = _ := by simpa using hy
      obtain ⟨k, h1, h2, h3, h4⟩ := stop_mem s _ x hx
      obtain ⟨j, rfl⟩ : ∃ j, m = j + 1 := ⟨m - 1, by omega⟩
      rw [h4]
      show _ < ((partsL s).getD (j + 1) pt0).sg
      obtain ⟨c, hc⟩ : ∃ c, (clusters s)[k]? = some c := ⟨_, List.getElem?_eq_getElem (by omega)⟩
      obtain ⟨d, hd⟩ : ∃ d, (clusters s)[j]? = some d := ⟨_, List.getElem?_eq_getElem (by omega)⟩
      rw [sg_to s k c hc, sg_to s j d hd]
      exact cl_rise s k c hc (j - k - 1) d (by rw [show k + (j - k - 1) + 1 = j by omega]; exact hd)
/-- How many line ends. -/
def tensL (s : ByteArray) (l : List Cl) : Nat := l.countP fun c => runeAt s c.fr.toNat == 10
def hardL (l : List St) : Nat := l.countP fun x => x.kind == 1
theorem stops_hard (s : ByteArray) : ∀ m, m ≤ (clusters s).length → hardL (stopsTo (partsL s) (m + 1)) = tensL s ((clusters s).take m)
  | 0, _ => by simp [stopsTo, hardL, tensL]
  | m + 1, h => by
    have ih := stops_hard s m (by omega)
    obtain ⟨c, hc⟩ : ∃ c, (clusters s)[m]? = some c := ⟨_, List.getElem?_eq_getElem (by omega)⟩
    have hh := kind_hard s m c hc
    unfold stopsTo
    rw [List.take_add_one, hc]
    unfold hardL tensL at ih ⊢
    rw [List.countP_append, List.countP_append, ih]
    congr 1
    by_cases h0 : m + 1 = 0 ∨ kindL (partsL s) (m + 1) = 0
    · rw [if_pos h0]
      have : ¬ runeAt s c.fr.toNat = 10 := fun e => by have := hh.2 e; omega
      simp [this]
    · rw [if_neg h0]
      by_cases h1 : kindL (partsL s) (m + 1) = 1
      · have h2 := hh.1 h1
        simp [stpAt, h1, h2]
      · have h2 : ¬ runeAt s c.fr.toNat = 10 := fun e => h1 (hh.2 e)
        simp [stpAt, h1, h2]
theorem stops_count (s : ByteArray) : hardL (stopsTo (partsL s) ((clusters s).length + 1)) = tensL s (clusters s) := by
  rw [stops_hard s _ (Nat.le_refl _), List.take_length]

end Go.Proofs.YtpnojhomjkopeaaDoor

/- What the statement WrapPlaced calls: blank, utf.Runes; rows that are read and written. -/
namespace Go.Proofs.YtpnojhomjkopeaaDoor
open Go.RowKit Go.Shelf
attribute [local go_sem] Oper.semAt_some

set_option maxRecDepth 100000 in
set_option maxHeartbeats 400000 in
theorem blankL_no (r : Int) (hr : r ∉ clsBlank) (w : World) : Calls Tryd.prog 17 #[.int .i32 r] w fun e w' => e = .returned (.bool false) ∧ w' = w := by
  have hm : ∀ k ∈ clsBlank, (r == k) = false := fun k hk => beq_eq_false_iff_ne.2 (fun e => hr (e ▸ hk))
  have h1 := hm 9 (by decide)
  have h2 := hm 32 (by decide)
  have h3 := hm 5760 (by decide)
  have h4 := hm 8287 (by decide)
  have h5 := hm 12288 (by decide)
  by_cases c1 : 8192 ≤ r
  · by_cases c2 : r ≤ 8202
    · have c3 : r = 8199 := by
        simp only [clsBlank, List.mem_cons, List.not_mem_nil, or_false, not_or] at hr
        omega
      subst c3
      clear hm hr h1 h2 h3 h4 h5
      go_enter Tryd.func17, Tryd.ntmps17
      go_wp2
      go_ret
      exact ⟨rfl, rfl⟩
    · have d1 : decide (8192 ≤ r) = true := decide_eq_true c1
      have d2 : decide (r ≤ 8202) = false := decide_eq_false c2
      clear hm hr
      go_enter Tryd.func17, Tryd.ntmps17
      go_wp2
      go_ret
      exact ⟨rfl, rfl⟩
  · have d1 : decide (8192 ≤ r) = false := decide_eq_false c1
    clear hm hr
    go_enter Tryd.func17, Tryd.ntmps17
    go_wp2
    go_ret
    exact ⟨rfl, rfl⟩
/-- A row whose cells, the first n, are told by a function. -/
def CF (W : World) (G : Nat) (t : TypeId) (n : Nat) (f : Nat → Value) : Prop := ∃ cur : Array Value, W.heap[G]? = some (.cells cur t (0, 0)) ∧ ∀ i, i < n → cur[i]? = some (f i)
theorem CF.lt {W : World} {G n : Nat} {t : TypeId} {f : Nat → Value} (h : CF W G t n f) : G < W.heap.size := by
  obtain ⟨_, h1, _⟩ := h
  exact (Array.getElem?_eq_some_iff.1 h1).1
theorem CF.same {W U : World} {G n : Nat} {t : TypeId} {f : Nat → Value} (h : CF W G t n f) (e : U.heap[G]? = W.heap[G]?) : CF U G t n f := by
  obtain ⟨cur, h1, h2⟩ := h
  exact ⟨cur, e.trans h1, h2⟩
theorem CF.at {W : World} {G n : Nat} {t : TypeId} {f : Nat → Value} (h : CF W G t n f) {i : Nat} (hi : i < n) : W.cell? ⟨G, i, none⟩ = some (f i) ∧ W.frozen? ⟨G, i, none⟩ = false := by
  obtain ⟨cur, h1, h2⟩ := h
  simp [World.cell?, World.frozen?, h1, h2 i hi]
theorem CF.set {W : World} {G n : Nat} {t : TypeId} {f g : Nat → Value} (h : CF W G t n f) (j : Nat) (v : Value) (hj : j < n) (hv : g j = v) (hg : ∀ i, i < n → i ≠ j → g i = f i) : CF (W.setCell ⟨G, j, none⟩ v) G t n g := by
  obtain ⟨cur, h1, h2⟩ := h
  refine ⟨cur.setIfInBounds j v, set_at h1 _ _, fun i hi => ?_⟩
  have b0 := (Array.getElem?_eq_some_iff.1 (h2 j hj)).1
  by_cases c : i = j
  · subst c
    rw [Array.getElem?_setIfInBounds_self_of_lt b0, hv]
  · rw [Array.getElem?_setIfInBounds_ne (by omega), hg i hi c]
    exact h2 i hi
theorem runesFromQ (s : ByteArray) : ∀ (b pos : Nat) (acc : Array Value), Conv.runesFrom s b pos acc = acc ++ ((sgns s b pos).map fun x => Value.int .i32 x.rune).toArray
  | 0, pos, acc => by simp [Conv.runesFrom, sgns]
  | b + 1, pos, acc => by
    unfold Conv.runesFrom sgns
    by_cases hp : pos < s.size
    · rw [if_pos hp, if_pos hp]
      dsimp only
      rw [runesFromQ s b]
      simp [(sgn_dec s pos hp).2.2.1]
    · rw [if_neg hp, if_neg hp]
      simp
theorem runesT_len (s : ByteArray) : (runesT s).length = (sgs s).length := by
  unfold runesT signs sgs
  rw [runesT_eq, List.length_map]
theorem sgs_len (s : ByteArray) : (sgs s).length ≤ s.size := by
  rw [← runesT_len]
  unfold runesT
  rw [List.length_map]
  exact sgns_length s _ _
set_option maxRecDepth 100000 in
set_option maxHeartbeats 400000 in
theorem runesQ_any (s : ByteArray) (hs : s.size ≤ 16777216) (w : World) :
    Calls Tryd.prog 15 #[.string s] w fun e w' => ∃ cap, e = .returned (.slice (some ⟨w.heap.size, 0, none⟩) (sgs s).length cap) ∧ CF w' w.heap.size 21 (sgs s).length (fun i => .int .i32 (runeAt s i)) ∧ ((sgs s).length ≤ cap ∧ cap ≤ maxLen) ∧ Below w.heap.size w w' := by
  have hl := sgs_len s
  have hns : Conv.runesFrom s s.size 0 #[] = ((runesT s).map fun x => Value.int .i32 x).toArray := by
    rw [runesFromQ]
    simp [runesT, signs]
  have hvl : ((runesT s).map fun x => Value.int .i32 x).length = (sgs s).length := by rw [List.length_map, runesT_len]
  have hat : ∀ i, i < (sgs s).length → ((runesT s).map fun x => Value.int .i32 x)[i]? = some (.int .i32 (runeAt s i)) := fun i hi => by rw [List.getElem?_map, runesT_at s i hi]; rfl
  have hcv := run_runes_of_string (P := Tryd.prog) w 9 41 21 s Tryd.underlying9 Tryd.underlying41 Tryd.underlying21 (by rw [hns]; simp only [List.size_toArray, hvl]; omega)
  rw [hns] at hcv
  simp only [List.size_toArray, hvl] at hcv
  have hg1 := grownCap_ge w (sgs s).length 0 21
  have hg2 := grownCap_le_maxLen w (sgs s).length 0 21 (by unfold maxLen; omega)
  generalize grownCap w (sgs s).length 0 21 = cap at *
  generalize ((runesT s).map fun x => Value.int .i32 x) = V at *
  have HA := hideW hat
  clear hat
  generalize (sgs s).length = n at *
  clear hns
  go_enter Tryd.func15, Tryd.ntmps15
  go_wp2
  go_ret
  have hh : (w.alloc (.cells (V.toArray ++ Array.replicate (cap - n) (Value.int .i32 0)) 21)).drew.heap[w.heap.size]? = some (.cells (V.toArray ++ Array.replicate (cap - n) (Value.int .i32 0)) 21 (0, 0)) := World.alloc_heap_new w (.cells (V.toArray ++ Array.replicate (cap - n) (Value.int .i32 0)) 21)
  refine ⟨cap, rfl, ⟨_, hh, fun i hi => ?_⟩, ⟨hg1, hg2⟩, ((Below.refl _ w).alloc (Nat.le_refl _) _).drew⟩
  rw [Array.getElem?_append_left (by simp; omega)]
  have := HA.out i hi
  simpa using this
theorem wpListIn_make_fullQ {F : Fence} {m : Nat} {P : Program} (w : World) {ops : Array Oper} {rest : List Oper} {o : Oper} {a : Act} {Q : Exit → Act → World → Prop}
    (hg : o.guard = none) (l c : Operand) (t : TypeId) (hop : o.op = Op.makeSlice t l c)
    (base : Nat) (e : TypeId) (i : TypeInfo) (z : Value) (size : Nat) (h1 : P.underlying t = some (.slice e)) (h2 : P.info? e = some i) (h3 : i.zero = some z) (h4 : i.size = size)
    (kl kc : IntKind) (L C : Int) (n : Nat) (hl : a.eval l = .int kl L) (hc : a.eval c = .int kc C) (hL : L = (n : Int)) (hC : C = (n : Int)) (b2 : i.bytes * n ≤ 281474976710656) (b3 : n ≤ maxLen) (b4 : base ≤ w.heap.size)
    (hK : ∀ w', w'.ownsRow base e size (.slice (some ⟨w.heap.size, 0, none⟩) n n) n (madeCells z.cells (n * size)).toList → w.grownBy w' none → wpListIn F m P ops Q rest (a.put o.dst (.slice (some ⟨w.heap.size, 0, none⟩) n n)) w') :
    wpListIn F m P ops Q (o :: rest) a w := by
  refine wpListIn_plain hg fun K hK' => ?_
  obtain ⟨w', hrun, r1, r2⟩ := run_make_full (P := P) w base t e i z size h1 h2 h3 h4 kl kc n b2 b3 b4
  subst hL
  subst hC
  unfold Oper.wpIn
  refine ⟨?_, ?_⟩
  · simp [Oper.about, hop]
  · rw [Oper.semAt_plain F _ _ (by rw [hop]; intro c hc'; cases hc')]
    simp [execOp, hop, hl, hc, hrun, Result.andThen]
    exact hK' _ _ (hK w' r1 r2)
theorem CF.made {W : World} {base G n : Nat} {t : TypeId} {z : Value} (h : W.ownsRow base t 1 (.slice (some ⟨G, 0, none⟩) n n) n (madeCells #[z] (n * 1)).toList) : CF W G t n (fun _ => z) := by
  rcases h.2 with ⟨e, _⟩ | ⟨g2, cap2, cur, e, hb, hg, hcn, hcm, hs, h4⟩
  · simp at e
  · obtain ⟨rfl, rfl⟩ : G = g2 ∧ n = cap2 := by simpa using e
    refine ⟨cur, hg, fun i hi => ?_⟩
    rw [Nat.mul_one, toList_madeCells_one] at h4
    have h5 : (cur.toList.take n)[i]? = some z := by rw [h4]; simp [hi]
    rw [List.getElem?_take, if_pos hi] at h5
    simpa using h5
theorem infoBl : (Tryd.prog.info? 4).map (fun i => (i.zero, i.size, i.bytes)) = some (some (.bool false), 1, 1) := by kernel_rfl
/-- Breaks in memory. -/
def BrAt (W : World) (oa : Option Addr) (X : List St) : Prop := ∀ (i : Nat) (x : St), X[i]? = some x → ∃ g, oa = some ⟨g, 0, none⟩ ∧ g < W.heap.size ∧ W.cell? ⟨g, i * 2, none⟩ = some (.int .i64 x.nxt.sg) ∧ W.cell? ⟨g, i * 2 + 1, none⟩ = some (.int .i64 x.kind)
theorem flatB_at : ∀ (X : List St) (i : Nat) (x : St), X[i]? = some x → (flatB X)[i * 2]? = some (.int .i64 x.nxt.sg) ∧ (flatB X)[i * 2 + 1]? = some (.int .i64 x.kind)
  | [], i, x, h => by simp at h
  | y :: X, 0, x, h => by
    obtain rfl : y = x := by simpa using h
    exact ⟨rfl, rfl⟩
  | y :: X, i + 1, x, h => by
    have ih := flatB_at X i x (by simpa using h)
    have e : flatB (y :: X) = .int .i64 y.nxt.sg :: .int .i64 y.kind :: flatB X := rfl
    rw [e, show (i + 1) * 2 = i * 2 + 1 + 1 by omega]
    simp only [List.getElem?_cons_succ]
    exact ih
theorem BrAt.of_owns {W : World} {base e : Nat} {v : Value} {X : List St} (h : W.ownsRow base e 2 v X.length (flatB X)) : ∃ oa cap, v = .slice oa X.length cap ∧ BrAt W oa X ∧ (X.length ≤ cap ∧ cap ≤ maxLen) := by
  rcases h.2 with ⟨h1, h2⟩ | ⟨g, cap, cur, rfl, hb, hg, h3, h4, h5, h6⟩
  · refine ⟨none, 0, by rw [h1, h2], fun i x hx => ?_, by omega, by unfold maxLen; omega⟩
    have := (List.getElem?_eq_some_iff.1 hx).1
    omega
  · refine ⟨_, cap, rfl, fun i x hx => ⟨g, rfl, (Array.getElem?_eq_some_iff.1 hg).1, ?_⟩, h3, h4⟩
    obtain ⟨a, b⟩ := flatB_at X i x hx
    have hi := (List.getElem?_eq_some_iff.1 hx).1
    rw [← h6] at a b
    rw [List.getElem?_take] at a b
    have n1 : i * 2 < X.length * 2 := by omega
    have n2 : i * 2 + 1 < X.length * 2 := by omega
    rw [if_pos n1] at a
    rw [if_pos n2] at b
    simp [World.cell?, hg] at a b ⊢
    exact ⟨a, b⟩
theorem BrAt.keep {W U : World} {oa : Option Addr} {X : List St} (h : BrAt W oa X) {m : Nat} (b : But (fun k => k < m → False) W U) (hm : ∀ g, oa = some ⟨g, 0, none⟩ → g < m) : BrAt U oa X := by
  intro i x hx
  obtain ⟨g, rfl, h2, h3, h4⟩ := h i x hx
  have e := b.same g h2 (fun k => k (hm g rfl))
  refine ⟨g, rfl, Nat.lt_of_lt_of_le h2 b.size, ?_, ?_⟩
  · simp only [World.cell?, e] at h3 ⊢
    exact h3
  · simp only [World.cell?, e] at h4 ⊢
    exact h4
end Go.Proofs.YtpnojhomjkopeaaDoor

/- The walk of WrapPlaced (chapter 10, P1001). -/
namespace Go.Proofs.YtpnojhomjkopeaaDoor
open Go.RowKit Go.Shelf
attribute [local go_sem] Oper.semAt_some

set_option maxRecDepth 100000 in
set_option maxHeartbeats 1000000 in
theorem wplaced_walk (s : ByteArray) (_hb : s.size ≤ 140737488355328) (N : Nat) (w : World) (hT : Tabs N w) :
    Calls Tryd.prog 6 #[.string s] w fun e w' => e = .returned (.bool true) ∧ Below w.heap.size w w' := by
  obtain ⟨i0, hi, hz0, hz1, hz2⟩ := info_partsC infoBl
  have hsq := seq_some
  refine (callsIn_wide (n := 9)).1 ?_
  refine callsIn_of_wp_marks Tryd.func6 rfl trivial ?_ rfl
  simp only [Tryd.ntmps6, List.size_toArray, List.length_cons, List.length_nil, Nat.reduceAdd, Nat.reduceSub, Array.replicate_succ, Array.replicate_zero, List.push_toArray, List.append_toArray, List.nil_append, List.cons_append]
  by_cases h4 : 4096 < s.size
  · have d1 : decide ((4096 : Int) < (s.size : Int)) = true := decide_eq_true (by omega)
    have d2 : (4096 : Int) < (s.size : Int) := by omega
    gi_wp2_with fail
    refine ⟨trivial, ?_⟩
    gi_at_call 10
    refine (callsIn_wide.2 (head10 N w hT)).mono ?_
    rintro e w1 ⟨rfl, b1⟩
    have H1 := hideW b1
    clear b1
    gi_wp2
    exact ⟨.bool true, by simp [results, Tryd.f6, go_sem], rfl, H1.out⟩
  · have d2 : ¬ (4096 : Int) < (s.size : Int) := by omega
    have HA := hideW (places_any s (by omega) N)
    rw [partsL_len] at HA
    have HR := hideW (runesQ_any s (by omega))
    have hsl := sgs_len s
    gi_wp2_with fail
    refine ⟨trivial, ?_⟩
    gi_at_call 14
    refine (callsIn_wide.2 (HA.out w hT)).mono ?_
    rintro e w1 ⟨v, rfl, o1, b1⟩
    obtain ⟨oa, cpB, rfl, br1, hcB⟩ := BrAt.of_owns o1
    have H1 := hideW (And.intro o1 (And.intro br1 b1))
    clear o1 br1 b1
    gi_wp2_with fail
    refine ⟨trivial, ?_⟩
    gi_at_call 15
    refine (callsIn_wide.2 (HR.out w1)).mono ?_
    rintro e w2 ⟨cpR, rfl, c2, hcR, b2⟩
    have H2 := hideW (And.intro c2 b2)
    clear c2 b2
    have hn1 : (sgs s).length ≤ 4096 := by omega
    obtain ⟨n, hn⟩ : ∃ n, (sgs s).length = n := ⟨_, rfl⟩
    rw [hn] at H2 hcR hn1
    rw [hn]
    have wn : IntKind.i64.wrap ((n : Int) + 1) = (n : Int) + 1 := IntWalk.i64_in _ ⟨by omega, by omega⟩
    gi_wp2_with (gi_at_make; refine wpListIn_make_fullQ _ rfl _ _ 43 rfl w2.heap.size 4 i0 (.bool false) 1 Tryd.underlying43 hi hz0 hz1 .i64 .i64 _ _ (n + 1) rfl rfl (by omega) (by omega) (by rw [hz2]; omega) (by unfold maxLen; omega) (by simp) ?_; intro w3 own3 gr3)
    obtain ⟨o1, br1, b1⟩ := H1.out
    obtain ⟨c2, b2⟩ := H2.out
    have z1 := b1.size
    have z2 := b2.size
    have z3 := gr3.size
    have zR := c2.lt
    rw [World.size_alloc] at z3
    refine ⟨trivial, ?_⟩
    gi_at_call 16
    refine (callsIn_wide.2 (clusters_mk _ _)).mono ?_
    rintro e w' ⟨rfl, rfl⟩
    gi_wp2_with fail
    have hN := hT.room
    obtain ⟨V, hV⟩ : ∃ V, ((w3.alloc (.cells #[.slice (some ⟨w2.heap.size + 1, 0, none⟩) (n + 1) (n + 1)] 43)).alloc (.cells #[.int .i64 0] 3)).alloc (.cells #[.string s] 9) = V := ⟨_, rfl⟩
    have bV3 : Below w3.heap.size w3 V := by
      rw [← hV]
      exact (((Below.refl _ w3).alloc (Nat.le_refl _) _).alloc (by simp) _).alloc (by simp; omega) _
    have bB : Boxed V w3.heap.size 43 (.slice (some ⟨w2.heap.size + 1, 0, none⟩) (n + 1) (n + 1)) := by
      rw [← hV]
      exact ((Boxed.new w3 _ _).alloc _).alloc _
    have bE : Boxed V (w3.heap.size + 1) 3 (.int .i64 0) := by
      rw [← hV]
      have := Boxed.new (w3.alloc (.cells #[.slice (some ⟨w2.heap.size + 1, 0, none⟩) (n + 1) (n + 1)] 43)) 3 (.int .i64 0)
      rw [World.size_alloc] at this
      exact this.alloc _
    have bS : Boxed V (w3.heap.size + 1 + 1) 9 (.string s) := by
      rw [← hV]
      have := Boxed.new ((w3.alloc (.cells #[.slice (some ⟨w2.heap.size + 1, 0, none⟩) (n + 1) (n + 1)] 43)).alloc (.cells #[.int .i64 0] 3)) 9 (.string s)
      rw [World.size_alloc, World.size_alloc] at this
      exact this
    have zV : V.heap.size = w3.heap.size + 3 := by rw [← hV]; simp
    have b23 : Below w2.heap.size w2 w3 := Below.grown ((Below.refl _ w2).alloc (Nat.le_refl _) (.cells #[.slice (some ⟨w1.heap.size, 0, none⟩) n cpR] 41)) gr3 (by simp) (fun k e => by cases e)
    have b2V : Below w2.heap.size w2 V := b23.trans (bV3.mono b23.size)
    have bR : Boxed V w2.heap.size 41 (.slice (some ⟨w1.heap.size, 0, none⟩) n cpR) := (bV3.block _ (by omega)).trans ((gr3.block _ (by simp) (fun e => by cases e)).trans (Boxed.new w2 _ _))
    have cfR : CF V w1.heap.size 21 n (fun i => .int .i32 (runeAt s i)) := c2.same (b2V.block _ zR)
    have cfB : CF V (w2.heap.size + 1) 4 (n + 1) (fun _ => .bool false) := by
      have := CF.made (z := .bool false) (by rw [World.size_alloc] at own3; exact own3)
      exact this.same (bV3.block _ this.lt)
    have b1V : Below w1.heap.size w1 V := b2.trans (b2V.mono z2)
    have hBV : Below w.heap.size w V := b1.trans (b1V.mono z1)
    have HX := hideW (And.intro (stops_ok s) (And.intro (stops_rise s _ (Nat.le_refl _)) (stops_count s)))
    have brV : BrAt V oa (stopsTo (partsL s) ((clusters s).length + 1)) := fun i x hx => by
      obtain ⟨g, h1, h2, h3, h4⟩ := br1 i x hx
      exact ⟨g, h1, by omega, (b1V.cell (p := ⟨g, i * 2, none⟩) h2).trans h3, (b1V.cell (p := ⟨g, i * 2 + 1, none⟩) h2).trans h4⟩
    have hXl : (stopsTo (partsL s) ((clusters s).length + 1)).length ≤ 5000 := by
      have := stopsTo_len (partsL s) ((clusters s).length + 1)
      have := clusters_length s
      omega
    have hgo : ∀ g, oa = some ⟨g, 0, none⟩ → (stopsTo (partsL s) ((clusters s).length + 1)).length ≠ 0 → g < w1.heap.size := fun g hg hne => by
      obtain ⟨x, hx⟩ : ∃ x, (stopsTo (partsL s) ((clusters s).length + 1))[0]? = some x := ⟨_, List.getElem?_eq_getElem (by omega)⟩
      obtain ⟨g2, h1, h2, _⟩ := br1 0 x hx
      rw [h1] at hg
      have : g2 = g := by simpa using hg
      omega
    have hcm : ∀ c ∈ clusters s, ∃ k : Nat, c.fr = (k : Int) ∧ k < n := fun c hc => by
      obtain ⟨k, t, e1, _, e3, e4, _⟩ := cl_all s c hc
      exact ⟨k, e1, by omega⟩
    rw [hV]
    clear hV bV3 b23 b2V b1V b1 b2 c2 o1 br1 H1 H2 own3 gr3 HA HR
    have zB := cfB.lt
    have zBG : w2.heap.size + 1 < w3.heap.size := Classical.byContradiction fun h => by
      have e1 := cfB
      have e2 : w2.heap.size + 1 = w3.heap.size ∨ w2.heap.size + 1 = w3.heap.size + 1 := by omega
      obtain ⟨cur, h1, _⟩ := e1
      rcases e2 with e | e
      · rw [e, bB] at h1
        simp at h1
      · omega
    generalize w1.heap.size = R at *
    generalize w2.heap.size = xR at *
    generalize w3.heap.size = xB at *
    clear zB z3
    have hcl := clusters_length s
    refine rangeFunc_box (α := Cl) (by omega) (gf := 29) (lb := #[.pointer (some ⟨xB + 1 + 1, 0, none⟩)]) rfl (enters_of Tryd.func29 (by kernel_rfl) rfl)
      (clus_seq (9 - 1) (xB + 1 + 1) N (by omega) s (by omega) V (by omega) bS.cell (hT.below hBV)) (fun _ => rfl)
      (fun k => k = xR + 1 ∨ k = xB + 1) (fun k e => by rcases e with e | e <;> subst e <;> exact ⟨by omega, by omega, by omega⟩)
      (fun pre W => Boxed W (xB + 1) 3 (.int .i64 (tensL s pre)) ∧ CF W (xR + 1) 4 (n + 1) (fun i => .bool (pre.any (fun c => c.fr == (i : Int))))) (fun _ _ _ => False)
      (fun pre A B h hk => ⟨(hk.same _ h.1.lt (.inl (by omega))).trans h.1, h.2.same (hk.same _ h.2.lt (.inl (by omega)))⟩) (fun _ _ _ _ h _ => h) ⟨bE, cfB⟩ ?round ?done ?stop
    case round =>
      rintro l pre x W K hl hlW hhi hlh hBW hip hpx hK
      have hWz := hBW.size
      simp only [Cl.val]
      gi_wp2
      refine hK _ _ ((Below.refl _ W).alloc (Nat.le_refl _) _) (fun W2 hbo _ hB2 hi2 => ?_)
      have hx : ClAt W2 W.heap.size x := (hbo.same W.heap.size (by simp) (by omega)).trans (World.alloc_heap_new W _)
      obtain ⟨k, hk, hkn⟩ := hcm x (hpx.subset (by simp))
      have tl : tensL s pre ≤ 5000 := by
        have h1 := List.countP_le_length (p := fun c : Cl => runeAt s c.fr.toNat == 10) (l := pre)
        have h2 := hpx.length_le
        rw [List.length_append, List.length_singleton] at h2
        unfold tensL
        omega
      have ts : tensL s (pre ++ [x]) = tensL s pre + (if runeAt s k = 10 then 1 else 0) := by
        unfold tensL
        rw [List.countP_append, List.countP_singleton, hk, Int.toNat_natCast]
        simp
      obtain ⟨x0, x1, x2, x3, x4⟩ := hx.row
      rw [hk] at x2
      obtain ⟨iE, iB⟩ := hi2
      have rR := boxed_but bR hB2 (by omega)
      have rB := boxed_but bB hB2 (by omega)
      have qR : CF W2 R 21 n (fun i => .int .i32 (runeAt s i)) := cfR.same (hB2.same _ cfR.lt (by omega))
      have k0 := rR.cell
      have k1 := rB.cell
      have k2 := iE.cell
      have k3 := iE.frozen
      obtain ⟨r0, _⟩ := qR.at hkn
      obtain ⟨y0, y1⟩ := iB.at (show k < n + 1 by omega)
      have cb2 : CF (W2.setCell ⟨xR + 1, k, none⟩ (.bool true)) (xR + 1) 4 (n + 1) (fun i => .bool ((pre ++ [x]).any (fun c => c.fr == (i : Int)))) := iB.set k _ (by omega) (by simp [hk]) (fun i _ hne => by
        have : ¬ (k : Int) = (i : Int) := by omega
        simp [hk, this])
      have HF := hideW (And.intro iE (And.intro cb2 ts))
      clear iE iB cb2 ts hpx hT hbo hcm HX
      generalize runeAt s k = Z at *
      have wk : ¬ (k : Int) < 0 := by omega
      by_cases hZ : Z = 10
      · subst hZ
        gi_wp2
        obtain ⟨iE, cb2, ts⟩ := HF.out
        rw [if_pos trivial] at ts
        refine ⟨(But.set W2 _ _ (.inl (.inl rfl))).setCell (.inl (.inr rfl)) _, ?_, cb2.same (Below.heap_setCell _ _ _ _ (by show xR + 1 ≠ xB + 1; omega))⟩
        have h1 : Boxed (W2.setCell ⟨xR + 1, k, none⟩ (.bool true)) (xB + 1) 3 (.int .i64 (tensL s pre)) := (Below.heap_setCell _ _ _ _ (by show xB + 1 ≠ xR + 1; omega)).trans iE
        have h2 := h1.set (.int .i64 ((tensL s pre : Int) + 1))
        rw [ts]
        exact h2
      · have hZ2 : (Z == 10) = false := beq_eq_false_iff_ne.2 hZ
        gi_wp2
        obtain ⟨iE, cb2, ts⟩ := HF.out
        rw [if_neg hZ] at ts
        refine ⟨But.set W2 _ _ (.inl (.inl rfl)), ?_, cb2⟩
        rw [ts]
        exact (Below.heap_setCell _ _ _ _ (by show xB + 1 ≠ xR + 1; omega)).trans iE
    case done =>
      rintro D W hD ⟨iE, iB⟩ hBW hK
      have hWz := hBW.size
      have rR := boxed_but bR hBW (by omega)
      have rB := boxed_but bB hBW (by omega)
      have k0 := rR.cell
      have k1 := rB.cell
      obtain ⟨y0, y1⟩ := iB.at (show n < n + 1 by omega)
      obtain ⟨U, hU⟩ : ∃ U, W.setCell ⟨xR + 1, n, none⟩ (.bool true) = U := ⟨_, rfl⟩
      have zU : W.heap.size ≤ U.heap.size := by rw [← hU]; exact (But.set (M := fun _ => True) W _ _ trivial).size
      have same : ∀ k, k ≠ xR + 1 → U.heap[k]? = W.heap[k]? := fun k hk => by rw [← hU]; exact Below.heap_setCell _ _ _ _ (by show k ≠ xR + 1; exact hk)
      have jB : CF U (xR + 1) 4 (n + 1) (fun i => .bool ((clusters s).any (fun c => c.fr == (i : Int)) || decide (i = n))) := by
        rw [← hU]
        exact iB.set n _ (by omega) (by simp) (fun i _ hne => by simp [hne])
      have jE : Boxed U (xB + 1) 3 (.int .i64 (tensL s (clusters s))) := (same _ (by omega)).trans iE
      have jR : Boxed U xR 41 (.slice (some ⟨R, 0, none⟩) n cpR) := (same _ (by omega)).trans rR
      have jX : Boxed U xB 43 (.slice (some ⟨xR + 1, 0, none⟩) (n + 1) (n + 1)) := (same _ (by omega)).trans rB
      have jQ : CF U R 21 n (fun i => .int .i32 (runeAt s i)) := cfR.same ((same _ (by omega)).trans (hBW.same _ cfR.lt (by omega)))
      have jK : U.heap[D]? = some (.deferred (some [])) := (same D (by omega)).trans hK
      have bU : Below w.heap.size w U := by
        rw [← hU]
        exact (hBV.trans (hBW.below (by omega) (fun k e => by omega))).trans ((But.set (M := fun k => k = xR + 1) W _ _ rfl).below (by omega) (fun k e => by omega))
      have hTU := hT.below bU
      have jBr : BrAt U oa (stopsTo (partsL s) ((clusters s).length + 1)) := fun i x hx => by
        obtain ⟨g, h1, h2, h3, h4⟩ := brV i x hx
        have hgl := hgo g h1 (by have := (List.getElem?_eq_some_iff.1 hx).1; omega)
        have e1 : U.heap[g]? = V.heap[g]? := (same g (by omega)).trans (hBW.same g (by omega) (by omega))
        refine ⟨g, h1, by omega, ?_, ?_⟩
        · simp only [World.cell?, e1] at h3 ⊢
          exact h3
        · simp only [World.cell?, e1] at h4 ⊢
          exact h4
      have HJ := hideW (And.intro jB (And.intro jE (And.intro jR (And.intro jX (And.intro jQ (And.intro jK (And.intro bU (And.intro hTU jBr))))))))
      clear iE iB hcm jB jE jR jX jQ jK bU hTU jBr same hBV cfR cfB bB bE bR bS brV
      obtain ⟨X, hX⟩ : ∃ X, stopsTo (partsL s) ((clusters s).length + 1) = X := ⟨_, rfl⟩
      rw [hX] at HJ HX hXl hgo hcB
      rw [hX]
      obtain ⟨T, hTn⟩ : ∃ T : Nat, tensL s (clusters s) = T := ⟨_, rfl⟩
      rw [hTn] at HJ HX
      have hTl : T ≤ 5000 := by
        have h1 := List.countP_le_length (p := fun c : Cl => runeAt s c.fr.toNat == 10) (l := clusters s)
        unfold tensL at hTn
        omega
      gi_wp2_with fail
      gi_loopw [8] (fun iv wq => ∃ i : Nat, iv = .int .i64 (i : Nat) ∧ i ≤ X.length ∧ Boxed wq (xB + 1) 3 (.int .i64 ((T : Int) - (hardL (X.take i) : Nat))) ∧ But (fun k => k = xB + 1) U wq) (fun iv _ => X.length - (intOf iv).toNat)
      case atStart => exact ⟨0, rfl, Nat.zero_le _, by simpa [hardL] using HJ.out.2.1, But.refl _ _⟩
      case round =>
        obtain ⟨i, rfl, hil, bE, hbq⟩ := hrel
        obtain ⟨jB, jE, jR, jX, jQ, jK, bU, hTU, jBr⟩ := HJ.out
        have zq := hbq.size
        have hhb : hardL (X.take i) ≤ 5000 := by
          have h1 := List.countP_le_length (p := fun x : St => x.kind == 1) (l := X.take i)
          rw [List.length_take] at h1
          unfold hardL
          omega
        have bQ : Below w.heap.size w wr := bU.trans (hbq.below (by omega) (fun k e => by omega))
        by_cases hi2 : i < X.length
        · obtain ⟨x, hx⟩ : ∃ x, X[i]? = some x := ⟨_, List.getElem?_eq_getElem hi2⟩
          obtain ⟨g, rfl, hg, c0, c1⟩ := jBr i x hx
          have hgR := hgo g rfl (by omega)
          have ez : ∀ o, wr.cell? ⟨g, o, none⟩ = U.cell? ⟨g, o, none⟩ := fun o => by
            have e := hbq.same g hg (by omega)
            simp only [World.cell?, e]
          rw [← ez] at c0 c1
          obtain ⟨a, ha, ha1, han, hbg, hk1, hk3, hkt, hkn⟩ := HX.out.1 x (List.mem_of_getElem? hx)
          rw [ha] at c0
          have hdi : decide ((i : Int) < (X.length : Int)) = true := decide_eq_true (by omega)
          have q0 := (boxed_but jR hbq (by omega)).cell
          have q1 := (boxed_but jX hbq (by omega)).cell
          have jB2 : CF wr (xR + 1) 4 (n + 1) (fun i => .bool ((clusters s).any (fun c => c.fr == (i : Int)) || decide (i = n))) := jB.same (hbq.same _ jB.lt (by omega))
          have jQ2 : CF wr R 21 n (fun i => .int .i32 (runeAt s i)) := jQ.same (hbq.same _ jQ.lt (by omega))
          have y0 : wr.cell? ⟨xR + 1, a, none⟩ = some (.bool true) := by
            rw [(jB2.at (show a < n + 1 by omega)).1]
            congr 2
            rcases hbg with e | ⟨c, hc, e⟩
            · simp [e, hn]
            · rw [Bool.or_eq_true]
              exact .inl (List.any_eq_true.2 ⟨c, hc, by simp [e]⟩)
          obtain ⟨b, hab⟩ : ∃ b, a = b + 1 := ⟨a - 1, by omega⟩
          rw [show a - 1 = b by omega] at hkt
          have y1 := (jQ2.at (show b < n by omega)).1
          have d1 : decide ((a : Int) < 1) = false := decide_eq_false (by omega)
          have d2' : decide ((n : Int) < (a : Int)) = false := decide_eq_false (by omega)
          have wa : (a : Int) - 1 = (b : Int) := by omega
          have wb : IntKind.i64.wrap (b : Int) = (b : Int) := IntWalk.i64_in _ ⟨by omega, by omega⟩
          have da : (a : Int) < (n : Int) + 1 := by omega
          have db : (b : Int) < (n : Int) := by omega
          have d3 : decide (x.kind < 1) = false := decide_eq_false (by omega)
          have d4 : decide (3 < x.kind) = false := decide_eq_false (by omega)
          have m0 := bE.cell
          have m1 := bE.frozen
          have hTk : hardL (X.take (i + 1)) = hardL (X.take i) + (if x.kind = 1 then 1 else 0) := by
            unfold hardL
            rw [List.take_add_one, hx, List.countP_append]
            show _ + List.countP _ [x] = _
            rw [List.countP_singleton]
            simp
          have wi : IntKind.i64.wrap ((i : Int) + 1) = ((i + 1 : Nat) : Int) := by rw [show (i : Int) + 1 = ((i + 1 : Nat) : Int) by omega]; exact IntWalk.i64_in _ ⟨by omega, by omega⟩
          have prev : i = 0 ∨ ∃ j p, i = j + 1 ∧ wr.cell? ⟨g, j * 2, none⟩ = some (.int .i64 p) ∧ p < (a : Int) := by
            by_cases h0 : i = 0
            · exact .inl h0
            · obtain ⟨j, hj⟩ : ∃ j, i = j + 1 := ⟨i - 1, by omega⟩
              obtain ⟨y, hy⟩ : ∃ y, X[j]? = some y := ⟨_, List.getElem?_eq_getElem (by omega)⟩
              obtain ⟨g', e', _, e0, _⟩ := jBr j y hy
              have eg : g = g' := by simpa using e'
              rw [← eg, ← ez] at e0
              refine .inr ⟨j, y.nxt.sg, hj, e0, ?_⟩
              have hp := List.pairwise_iff_getElem.1 HX.out.2.1 j i (by omega) hi2 (by omega)
              have e1 : X[j]'(by omega) = y := by rw [List.getElem?_eq_getElem (by omega)] at hy; exact Option.some.inj hy
              have e2 : X[i]'hi2 = x := by rw [List.getElem?_eq_getElem hi2] at hx; exact Option.some.inj hx
              rw [e1, e2, ha] at hp
              exact hp
          have HZ := hideW (And.intro hTk (And.intro bE (And.intro hbq (And.intro hX (And.intro hTn (And.intro hU hn))))))
          have HB : Hid (∀ (W : World), runeAt s a ∉ clsBlank → Calls Tryd.prog 17 #[.int .i32 (runeAt s a)] W fun e w' => e = .returned (.bool false) ∧ w' = W) := hideW (fun W h => blankL_no _ h W)
          have HKN := hideW hkn
          have y2 : a < n → wr.cell? ⟨R, a, none⟩ = some (.int .i32 (runeAt s a)) := fun h => (jQ2.at h).1
          clear hTk bE hbq jB jE jR jX jQ jK bU hTU jBr jB2 jQ2 bQ HX HJ hx ha ez hgo hX hTn hU hn hkn hbg hsq hz0 hz1 hz2 hi hcR hBW hT hab
          obtain ⟨E, hE⟩ : ∃ E, (T : Int) - (hardL (X.take i) : Nat) = E := ⟨_, rfl⟩
          have wE : IntKind.i64.wrap (E - 1) = E - 1 := IntWalk.i64_in _ ⟨by omega, by omega⟩
          rw [hE] at m0
          have HE := hideW hE
          clear hE
          have hna : ¬ n < a := by omega
          have ha0 : ¬ a < 1 := by omega
          rcases prev with h0 | ⟨j, p, hj, p0, p1⟩
          · have d5 : ¬ 0 < i := by omega
            clear h0
            by_cases hh : x.kind = 1
            · rw [hh] at c1
              rw [hkt.1 hh] at y1
              clear d3 d4 hkt HB HKN y2
              gi_wp2
              all_goals try (rename_i h1 h2; exact absurd h1 (by simp [undef]))
              refine ⟨trivial, ?_⟩
              gi_wp2
              obtain ⟨hTk, bE, hbq, hX, hTn, hU, hn⟩ := HZ.out
              rw [if_pos hh] at hTk
              refine ⟨⟨i + 1, by simp, by omega, ?_, hbq.setCell rfl _⟩, by simp [intOf]; omega⟩
              have e := bE.set (.int .i64 (E - 1))
              have e2 : (T : Int) - ((hardL (X.take (i + 1)) : Nat) : Int) = E - 1 := by have := HE.out; rw [hTk]; omega
              rw [e2]
              exact e
            · obtain ⟨haN, h10, hbl⟩ := HKN.out hh
              rw [HZ.out.2.2.2.2.2.2] at haN
              have hbc := hideW (HB.out · hbl)
              have y3 := y2 haN
              have q10 : (runeAt s b == 10) = false := beq_eq_false_iff_ne.2 (fun e => hh (hkt.2 e))
              have z10 : (runeAt s a == 10) = false := beq_eq_false_iff_ne.2 h10
              have k1' : (x.kind == 1) = false := beq_eq_false_iff_ne.2 hh
              have hane : ¬ a = n := by omega
              have hkk : ¬ x.kind < 1 := by omega
              have hkk3 : ¬ 3 < x.kind := by omega
              clear hkt HKN y2 h10 hbl HB
              generalize runeAt s a = Z at *
              generalize runeAt s b = Y at *
              gi_wp2_with (refine ⟨trivial, ?_⟩; gi_at_call 17; refine (callsIn_wide.2 (hbc.out _)).mono ?_; rintro e w' ⟨rfl, rfl⟩)
              obtain ⟨hTk, bE, hbq, hX, hTn, hU, hn⟩ := HZ.out
              rw [if_neg hh] at hTk
              refine ⟨⟨i + 1, by simp, by omega, ?_, hbq⟩, by simp [intOf]; omega⟩
              rw [hTk]
              exact bE
          · have d5 : 0 < i := by omega
            have wj : (i : Int) - 1 = (j : Int) := by omega
            have wj2 : IntKind.i64.wrap (j : Int) = (j : Int) := IntWalk.i64_in _ ⟨by omega, by omega⟩
            have jl : (j : Int) < (X.length : Int) := by omega
            have np : ¬ (a : Int) ≤ p := by omega
            clear hj
            by_cases hh : x.kind = 1
            · rw [hh] at c1
              rw [hkt.1 hh] at y1
              clear d3 d4 hkt HB HKN y2
              gi_wp2
              all_goals try (rename_i h1 h2; exact absurd h1 (by simp [undef]))
              refine ⟨trivial, ?_⟩
              gi_wp2
              obtain ⟨hTk, bE, hbq, hX, hTn, hU, hn⟩ := HZ.out
              rw [if_pos hh] at hTk
              refine ⟨⟨i + 1, by simp, by omega, ?_, hbq.setCell rfl _⟩, by simp [intOf]; omega⟩
              have e := bE.set (.int .i64 (E - 1))
              have e2 : (T : Int) - ((hardL (X.take (i + 1)) : Nat) : Int) = E - 1 := by have := HE.out; rw [hTk]; omega
              rw [e2]
              exact e
            · obtain ⟨haN, h10, hbl⟩ := HKN.out hh
              rw [HZ.out.2.2.2.2.2.2] at haN
              have hbc := hideW (HB.out · hbl)
              have y3 := y2 haN
              have q10 : (runeAt s b == 10) = false := beq_eq_false_iff_ne.2 (fun e => hh (hkt.2 e))
              have z10 : (runeAt s a == 10) = false := beq_eq_false_iff_ne.2 h10
              have k1' : (x.kind == 1) = false := beq_eq_false_iff_ne.2 hh
              have hane : ¬ a = n := by omega
              have hkk : ¬ x.kind < 1 := by omega
              have hkk3 : ¬ 3 < x.kind := by omega
              clear hkt HKN y2 h10 hbl HB
              generalize runeAt s a = Z at *
              generalize runeAt s b = Y at *
              gi_wp2_with (refine ⟨trivial, ?_⟩; gi_at_call 17; refine (callsIn_wide.2 (hbc.out _)).mono ?_; rintro e w' ⟨rfl, rfl⟩)
              obtain ⟨hTk, bE, hbq, hX, hTn, hU, hn⟩ := HZ.out
              rw [if_neg hh] at hTk
              refine ⟨⟨i + 1, by simp, by omega, ?_, hbq⟩, by simp [intOf]; omega⟩
              rw [hTk]
              exact bE
        · have hie : i = X.length := by omega
          have hdi : decide ((i : Int) < (X.length : Int)) = false := decide_eq_false (by omega)
          have m0 := bE.cell
          have ht0 : (T : Int) - ((hardL (X.take i) : Nat) : Int) = 0 := by
            rw [hie, List.take_length, HX.out.2.2]
            omega
          rw [ht0] at m0
          have hTq : Tabs N wr := hT.below bQ
          have jK2 : wr.heap[D]? = some (.deferred (some [])) := (hbq.same D (Array.getElem?_eq_some_iff.1 jK).1 (by omega)).trans jK
          have HH := hideW (head10 N wr hTq)
          have HZ := hideW (And.intro bQ jK2)
          clear hbq jB jE jR jX jQ jK bU hTU jBr bQ HX HJ hgo hX hTn hU hn hsq hz0 hz1 hz2 hi hcR hBW hT hTq jK2 bE hie ht0 hK k0 k1
          gi_wp2_with fail
          refine ⟨trivial, ?_⟩
          gi_at_call 10
          refine (callsIn_wide.2 HH.out).mono ?_
          rintro e w9 ⟨rfl, b9⟩
          have jK9 : w9.heap[D]? = some (.deferred (some [])) := (b9.block D (Array.getElem?_eq_some_iff.1 HZ.out.2).1).trans HZ.out.2
          have H9 := hideW (And.intro (bupW HZ.out.1 b9) jK9)
          clear b9 jK9 HZ HH
          gi_wp2
          obtain ⟨b9, jK9⟩ := H9.out
          refine ⟨by simp, .inl ⟨_, _, rfl, run_takeDeferred jK9, ?_⟩⟩
          refine ⟨.bool true, by simp [results, Tryd.f6, go_sem], rfl, ?_⟩
          exact b9.trans ((putObj_belowL _ _ _).mono (by omega))
    case stop => rintro D c pre W hD hpre h; exact h.elim

end Go.Proofs.YtpnojhomjkopeaaDoor
