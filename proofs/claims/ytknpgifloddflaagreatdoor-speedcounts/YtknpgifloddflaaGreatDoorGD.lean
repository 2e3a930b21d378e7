/- Several texts, one behind the other. -/
import Derived.Deep.RegionHeld3
import Derived.Deep.Cut
import Derived.Deep.CutRange
import Derived.Deep.DeepCutAuto
import Derived.Deep.CutBlock
import Derived.Laws.StructEq
import Derived.Test.YtknpgifloddflaaGreatDoorGP
import Derived.Test.YtknpgifloddflaaGreatDoorGR
import Derived.Test.YtknpgifloddflaaGreatDoorGS
import Derived.Test.YtknpgifloddflaaGreatDoorRatT
import Derived.Test.YtknpgifloddflaaGreatDoorRatW11
import Derived.Test.YtknpgifloddflaaGreatDoorRefA8
import Derived.Test.YtknpgifloddflaaGreatDoorRefA9
import Derived.Test.YtknpgifloddflaaGreatDoorRefB4
import Derived.Test.YtknpgifloddflaaGreatDoorRefW
/- Rows of ratios: their memory; what Sum, Least and Most tell of them. -/
namespace Go.Proofs.YtknpgifloddflaaGreatDoor
open Go.RowKit Go.Shelf

/-- Ratios that lie one behind the other. -/
def RowAt (l : List Rt) (a : Addr) (V : World) : Prop := a.block < V.heap.size ∧ ∀ (i : Nat) (p : Rt), l[i]? = some p → V.cell? (a.add (i * 2)) = some (.int .i64 p.N) ∧ V.cell? (a.add (i * 2 + 1)) = some (.int .i64 p.D)
theorem addr_block (a : Addr) (n : Nat) : (a.add n).block = a.block := by unfold Addr.add; split <;> rfl
theorem addr_next (a : Addr) (n : Nat) : a.add (n + 1) = ⟨(a.add n).block, (a.add n).off + 1, none⟩ := by
  unfold Addr.add
  by_cases h : n = 0
  · subst h; rfl
  · simp [h]; omega
theorem RowAt.keep {l : List Rt} {a : Addr} {V V2 : World} (h : RowAt l a V) (b : Below V.heap.size V V2) : RowAt l a V2 :=
  ⟨Nat.lt_of_lt_of_le h.1 b.size, fun i p hp => ⟨(b.cell (p := a.add (i * 2)) (by rw [addr_block]; exact h.1)).trans (h.2 i p hp).1, (b.cell (p := a.add (i * 2 + 1)) (by rw [addr_block]; exact h.1)).trans (h.2 i p hp).2⟩⟩
theorem RowAt.pair {l : List Rt} {a : Addr} {V : World} (h : RowAt l a V) {i : Nat} {p : Rt} (hp : l[i]? = some p) : V.cell? (a.add (i * 2)) = some (.int .i64 p.N) ∧ V.cell? ⟨(a.add (i * 2)).block, (a.add (i * 2)).off + 1, none⟩ = some (.int .i64 p.D) := by
  obtain ⟨h1, h2⟩ := h.2 i p hp
  rw [addr_next] at h2
  exact ⟨h1, h2⟩
theorem RowAt.alloc {l : List Rt} {a : Addr} {V : World} (h : RowAt l a V) (o : Obj) : RowAt l a (V.alloc o) := h.keep (bel1 V o)
theorem RowAt.old {l : List Rt} {a : Addr} {w V : World} (h : RowAt l a w) (b : Below w.heap.size w V) : RowAt l a V := h.keep b

/-- What Sum tells. -/
def sumF (s : Rt) : List Rt → Rt × Int
  | [] => (s, 0)
  | r :: t => if (addA s r).2 = 0 then sumF (addA s r).1 t else (⟨0, 0⟩, (addA s r).2)
def sumA (l : List Rt) : Rt × Int := sumF ⟨0, 1⟩ l
theorem sumF_step {l : List Rt} {k : Nat} {p : Rt} (hp : l[k]? = some p) (s : Rt) : sumF s (l.drop k) = if (addA s p).2 = 0 then sumF (addA s p).1 (l.drop (k + 1)) else (⟨0, 0⟩, (addA s p).2) := by
  obtain ⟨hk, e⟩ := List.getElem?_eq_some_iff.1 hp
  rw [List.drop_eq_getElem_cons hk, e]
  rfl
theorem sumF_end (l : List Rt) (s : Rt) : sumF s (l.drop l.length) = (s, 0) := by rw [List.drop_length]; rfl
theorem low_in (q : Rat) : RtIn (low q).1 := by
  unfold low
  by_cases h : fitsQ q = true
  · rw [if_pos h]
    have h2 : _ := of_decide_eq_true h
    unfold RtIn I64
    simp only
    omega
  · rw [if_neg h]
    exact ⟨⟨by simp, by simp⟩, ⟨by simp, by simp⟩⟩
theorem addA_in (a b : Rt) : RtIn (addA a b).1 := by
  unfold addA
  split
  · exact low_in _
  · exact ⟨⟨by simp [bad], by simp [bad]⟩, ⟨by simp [bad], by simp [bad]⟩⟩
/-- What Least and Most tell. -/
def bestF (side : Int) (b : Rt) : List Rt → Rt
  | [] => b
  | r :: t => bestF side (if cmpI r b = side then r else b) t
def bestA (side : Int) (l : List Rt) : Rt × Bool := match l with
  | [] => (⟨0, 0⟩, false)
  | b :: t => (bestF side b t, true)
theorem bestF_step {l : List Rt} {k : Nat} {p : Rt} (hp : l[k]? = some p) (side : Int) (b : Rt) : bestF side b (l.drop k) = bestF side (if cmpI p b = side then p else b) (l.drop (k + 1)) := by
  obtain ⟨hk, e⟩ := List.getElem?_eq_some_iff.1 hp
  rw [List.drop_eq_getElem_cons hk, e]
  rfl
theorem bestF_end (l : List Rt) (side : Int) (b : Rt) : bestF side b (l.drop l.length) = b := by rw [List.drop_length]; rfl
end Go.Proofs.YtknpgifloddflaaGreatDoor

/- The contracts of ratio.outermost, Least, Most. -/
namespace Go.Proofs.YtknpgifloddflaaGreatDoor
open Go.RowKit Go.Shelf
attribute [local go_sem] Oper.semAt_some

theorem addr_tail (a : Addr) (i : Nat) : (⟨a.block, a.off + 2, none⟩ : Addr).add (i * 2) = a.add ((i + 1) * 2) ∧ (⟨a.block, a.off + 2, none⟩ : Addr).add (i * 2 + 1) = a.add ((i + 1) * 2 + 1) := by
  unfold Addr.add
  constructor
  · by_cases h : i = 0
    · subst h; rfl
    · rw [if_neg (by omega), if_neg (by omega)]; simp only [Addr.mk.injEq, and_true, true_and]; omega
  · rw [if_neg (by omega), if_neg (by omega)]; simp only [Addr.mk.injEq, and_true, true_and]; omega
theorem addr_flat (b o n : Nat) : (⟨b, o, none⟩ : Addr).add n = ⟨b, o + n, none⟩ := by
  unfold Addr.add
  by_cases h : n = 0
  · subst h; rfl
  · rw [if_neg h]
theorem RowAt.tail {l : List Rt} {a : Addr} {V : World} (h : RowAt l a V) : RowAt (l.drop 1) ⟨a.block, a.off + 2, none⟩ V := by
  refine ⟨h.1, fun i p hp => ?_⟩
  rw [List.getElem?_drop] at hp
  rw [(addr_tail a i).1, (addr_tail a i).2, Nat.add_comm i 1]
  exact h.2 (1 + i) p hp

set_option maxRecDepth 100000 in
set_option maxHeartbeats 1000000 in
theorem outer_one (b0 : Rt) (side : Int) (a : Addr) (w : World) (hR : RowAt [b0] a w) :
    Calls Tryz.prog 53 #[.slice (some a) 1 1, .int .i64 side] w fun e w' => e = .returned (.tuple #[rtv b0, .bool true]) ∧ Below w.heap.size w w' := by
  obtain ⟨e0, e1⟩ := (hR.alloc (.cells #[.int .i64 0, .int .i64 0] 26)).pair (i := 0) (p := b0) rfl
  rw [show a.add (0 * 2) = a from rfl] at e0 e1
  unfold rtv
  go_enter Tryz.func53, Tryz.ntmps53
  go_wp2_with fail
  go_loopw [19] (fun i wr => i = .int .i64 0 ∧ Two wr w.heap.size (.int .i64 0) (.int .i64 0) ∧ Two wr (w.heap.size + 1) (.int .i64 b0.N) (.int .i64 b0.D) ∧ Below w.heap.size w wr) (fun _ _ => 0)
  case atStart =>
    refine ⟨rfl, (Two.new w (.int .i64 0) (.int .i64 0) 26).alloc _, ?_, bel2 w _ _⟩
    have := Two.new (w.alloc (.cells #[.int .i64 0, .int .i64 0] 26)) (.int .i64 b0.N) (.int .i64 b0.D) 26
    rwa [show (w.alloc (.cells #[.int .i64 0, .int .i64 0] 26)).heap.size = w.heap.size + 1 by simp] at this
  case round =>
    obtain ⟨rfl, T0, T1, hB⟩ := hrel
    obtain ⟨_, s0, s1, _, _⟩ := id T1
    obtain ⟨_, n0, n1, n2, n3⟩ := id T0
    go_wp2_with fail
    exact bodyPost_ret (v := .tuple #[.agg #[.int .i64 b0.N, .int .i64 b0.D], .bool true]) (by simp [results, Tryz.results53, go_sem, n0, n1]) rfl ⟨rfl, (hB.setCell (by simp) _).setCell (by simp) _⟩

set_option maxRecDepth 100000 in
set_option maxHeartbeats 1000000 in
theorem outer_walk (l t : List Rt) (hl : ∀ p ∈ l, RtIn p) (b0 : Rt) (hb0 : l[0]? = some b0) (ht : l.drop 1 = t) (side : Int) (a : Addr) (cap : Nat) (hc : l.length ≤ cap ∧ cap ≤ maxLen) (h1 : ¬ cap = 1) (w : World) (hR : RowAt l a w) :
    Calls Tryz.prog 53 #[.slice (some a) l.length cap, .int .i64 side] w fun e w' => e = .returned (.tuple #[rtv (bestF side b0 t), .bool true]) ∧ Below w.heap.size w w' := by
  have hmx : maxLen ≤ 9223372036854775807 := by decide
  obtain ⟨R, eR⟩ : ∃ R, bestF side b0 t = R := ⟨_, rfl⟩
  rw [eR]
  have ER := hideR eR
  have hn : 0 < l.length := (List.getElem?_eq_some_iff.1 hb0).1
  have hi0 := hideR (hl b0 (List.mem_of_getElem? hb0))
  have hRt := hR.tail
  have HT := hideR (show ∀ p ∈ t, RtIn p from fun p hp => hl p (List.mem_of_mem_drop (by rw [ht]; exact hp)))
  rw [ht] at hRt
  have htl : t.length = l.length - 1 := by rw [← ht, List.length_drop]
  obtain ⟨e0, e1⟩ := (hR.alloc (.cells #[.int .i64 0, .int .i64 0] 26)).pair hb0
  rw [show a.add (0 * 2) = a from rfl] at e0 e1
  clear eR hb0 ht
  unfold rtv
  have hz : ((l.length : Int) == 0) = false := by rw [beq_eq_false_iff_ne]; omega
  have HL := hideR htl
  clear htl
  go_enter Tryz.func53, Tryz.ntmps53
  go_wp2_with fail
  go_loopw [19] (fun i wr => ∃ (k : Nat) (b : Rt), i = .int .i64 k ∧ k ≤ l.length - 1 ∧ RtIn b ∧ bestF side b (t.drop k) = R ∧ Two wr w.heap.size (.int .i64 0) (.int .i64 0) ∧ Two wr (w.heap.size + 1) (.int .i64 b.N) (.int .i64 b.D) ∧ Below w.heap.size w wr) (fun i _ => l.length - 1 - (intOf i).toNat)
  case atStart =>
    refine ⟨0, b0, rfl, Nat.zero_le _, hi0.out, ER.out, (Two.new w (.int .i64 0) (.int .i64 0) 26).alloc _, ?_, bel2 w _ _⟩
    have := Two.new (w.alloc (.cells #[.int .i64 0, .int .i64 0] 26)) (.int .i64 b0.N) (.int .i64 b0.D) 26
    rwa [show (w.alloc (.cells #[.int .i64 0, .int .i64 0] 26)).heap.size = w.heap.size + 1 by simp] at this
  case round =>
    clear e0 e1
    obtain ⟨k, b, rfl, hk, hbi, hr, T0, T1, hB⟩ := hrel
    have HR := hideR hr
    clear hr
    have z1 : w.heap.size + 1 < wr.heap.size := T1.1
    by_cases hk2 : k < l.length - 1
    · obtain ⟨p, hp⟩ : ∃ p, t[k]? = some p := ⟨_, List.getElem?_eq_getElem (by rw [HL.out]; exact hk2)⟩
      have HS := hideR (bestF_step hp side b)
      have hpi := HT.out p (List.mem_of_getElem? hp)
      have HC := cmp_any p b hpi hbi
      obtain ⟨d0, d1⟩ := (hRt.old hB).pair hp
      rw [addr_flat] at d0 d1
      clear hp
      unfold rtv at HC
      have HQ := hideR (show bestF side b (t.drop k) = bestF side (if cmpI p b = side then p else b) (t.drop (k + 1)) from HS.out)
      generalize cmpI p b = c at HC HQ
      have HC := hideR HC
      clear HS
      have T0a := T0.alloc (.cells #[.int .i64 p.N, .int .i64 p.D] 26)
      have T1a := T1.alloc (.cells #[.int .i64 p.N, .int .i64 p.D] 26)
      have P1a := Two.new wr (.int .i64 p.N) (.int .i64 p.D) 26
      have Ba := bup hB (bel1 wr (.cells #[.int .i64 p.N, .int .i64 p.D] 26))
      obtain ⟨_, s0, s1, _, _⟩ := id T1a
      clear T0 T1 hB
      go_wp2_with fail
      go_at_call 44
      refine Calls.mono (HC.out _) ?_
      rintro e w2 ⟨rfl, b2⟩
      have T0b := T0a.keep b2
      have T1b := T1a.keep b2
      have P1b := P1a.keep b2
      have Bb := bup Ba b2
      clear T0a T1a P1a Ba b2 s0 s1 d0 d1
      obtain ⟨_, s0, s1, s2, s3⟩ := id T1b
      obtain ⟨_, p0, p1, _, _⟩ := id P1b
      by_cases he : c = side
      · have HE := hideR (HQ.out.trans (by rw [if_pos he]))
        have hcs : (c == side) = true := by simpa using he
        have T0c := T0b.other (S := w.heap.size + 1) (x2 := .int .i64 p.N) (y2 := .int .i64 p.D) (by omega)
        have T1c := T1b.set (x2 := .int .i64 p.N) (y2 := .int .i64 p.D)
        have Bc := (Bb.setCell (p := ⟨w.heap.size + 1, 0, none⟩) (by simp) (.int .i64 p.N)).setCell (p := ⟨w.heap.size + 1, 1, none⟩) (by simp) (.int .i64 p.D)
        clear he
        go_wp2_with fail
        refine ⟨⟨k + 1, p, by go_num, by omega, hpi, HE.out.symm.trans HR.out, T0c, T1c, Bc⟩, ?_⟩
        simp [intOf]
        omega
      · have HE := hideR (HQ.out.trans (by rw [if_neg he]))
        have hcs : (c == side) = false := by simpa using he
        clear he
        go_wp2_with fail
        refine ⟨⟨k + 1, b, by go_num, by omega, hbi, HE.out.symm.trans HR.out, T0b, T1b, Bb⟩, ?_⟩
        simp [intOf]
        omega
    · obtain rfl : k = l.length - 1 := by omega
      have HE := hideR (bestF_end t side b)
      obtain ⟨_, s0, s1, _, _⟩ := id T1
      obtain ⟨_, n0, n1, n2, n3⟩ := id T0
      go_wp2_with fail
      exact bodyPost_ret (v := .tuple #[.agg #[.int .i64 b.N, .int .i64 b.D], .bool true]) (by simp [results, Tryz.results53, go_sem, n0, n1]) rfl ⟨by rw [← HR.out, ← HL.out, HE.out], (hB.setCell (by simp) _).setCell (by simp) _⟩
end Go.Proofs.YtknpgifloddflaaGreatDoor

/- Contracts of cue.Check at a cue from 0 to 1 of a text without spans, of speed.checkText, right, wants, Wants. -/
namespace Go.Proofs.YtknpgifloddflaaGreatDoor
open Go.RowKit Go.Shelf

set_option maxRecDepth 100000 in
set_option maxHeartbeats 400000 in
theorem checkName_none (w : World) : Calls Tryz.prog 45 #[.string ByteArray.empty] w fun e w' => e = .returned (.int .i64 0) ∧ Below w.heap.size w w' := by
  go_enter Tryz.func45, Tryz.ntmps45
  go_wp2_with (go_at_call 64; refine (name_none _).mono ?_; rintro e w1 ⟨rfl, b1⟩)
  go_ret
  exact ⟨rfl, b1⟩

theorem Below.drew_of {A B : World} (h : Below A.drew.heap.size A.drew B) : Below A.heap.size A B := (Below.refl A.heap.size A).drew.trans h

/-- A cue from 0 to 1 of a text without spans, in a block of its own. -/
def CueAt (w : World) (B : Nat) (s : ByteArray) : Prop := w.heap[B]? = some (.cells #[.int .i64 0, .int .i64 1, .int .i64 1, .int .i64 1, .int .i64 0, .int .i64 0, .string ByteArray.empty, .string s, .slice none 0 0] 58)
theorem CueAt.cells {w : World} {B : Nat} {s : ByteArray} (h : CueAt w B s) :
    (w.cell? ⟨B, 0, none⟩ = some (.int .i64 0) ∧ w.cell? ⟨B, 1, none⟩ = some (.int .i64 1) ∧ w.cell? ⟨B, 2, none⟩ = some (.int .i64 1) ∧ w.cell? ⟨B, 3, none⟩ = some (.int .i64 1)) ∧
    (w.cell? ⟨B, 4, none⟩ = some (.int .i64 0) ∧ w.cell? ⟨B, 5, none⟩ = some (.int .i64 0)) ∧ (w.cell? ⟨B, 6, none⟩ = some (.string ByteArray.empty) ∧ w.cell? ⟨B, 7, none⟩ = some (.string s) ∧ w.cell? ⟨B, 8, none⟩ = some (.slice none 0 0)) := by
  simp [World.cell?, show w.heap[B]? = _ from h]
theorem CueAt.keep {w w' : World} {B : Nat} {s : ByteArray} (h : CueAt w B s) (b : Below w.heap.size w w') : CueAt w' B s := (b.block B (Array.getElem?_eq_some_iff.1 h).1).trans h
theorem CueAt.lt {w : World} {B : Nat} {s : ByteArray} (h : CueAt w B s) : B < w.heap.size := (Array.getElem?_eq_some_iff.1 h).1
theorem time_0 (w : World) : Calls Tryz.prog 24 #[.agg #[.int .i64 0, .int .i64 1]] w fun e w' => e = .returned (.int .i64 0) ∧ Below w.heap.size w w' :=
  (time_any ⟨0, 1⟩ ⟨⟨by simp, by simp⟩, ⟨by simp, by simp⟩⟩ w)
theorem time_1 (w : World) : Calls Tryz.prog 24 #[.agg #[.int .i64 1, .int .i64 1]] w fun e w' => e = .returned (.int .i64 0) ∧ Below w.heap.size w w' :=
  (time_any ⟨1, 1⟩ ⟨⟨by simp, by simp⟩, ⟨by simp, by simp⟩⟩ w)
theorem cmp_01 (w : World) : Calls Tryz.prog 44 #[.agg #[.int .i64 0, .int .i64 1], .agg #[.int .i64 1, .int .i64 1]] w fun e w' => e = .returned (.int .i64 (-1)) ∧ Below w.heap.size w w' :=
  (cmp_any ⟨0, 1⟩ ⟨1, 1⟩ ⟨⟨by simp, by simp⟩, ⟨by simp, by simp⟩⟩ ⟨⟨by simp, by simp⟩, ⟨by simp, by simp⟩⟩ w)
theorem or_zero (B : Nat) (w : World) (h0 : w.cell? ⟨B, 0, none⟩ = some (.int .i64 0)) (h1 : w.cell? ⟨B, 1, none⟩ = some (.int .i64 0)) :
    Calls Tryz.prog 26 #[.slice (some ⟨B, 0, none⟩) 2 2] w fun e w' => e = .returned (.int .i64 0) ∧ Below w.heap.size w w' := or_two 0 0 B w h0 h1

set_option maxRecDepth 100000 in
set_option maxHeartbeats 400000 in
theorem cuecheck_plain (s : ByteArray) (hs : s.size ≤ 4096) (w : World) :
    Calls Tryz.prog 22 #[.agg #[.int .i64 0, .int .i64 1, .int .i64 1, .int .i64 1, .int .i64 0, .int .i64 0, .string ByteArray.empty, .string s, .slice none 0 0]] w fun e w' => e = .returned (.int .i64 0) ∧ Below w.heap.size w w' := by
  go_enter Tryz.func22, Tryz.ntmps22
  go_wp2_with fail
  have Q0 : CueAt (w.alloc (.cells #[.int .i64 0, .int .i64 1, .int .i64 1, .int .i64 1, .int .i64 0, .int .i64 0, .string ByteArray.empty, .string s, .slice none 0 0] 58)) w.heap.size s := World.alloc_heap_new w _
  have B0 : Below w.heap.size w (w.alloc (.cells #[.int .i64 0, .int .i64 1, .int .i64 1, .int .i64 1, .int .i64 0, .int .i64 0, .string ByteArray.empty, .string s, .slice none 0 0] 58)) := (Below.refl _ w).alloc (Nat.le_refl _) _
  generalize w.alloc (.cells #[.int .i64 0, .int .i64 1, .int .i64 1, .int .i64 1, .int .i64 0, .int .i64 0, .string ByteArray.empty, .string s, .slice none 0 0] 58) = V at *
  have B0 := hideC B0
  have ⟨⟨c0, c1, c2, c3⟩, ⟨c4, c5⟩, ⟨c6, c7, c8⟩⟩ := Q0.cells
  have Q0 := hideC Q0
  go_region_held3 (fun w' => w'.cell? ⟨w.heap.size, 0, none⟩ = some (.int .i64 0) ∧ w'.cell? ⟨w.heap.size, 1, none⟩ = some (.int .i64 1) ∧ w'.cell? ⟨w.heap.size, 2, none⟩ = some (.int .i64 1) ∧ w'.cell? ⟨w.heap.size, 3, none⟩ = some (.int .i64 1)) (first | go_keep | assumption) (first
    | (go_at_call 24; (with_reducible refine (time_0 _).mono ?_); rintro e w1 ⟨rfl, b1⟩; have Q1 := hideC (Q0.out.keep (Below.drew_of b1)); have ⟨⟨d0, d1, d2, d3⟩, _⟩ := Q1.out.cells)
    | (go_at_call 24; (with_reducible refine (time_1 _).mono ?_); rintro e w2 ⟨rfl, b2⟩; have Q2 := hideC (Q1.out.keep b2); have ⟨⟨e0, e1, e2, e3⟩, _⟩ := Q2.out.cells)
    | (go_at_call 26; (with_reducible refine (or_zero _ _ (cell_two_newA _ _ _ _) (cell_two_newB _ _ _ _)).mono ?_); rintro e w3 ⟨rfl, b3⟩; have Q3 := hideC ((Q2.out.keep (bel1 _ _)).keep b3); have ⟨⟨f0, f1, f2, f3⟩, _⟩ := Q3.out.cells))
  have B3 := hideC (((B0.out.trans ((Below.drew_of b1).mono (by have := B0.out.size; omega))).trans (b2.mono (Nat.le_trans B0.out.size (Below.drew_of b1).size))).trans ((bel1 _ _).trans (b3.mono (by simp))|>.mono (Nat.le_trans (Nat.le_trans B0.out.size (Below.drew_of b1).size) b2.size)))
  clear b1 b2 b3 Q0 Q1 Q2 B0 c0 c1 c2 c3 c4 c5 c6 c7 c8 d0 d1 d2 d3 e0 e1 e2 e3 f0 f1 f2 f3
  obtain ⟨⟨c0, c1, c2, c3⟩, ⟨c4, c5⟩, ⟨c6, c7, c8⟩⟩ := Q3.out.cells
  go_wp2_with fail
  refine (cmp_01 _).mono ?_
  rintro e w4 ⟨rfl, b4⟩
  have Q4 := hideC (Q3.out.keep b4)
  have B4 := hideC (B3.out.trans (b4.mono B3.out.size))
  clear b4 Q3 B3 c0 c1 c2 c3 c4 c5 c6 c7 c8
  obtain ⟨⟨c0, c1, c2, c3⟩, ⟨c4, c5⟩, ⟨c6, c7, c8⟩⟩ := Q4.out.cells
  go_wp2_with fail
  go_region_held3 (fun w' => w'.cell? ⟨w.heap.size, 6, none⟩ = some (.string ByteArray.empty) ∧ w'.cell? ⟨w.heap.size, 7, none⟩ = some (.string s) ∧ w'.cell? ⟨w.heap.size, 8, none⟩ = some (.slice none 0 0)) (first | go_keep | assumption) (first
    | (go_at_call 45; (with_reducible refine (checkName_none _).mono ?_); rintro e w5 ⟨rfl, b5⟩; have Q5 := hideC (Q4.out.keep (Below.drew_of b5)); have ⟨_, _, ⟨d6, d7, d8⟩⟩ := Q5.out.cells)
    | (go_at_call 46; (with_reducible refine (stcheck_plain s hs _).mono ?_); rintro e w6 ⟨rfl, b6⟩; have Q6 := hideC (Q5.out.keep b6); have ⟨_, _, ⟨e6, e7, e8⟩⟩ := Q6.out.cells)
    | (go_at_call 26; (with_reducible refine (or_zero _ _ (cell_two_newA _ _ _ _) (cell_two_newB _ _ _ _)).mono ?_); rintro e w7 ⟨rfl, b7⟩; have Q7 := hideC ((Q6.out.keep (bel1 _ _)).keep b7); have ⟨_, _, ⟨f6, f7, f8⟩⟩ := Q7.out.cells))
  have B7 := hideC (((B4.out.trans ((Below.drew_of b5).mono B4.out.size)).trans (b6.mono (Nat.le_trans B4.out.size (Below.drew_of b5).size))).trans ((bel1 _ _).trans (b7.mono (by simp))|>.mono (Nat.le_trans (Nat.le_trans B4.out.size (Below.drew_of b5).size) b6.size)))
  clear b5 b6 b7 Q4 Q5 Q6 B4 c0 c1 c2 c3 c4 c5 c6 c7 c8 d6 d7 d8 e6 e7 e8 f6 f7 f8
  go_wp2
  go_ret
  exact ⟨rfl, B7.out⟩

set_option maxRecDepth 100000 in
set_option maxHeartbeats 400000 in
theorem checkText_plain (s : ByteArray) (hs : s.size ≤ 4096) (w : World) :
    Calls Tryz.prog 12 #[.agg #[.string s, .slice none 0 0]] w fun e w' => e = .returned (.int .i64 0) ∧ Below w.heap.size w w' := by
  go_enter Tryz.func12, Tryz.ntmps12
  go_wp2_with (go_at_call 22; refine (cuecheck_plain s hs _).mono ?_; rintro e w1 ⟨rfl, b1⟩)
  go_ret
  exact ⟨rfl, (bel1 _ _).trans (b1.mono (by simp))⟩

end Go.Proofs.YtknpgifloddflaaGreatDoor

/- cue.Check at every cue, what its name's check tells given; speed.checkText at every text. -/
namespace Go.Proofs.YtknpgifloddflaaGreatDoor
open Go.RowKit Go.Shelf

/-- A cue in a block of its own. -/
def CueC (w : World) (B : Nat) (a b c d la sd : Int) (nm s : ByteArray) (v : Value) : Prop := w.heap[B]? = some (.cells #[.int .i64 a, .int .i64 b, .int .i64 c, .int .i64 d, .int .i64 la, .int .i64 sd, .string nm, .string s, v] 58)
theorem CueC.cells {w : World} {B : Nat} {a b c d la sd : Int} {nm s : ByteArray} {v : Value} (h : CueC w B a b c d la sd nm s v) :
    (w.cell? ⟨B, 0, none⟩ = some (.int .i64 a) ∧ w.cell? ⟨B, 1, none⟩ = some (.int .i64 b) ∧ w.cell? ⟨B, 2, none⟩ = some (.int .i64 c) ∧ w.cell? ⟨B, 3, none⟩ = some (.int .i64 d)) ∧
    (w.cell? ⟨B, 4, none⟩ = some (.int .i64 la) ∧ w.cell? ⟨B, 5, none⟩ = some (.int .i64 sd)) ∧ (w.cell? ⟨B, 6, none⟩ = some (.string nm) ∧ w.cell? ⟨B, 7, none⟩ = some (.string s) ∧ w.cell? ⟨B, 8, none⟩ = some v) := by
  simp [World.cell?, show w.heap[B]? = _ from h]
theorem CueC.keep {w w' : World} {B : Nat} {a b c d la sd : Int} {nm s : ByteArray} {v : Value} (h : CueC w B a b c d la sd nm s v) (bb : Below w.heap.size w w') : CueC w' B a b c d la sd nm s v := (bb.block B (Array.getElem?_eq_some_iff.1 h).1).trans h

/-- What cue.Check tells. -/
def chkC (e12 cc la sd e34 : Int) : Int := if ¬ e12 = 0 then e12 else if 0 ≤ cc then 32 else if la < 0 ∨ 8 ≤ la ∨ (¬ sd = 0 ∧ ¬ sd = 1) then 34 else e34

set_option maxRecDepth 100000 in
set_option maxHeartbeats 1000000 in
theorem cuecheck_walk (a b c d la sd : Int) (nm s : ByteArray) (v : Value) (e1 e2 e12 cc en et e34 : Int) (h12 : (if e1 = 0 then e2 else e1) = e12) (h34 : (if en = 0 then et else en) = e34) (w : World)
    (H1 : ∀ W, Calls Tryz.prog 24 #[.agg #[.int .i64 a, .int .i64 b]] W fun e w' => e = .returned (.int .i64 e1) ∧ Below W.heap.size W w')
    (H2 : ∀ W, Calls Tryz.prog 24 #[.agg #[.int .i64 c, .int .i64 d]] W fun e w' => e = .returned (.int .i64 e2) ∧ Below W.heap.size W w')
    (H3 : ∀ W, Calls Tryz.prog 44 #[.agg #[.int .i64 a, .int .i64 b], .agg #[.int .i64 c, .int .i64 d]] W fun e w' => e = .returned (.int .i64 cc) ∧ Below W.heap.size W w')
    (H4 : ∀ W, Calls Tryz.prog 45 #[.string nm] W fun e w' => e = .returned (.int .i64 en) ∧ Below W.heap.size W w')
    (H5 : ∀ W, Below w.heap.size w W → Calls Tryz.prog 46 #[.agg #[.string s, v]] W fun e w' => e = .returned (.int .i64 et) ∧ Below W.heap.size W w') :
    Calls Tryz.prog 22 #[.agg #[.int .i64 a, .int .i64 b, .int .i64 c, .int .i64 d, .int .i64 la, .int .i64 sd, .string nm, .string s, v]] w fun e w' => e = .returned (.int .i64 (chkC e12 cc la sd e34)) ∧ Below w.heap.size w w' := by
  obtain ⟨R, hR⟩ : ∃ R, chkC e12 cc la sd e34 = R := ⟨_, rfl⟩
  rw [hR]
  have HR := hideC hR
  have HO : ∀ B W, World.cell? W ⟨B, 0, none⟩ = some (.int .i64 e1) → World.cell? W ⟨B, 1, none⟩ = some (.int .i64 e2) → Calls Tryz.prog 26 #[.slice (some ⟨B, 0, none⟩) 2 2] W fun e w' => e = .returned (.int .i64 e12) ∧ Below W.heap.size W w' := fun B W g0 g1 => by
    have := or_two e1 e2 B W g0 g1
    rw [h12] at this
    exact this
  have HP : ∀ B W, World.cell? W ⟨B, 0, none⟩ = some (.int .i64 en) → World.cell? W ⟨B, 1, none⟩ = some (.int .i64 et) → Calls Tryz.prog 26 #[.slice (some ⟨B, 0, none⟩) 2 2] W fun e w' => e = .returned (.int .i64 e34) ∧ Below W.heap.size W w' := fun B W g0 g1 => by
    have := or_two en et B W g0 g1
    rw [h34] at this
    exact this
  clear hR h12 h34
  replace HO := hideC HO
  replace HP := hideC HP
  replace H1 := hideC H1
  replace H2 := hideC H2
  replace H3 := hideC H3
  replace H4 := hideC H4
  replace H5 := hideC H5
  go_enter Tryz.func22, Tryz.ntmps22
  go_wp2_with fail
  have Q0 : CueC (w.alloc (.cells #[.int .i64 a, .int .i64 b, .int .i64 c, .int .i64 d, .int .i64 la, .int .i64 sd, .string nm, .string s, v] 58)) w.heap.size a b c d la sd nm s v := World.alloc_heap_new w _
  have B0 : Below w.heap.size w (w.alloc (.cells #[.int .i64 a, .int .i64 b, .int .i64 c, .int .i64 d, .int .i64 la, .int .i64 sd, .string nm, .string s, v] 58)) := (Below.refl _ w).alloc (Nat.le_refl _) _
  generalize w.alloc (.cells #[.int .i64 a, .int .i64 b, .int .i64 c, .int .i64 d, .int .i64 la, .int .i64 sd, .string nm, .string s, v] 58) = V at *
  have B0 := hideC B0
  have ⟨⟨c0, c1, c2, c3⟩, ⟨c4, c5⟩, ⟨c6, c7, c8⟩⟩ := Q0.cells
  have Q0 := hideC Q0
  go_region_held3 (fun w' => w'.cell? ⟨w.heap.size, 0, none⟩ = some (.int .i64 a) ∧ w'.cell? ⟨w.heap.size, 1, none⟩ = some (.int .i64 b) ∧ w'.cell? ⟨w.heap.size, 2, none⟩ = some (.int .i64 c) ∧ w'.cell? ⟨w.heap.size, 3, none⟩ = some (.int .i64 d)) (first | go_keep | assumption) (first
    | (go_at_call 24; (with_reducible refine (H1.out V.drew).mono ?_); rintro e w1 ⟨rfl, b1⟩; have Q1 := hideC (Q0.out.keep (Below.drew_of b1)); have ⟨⟨d0, d1, d2, d3⟩, _⟩ := Q1.out.cells)
    | (go_at_call 24; (with_reducible refine (H2.out _).mono ?_); rintro e w2 ⟨rfl, b2⟩; have Q2 := hideC (Q1.out.keep b2); have ⟨⟨e0, e1', e2', e3⟩, _⟩ := Q2.out.cells)
    | (go_at_call 26; (with_reducible refine (HO.out _ _ (cell_two_newA _ _ _ _) (cell_two_newB _ _ _ _)).mono ?_); rintro e w3 ⟨rfl, b3⟩; have Q3 := hideC ((Q2.out.keep (bel1 _ _)).keep b3); have ⟨⟨f0, f1, f2, f3⟩, _⟩ := Q3.out.cells))
  have B3 := hideC (((B0.out.trans ((Below.drew_of b1).mono (by have := B0.out.size; omega))).trans (b2.mono (Nat.le_trans B0.out.size (Below.drew_of b1).size))).trans ((bel1 _ _).trans (b3.mono (by simp))|>.mono (Nat.le_trans (Nat.le_trans B0.out.size (Below.drew_of b1).size) b2.size)))
  clear b1 b2 b3 Q0 Q1 Q2 B0 c0 c1 c2 c3 c4 c5 c6 c7 c8 d0 d1 d2 d3 e0 e1' e2' e3 f0 f1 f2 f3 H1 H2 HO
  by_cases g1 : e12 = 0
  · subst g1
    obtain ⟨⟨c0, c1, c2, c3⟩, ⟨c4, c5⟩, ⟨c6, c7, c8⟩⟩ := Q3.out.cells
    go_wp2_with fail
    refine (H3.out _).mono ?_
    rintro e w4 ⟨rfl, b4⟩
    have Q4 := hideC (Q3.out.keep b4)
    have B4 := hideC (B3.out.trans (b4.mono B3.out.size))
    clear b4 Q3 B3 c0 c1 c2 c3 c4 c5 c6 c7 c8 H3
    obtain ⟨⟨c0, c1, c2, c3⟩, ⟨c4, c5⟩, ⟨c6, c7, c8⟩⟩ := Q4.out.cells
    by_cases g2 : 0 ≤ cc
    · have hr : R = 32 := by have := HR.out; unfold chkC at this; rw [if_neg (by simp), if_pos g2] at this; exact this.symm
      go_wp2_with fail
      go_ret
      exact ⟨(by rw [hr]; first | done | rfl), B4.out⟩
    have hr := HR.out
    unfold chkC at hr
    rw [if_neg (by simp), if_neg g2] at hr
    by_cases g3 : la < 0
    · rw [if_pos (.inl g3)] at hr
      have HQ := hideC hr.symm
      clear hr HR
      go_wp2_with fail
      go_ret
      exact ⟨(by rw [HQ.out]; first | done | rfl), B4.out⟩
    by_cases g4 : 8 ≤ la
    · rw [if_pos (.inr (.inl g4))] at hr
      have HQ := hideC hr.symm
      clear hr HR
      go_wp2_with fail
      go_ret
      exact ⟨(by rw [HQ.out]; first | done | rfl), B4.out⟩
    by_cases g5 : ¬ sd = 0 ∧ ¬ sd = 1
    · rw [if_pos (.inr (.inr g5))] at hr
      have HQ := hideC hr.symm
      have g6 : (sd != 0) = true := by simpa using g5.1
      have g7 : (sd != 1) = true := by simpa using g5.2
      obtain ⟨g8, g9⟩ := g5
      clear hr HR
      go_wp2_with fail
      go_ret
      exact ⟨(by rw [HQ.out]; first | done | rfl), B4.out⟩
    rw [if_neg (by rintro (h | h | h) <;> contradiction)] at hr
    have HQ := hideC hr.symm
    clear hr HR
    rcases (show sd = 0 ∨ sd = 1 by by_cases h : sd = 0 <;> by_cases k : sd = 1 <;> simp_all) with rfl | rfl
    all_goals
      clear g5
      go_wp2_with fail
      go_region_held3 (fun w' => w'.cell? ⟨w.heap.size, 6, none⟩ = some (.string nm) ∧ w'.cell? ⟨w.heap.size, 7, none⟩ = some (.string s) ∧ w'.cell? ⟨w.heap.size, 8, none⟩ = some v) (first | go_keep | assumption) (first
        | (go_at_call 45; (with_reducible refine (H4.out _).mono ?_); rintro e w5 ⟨rfl, b5⟩; have Q5 := hideC (Q4.out.keep (Below.drew_of b5)); have ⟨_, _, ⟨d6, d7, d8⟩⟩ := Q5.out.cells; have B5 := hideC (B4.out.trans ((Below.drew_of b5).mono B4.out.size)))
        | (go_at_call 46; (with_reducible refine (H5.out _ B5.out).mono ?_); rintro e w6 ⟨rfl, b6⟩; have Q6 := hideC (Q5.out.keep b6); have ⟨_, _, ⟨e6, e7, e8⟩⟩ := Q6.out.cells)
        | (go_at_call 26; (with_reducible refine (HP.out _ _ (cell_two_newA _ _ _ _) (cell_two_newB _ _ _ _)).mono ?_); rintro e w7 ⟨rfl, b7⟩; have Q7 := hideC ((Q6.out.keep (bel1 _ _)).keep b7); have ⟨_, _, ⟨f6, f7, f8⟩⟩ := Q7.out.cells))
      have B7 := hideC (((B4.out.trans ((Below.drew_of b5).mono B4.out.size)).trans (b6.mono (Nat.le_trans B4.out.size (Below.drew_of b5).size))).trans ((bel1 _ _).trans (b7.mono (by simp))|>.mono (Nat.le_trans (Nat.le_trans B4.out.size (Below.drew_of b5).size) b6.size)))
      clear b5 b6 b7 Q4 Q5 Q6 B4 c0 c1 c2 c3 c4 c5 c6 c7 c8 d6 d7 d8 e6 e7 e8 f6 f7 f8
      go_wp2
      go_ret
      exact ⟨(by rw [HQ.out]; first | done | rfl), B7.out⟩
  · have hr : R = e12 := by have := HR.out; unfold chkC at this; rw [if_pos g1] at this; exact this.symm
    have g6 : (e12 != 0) = true := by simpa using g1
    have HQ := hideC hr
    clear hr HR
    go_wp2_with fail
    go_ret
    exact ⟨(by rw [HQ.out]; first | done | rfl), B3.out⟩

set_option maxRecDepth 100000 in
set_option maxHeartbeats 400000 in
theorem checkText_any (s : ByteArray) (D : List Sp) (oa : Option Addr) (cap : Nat) (hs : s.size ≤ 140737488355328) (hc : D.length ≤ cap ∧ cap ≤ maxLen) (hn : oa = none → D = [] ∧ cap = 0) (w : World) (hR : SpO w oa D) :
    Calls Tryz.prog 12 #[.agg #[.string s, .slice oa D.length cap]] w fun e w' => e = .returned (.int .i64 (chkT s D)) ∧ Below w.heap.size w w' := by
  have H := hideC (fun W (b : Below w.heap.size w W) => cuecheck_walk 0 1 1 1 0 0 ByteArray.empty s (.slice oa D.length cap) 0 0 0 (-1) 0 (chkT s D) (chkT s D) rfl rfl W time_0 time_1 cmp_01 checkName_none (fun W' b' => check7_any s D oa cap hs hc hn W' (hR.keep (bup b b'))))
  obtain ⟨N, hN⟩ : ∃ N, D.length = N := ⟨_, rfl⟩
  obtain ⟨R, hRR⟩ : ∃ R, chkT s D = R := ⟨_, rfl⟩
  rw [show chkC 0 (-1) 0 0 (chkT s D) = chkT s D from by unfold chkC; simp, hN, hRR] at H
  rw [hN, hRR]
  clear hN hRR hR hn
  go_enter Tryz.func12, Tryz.ntmps12
  go_wp2_with fail
  refine (H.out _ (bel1 w _)).mono ?_
  rintro e w1 ⟨rfl, b1⟩
  have B1 := hideC (bup (bel1 _ _) b1)
  clear b1
  go_wp2_with fail
  go_ret
  exact ⟨rfl, B1.out⟩

end Go.Proofs.YtknpgifloddflaaGreatDoor

/- The contract of ratio.Sum. -/
namespace Go.Proofs.YtknpgifloddflaaGreatDoor
open Go.RowKit Go.Shelf
attribute [local go_sem] Oper.semAt_some

end Go.Proofs.YtknpgifloddflaaGreatDoor

/- The contract of surtitleref3.Sum. -/
namespace Go.Proofs.YtknpgifloddflaaGreatDoor
open Go.RowKit Go.Shelf
attribute [local go_sem] Oper.semAt_some

theorem RowAt.put {l : List Rt} {a : Addr} {V : World} {S i : Nat} {v : Value} (h : RowAt l a V) (n : S ≠ a.block) : RowAt l a (V.setCell ⟨S, i, none⟩ v) := by
  refine ⟨by simpa using h.1, fun j p hp => ?_⟩
  have ne : ∀ m, (⟨S, i, none⟩ : Addr) ≠ a.add m := fun m e => n ((congrArg Addr.block e).trans (addr_block a m))
  rw [World.cell?_setCell_other _ _ _ _ (ne _), World.cell?_setCell_other _ _ _ _ (ne _)]
  exact h.2 j p hp
theorem RowAt.drew {l : List Rt} {a : Addr} {V : World} (h : RowAt l a V) : RowAt l a V.drew := h
theorem c4 {l : List Rt} {a : Addr} {V : World} {A k : Nat} {x y : Value} {p : Rt} (t : Two V A x y) (h : RowAt l a V) (hp : l[k]? = some p) : V.cell? ⟨A, 0, none⟩ = some x ∧ V.cell? ⟨A, 1, none⟩ = some y ∧ V.cell? (a.add (k * 2)) = some (.int .i64 p.N) ∧ V.cell? ⟨(a.add (k * 2)).block, (a.add (k * 2)).off + 1, none⟩ = some (.int .i64 p.D) := ⟨t.2.1, t.2.2.1, (h.pair hp).1, (h.pair hp).2⟩
theorem two_put {V : World} {R S i : Nat} {x y v : Value} (h : Two V R x y) (n : S ≠ R) : Two (V.setCell ⟨S, i, none⟩ v) R x y := by
  obtain ⟨z, c0, c1, f0, f1⟩ := h
  have n2 : R ≠ S := fun e => n e.symm
  exact ⟨by simpa using z, by go_simp, by go_simp, by go_simp, by go_simp⟩

end Go.Proofs.YtknpgifloddflaaGreatDoor

/- The contract of surtitleref3.Best. -/
namespace Go.Proofs.YtknpgifloddflaaGreatDoor
open Go.RowKit Go.Shelf
attribute [local go_sem] Oper.semAt_some

end Go.Proofs.YtknpgifloddflaaGreatDoor

/- Rows of ratios that are empty; Least, Most. -/
namespace Go.Proofs.YtknpgifloddflaaGreatDoor
open Go.RowKit Go.Shelf
attribute [local go_sem] Oper.semAt_some

set_option maxRecDepth 100000 in
theorem outer_nil (o : Option Addr) (cap : Nat) (side : Int) (w : World) :
    Calls Tryz.prog 53 #[.slice o 0 cap, .int .i64 side] w fun e w' => e = .returned (.tuple #[.agg #[.int .i64 0, .int .i64 0], .bool false]) ∧ Below w.heap.size w w' := by
  go_enter Tryz.func53, Tryz.ntmps53
  go_wp2_with fail
  exact bodyPost_ret (v := .tuple #[.agg #[.int .i64 0, .int .i64 0], .bool false]) (by simp [results, Tryz.results53, go_sem]) rfl ⟨rfl, bel1 w _⟩

set_option maxRecDepth 100000 in
theorem most_wrap (w : World) (sl : Value) (x y : Int) (ok : Bool)
    (HO : ∀ w0, Below w.heap.size w w0 → Calls Tryz.prog 53 #[sl, .int .i64 1] w0 fun e w' => e = .returned (.tuple #[.agg #[.int .i64 x, .int .i64 y], .bool ok]) ∧ Below w0.heap.size w0 w') :
    Calls Tryz.prog 27 #[sl] w fun e w' => e = .returned (.tuple #[.agg #[.int .i64 x, .int .i64 y], .bool ok]) ∧ Below w.heap.size w w' := by
  have HO := hideR HO
  go_enter Tryz.func27, Tryz.ntmps27
  go_wp2_with fail
  go_at_call 53
  refine Calls.mono (HO.out _ (bel1 w _)) ?_
  rintro e w1 ⟨rfl, b1⟩
  have T1 := (Two.new w (.int .i64 0) (.int .i64 0) 26).keep b1
  have B1 := bup (bel1 w _) b1
  obtain ⟨_, n0, n1, n2, n3⟩ := id T1
  go_wp2_with fail
  exact bodyPost_ret (v := .tuple #[.agg #[.int .i64 x, .int .i64 y], .bool ok]) (by simp [results, Tryz.results27, go_sem, n0, n1]) rfl ⟨rfl, (B1.setCell (by simp) _).setCell (by simp) _⟩
end Go.Proofs.YtknpgifloddflaaGreatDoor

/- speed.Rules.right, pace.wants, Wants: walks over what their callees tell. -/
namespace Go.Proofs.YtknpgifloddflaaGreatDoor
open Go.RowKit Go.Shelf

/-- Rules in a block of their own. -/
def SixC (w : World) (B : Nat) (t : TypeId) (a0 a1 a2 a3 a4 a5 : Int) : Prop := w.heap[B]? = some (.cells #[.int .i64 a0, .int .i64 a1, .int .i64 a2, .int .i64 a3, .int .i64 a4, .int .i64 a5] t)
theorem SixC.cells {w : World} {B : Nat} {t : TypeId} {a0 a1 a2 a3 a4 a5 : Int} (h : SixC w B t a0 a1 a2 a3 a4 a5) :
    w.cell? ⟨B, 0, none⟩ = some (.int .i64 a0) ∧ w.cell? ⟨B, 1, none⟩ = some (.int .i64 a1) ∧ w.cell? ⟨B, 2, none⟩ = some (.int .i64 a2) ∧ w.cell? ⟨B, 3, none⟩ = some (.int .i64 a3) ∧ w.cell? ⟨B, 4, none⟩ = some (.int .i64 a4) ∧ w.cell? ⟨B, 5, none⟩ = some (.int .i64 a5) := by
  simp [World.cell?, show w.heap[B]? = _ from h]
theorem SixC.keep {w w' : World} {B : Nat} {t : TypeId} {a0 a1 a2 a3 a4 a5 : Int} (h : SixC w B t a0 a1 a2 a3 a4 a5) (b : Below w.heap.size w w') : SixC w' B t a0 a1 a2 a3 a4 a5 := (b.block B (Array.getElem?_eq_some_iff.1 h).1).trans h
theorem SixC.set {W : World} {B r : Nat} {t : TypeId} {a0 a1 a2 a3 a4 a5 : Int} {a b : Value} (h : SixC W B t a0 a1 a2 a3 a4 a5) (hr : B ≠ r) : SixC ((W.setCell ⟨r, 0, none⟩ a).setCell ⟨r, 1, none⟩ b) B t a0 a1 a2 a3 a4 a5 :=
  ((Below.heap_setCell _ _ _ _ hr).trans (Below.heap_setCell _ _ _ _ hr)).trans h
/-- A text in a block of its own. -/
def TxtV (w : World) (B : Nat) (s : ByteArray) (v : Value) : Prop := w.heap[B]? = some (.cells #[.string s, v] 24)
theorem TxtV.cells {w : World} {B : Nat} {s : ByteArray} {v : Value} (h : TxtV w B s v) : w.cell? ⟨B, 0, none⟩ = some (.string s) ∧ w.cell? ⟨B, 1, none⟩ = some v := by
  simp [World.cell?, show w.heap[B]? = _ from h]
theorem TxtV.keep {w w' : World} {B : Nat} {s : ByteArray} {v : Value} (h : TxtV w B s v) (b : Below w.heap.size w w') : TxtV w' B s v := (b.block B (Array.getElem?_eq_some_iff.1 h).1).trans h
theorem TxtV.set {W : World} {B r : Nat} {s : ByteArray} {v a b : Value} (h : TxtV W B s v) (hr : B ≠ r) : TxtV ((W.setCell ⟨r, 0, none⟩ a).setCell ⟨r, 1, none⟩ b) B s v :=
  ((Below.heap_setCell _ _ _ _ hr).trans (Below.heap_setCell _ _ _ _ hr)).trans h
theorem cell_two_setD {W : World} {k o r : Nat} {a b v : Value} (h : k ≠ r) (hc : W.cell? ⟨k, o, none⟩ = some v) : ((W.setCell ⟨r, 0, none⟩ a).setCell ⟨r, 1, none⟩ b).cell? ⟨k, o, none⟩ = some v :=
  (World.cell?_of_block ((Below.heap_setCell _ _ _ _ h).trans (Below.heap_setCell _ _ _ _ h))).trans hc
theorem cell_old_allocD {W : World} {k o : Nat} {ob : Obj} (h : k < W.heap.size) : (W.alloc ob).cell? ⟨k, o, none⟩ = W.cell? ⟨k, o, none⟩ := World.cell?_of_block (Below.heap_alloc _ _ _ h)
theorem Two.cellsD {V : World} {R : Nat} {x y : Value} (h : Two V R x y) : V.cell? ⟨R, 0, none⟩ = some x ∧ V.cell? ⟨R, 1, none⟩ = some y ∧ V.frozen? ⟨R, 0, none⟩ = false ∧ V.frozen? ⟨R, 1, none⟩ = false := h.2
/-- What lies at the head of pace.wants. -/
structure PcV (w : World) (s : ByteArray) (v : Value) (a0 a1 a2 a3 a4 a5 : Int) (W : World) : Prop where
  below : Below w.heap.size w W
  six : SixC W w.heap.size 44 a0 a1 a2 a3 a4 a5
  txt : TxtV W (w.heap.size + 1) s v
  res : Two W (w.heap.size + 1 + 1) (.int .i64 0) (.int .i64 0)
theorem PcV.keep {w W W' : World} {s : ByteArray} {v : Value} {a0 a1 a2 a3 a4 a5 : Int} (h : PcV w s v a0 a1 a2 a3 a4 a5 W) (b : Below W.heap.size W W') : PcV w s v a0 a1 a2 a3 a4 a5 W' := ⟨bup h.below b, h.six.keep b, h.txt.keep b, h.res.keep b⟩
theorem PcV.set {w W : World} {s : ByteArray} {v : Value} {a0 a1 a2 a3 a4 a5 : Int} {r : Nat} {a b : Value} (h : PcV w s v a0 a1 a2 a3 a4 a5 W) (hr : w.heap.size + 1 + 1 < r) : PcV w s v a0 a1 a2 a3 a4 a5 ((W.setCell ⟨r, 0, none⟩ a).setCell ⟨r, 1, none⟩ b) :=
  ⟨(h.below.setCell (by simp; omega) _).setCell (by simp; omega) _, h.six.set (by omega), h.txt.set (by omega), h.res.other (by omega)⟩
theorem PcV.facts {w W : World} {s : ByteArray} {v : Value} {a0 a1 a2 a3 a4 a5 : Int} (h : PcV w s v a0 a1 a2 a3 a4 a5 W) : (W.cell? ⟨w.heap.size, 0, none⟩ = some (.int .i64 a0) ∧ W.cell? ⟨w.heap.size, 1, none⟩ = some (.int .i64 a1) ∧ W.cell? ⟨w.heap.size, 2, none⟩ = some (.int .i64 a2) ∧ W.cell? ⟨w.heap.size, 3, none⟩ = some (.int .i64 a3)) ∧ (W.cell? ⟨w.heap.size + 1, 0, none⟩ = some (.string s) ∧ W.cell? ⟨w.heap.size + 1, 1, none⟩ = some v) :=
  ⟨⟨h.six.cells.1, h.six.cells.2.1, h.six.cells.2.2.1, h.six.cells.2.2.2.1⟩, h.txt.cells⟩

theorem row_two_newD (w : World) (a b c d : Int) (t : TypeId) : RowAt [⟨a, b⟩, ⟨c, d⟩] ⟨w.heap.size, 0, none⟩ (w.alloc (.cells #[.int .i64 a, .int .i64 b, .int .i64 c, .int .i64 d] t)) := by
  have h : (w.alloc (.cells #[.int .i64 a, .int .i64 b, .int .i64 c, .int .i64 d] t)).heap[w.heap.size]? = some (.cells #[.int .i64 a, .int .i64 b, .int .i64 c, .int .i64 d] t) := World.alloc_heap_new w _
  have hz : w.heap.size < (w.alloc (.cells #[.int .i64 a, .int .i64 b, .int .i64 c, .int .i64 d] t)).heap.size := by simp
  generalize w.alloc (.cells #[.int .i64 a, .int .i64 b, .int .i64 c, .int .i64 d] t) = W at *
  have c0 : W.cell? ⟨w.heap.size, 0, none⟩ = some (.int .i64 a) := by unfold World.cell?; rw [h]; rfl
  have c1 : W.cell? ⟨w.heap.size, 1, none⟩ = some (.int .i64 b) := by unfold World.cell?; rw [h]; rfl
  have c2 : W.cell? ⟨w.heap.size, 2, none⟩ = some (.int .i64 c) := by unfold World.cell?; rw [h]; rfl
  have c3 : W.cell? ⟨w.heap.size, 3, none⟩ = some (.int .i64 d) := by unfold World.cell?; rw [h]; rfl
  refine ⟨hz, fun i p hp => ?_⟩
  match i, hp with
  | 0, hp => simp at hp; subst hp; exact ⟨c0, c1⟩
  | 1, hp => simp at hp; subst hp; exact ⟨c2, c3⟩
theorem most_pair (x y : Rt) (hx : RtIn x) (hy : RtIn y) (B : Nat) (w : World) (hR : RowAt [x, y] ⟨B, 0, none⟩ w) :
    Calls Tryz.prog 27 #[.slice (some ⟨B, 0, none⟩) 2 2] w fun e w' => e = .returned (.tuple #[.agg #[.int .i64 (if cmpI y x = 1 then y else x).N, .int .i64 (if cmpI y x = 1 then y else x).D], .bool true]) ∧ Below w.heap.size w w' :=
  most_wrap w _ _ _ true fun w0 b0 => outer_walk [x, y] [y] (by intro p hp; simp at hp; rcases hp with rfl | rfl <;> assumption) x rfl rfl 1 ⟨B, 0, none⟩ 2 ⟨by simp, by decide⟩ (by decide) w0 (hR.old b0)

/-- What Rules.right tells. -/
def rulB (S L G : Rt) : Bool := rightB S && decide (0 < S.N) && decide (timeA L = 0) && decide (timeA G = 0)
set_option maxRecDepth 100000 in
set_option maxHeartbeats 800000 in
theorem rulesRight_walk (a0 a1 a2 a3 a4 a5 : Int) (rb : Bool) (e1 e2 : Int) (w : World)
    (H1 : ∀ W, Calls Tryz.prog 23 #[.agg #[.int .i64 a0, .int .i64 a1]] W fun e w' => e = .returned (.bool rb) ∧ Below W.heap.size W w')
    (H2 : ∀ W, Calls Tryz.prog 24 #[.agg #[.int .i64 a2, .int .i64 a3]] W fun e w' => e = .returned (.int .i64 e1) ∧ Below W.heap.size W w')
    (H3 : ∀ W, Calls Tryz.prog 24 #[.agg #[.int .i64 a4, .int .i64 a5]] W fun e w' => e = .returned (.int .i64 e2) ∧ Below W.heap.size W w') :
    Calls Tryz.prog 13 #[.agg #[.int .i64 a0, .int .i64 a1, .int .i64 a2, .int .i64 a3, .int .i64 a4, .int .i64 a5]] w fun e w' => e = .returned (.bool (rb && decide (0 < a0) && decide (e1 = 0) && decide (e2 = 0))) ∧ Below w.heap.size w w' := by
  obtain ⟨R, hR⟩ : ∃ R, (rb && decide (0 < a0) && decide (e1 = 0) && decide (e2 = 0)) = R := ⟨_, rfl⟩
  rw [hR]
  have HR := hideC hR
  clear hR
  replace H1 := hideC H1
  replace H2 := hideC H2
  replace H3 := hideC H3
  go_enter Tryz.func13, Tryz.ntmps13
  go_wp2_with fail
  refine (H1.out _).mono ?_
  rintro e w1 ⟨rfl, b1⟩
  have Q1 : SixC w1 w.heap.size 33 a0 a1 a2 a3 a4 a5 := (show SixC _ w.heap.size 33 a0 a1 a2 a3 a4 a5 from World.alloc_heap_new w _).keep b1
  have B1 := hideC (bup (bel1 w _) b1)
  clear b1
  have ⟨c0, c1, c2, c3, c4, c5⟩ := Q1.cells
  have Q1 := hideC Q1
  cases rb with
  | false =>
    have hr : R = false := by have := HR.out; simp at this; first | exact this | exact this.symm
    subst hr
    go_wp2_with fail
    go_ret
    exact ⟨rfl, B1.out⟩
  | true =>
    by_cases g1 : 0 < a0
    · have g1' : decide (0 < a0) = true := by simpa using g1
      go_wp2_with fail
      refine (H2.out _).mono ?_
      rintro e w2 ⟨rfl, b2⟩
      have Q2 := Q1.out.keep b2
      have B2 := hideC (bup B1.out b2)
      clear b2 B1 c0 c1 c2 c3 c4 c5
      have ⟨c0, c1, c2, c3, c4, c5⟩ := Q2.cells
      have Q2 := hideC Q2
      by_cases g2 : e1 = 0
      · subst g2
        go_wp2_with fail
        refine (H3.out _).mono ?_
        rintro e w3 ⟨rfl, b3⟩
        have B3 := hideC (bup B2.out b3)
        clear b3 B2 c0 c1 c2 c3 c4 c5
        by_cases g3 : e2 = 0
        · subst g3
          have hr : R = true := by have := HR.out; simp [g1] at this; first | exact this | exact this.symm
          subst hr
          go_wp2
          go_ret
          exact ⟨rfl, B3.out⟩
        · have hr : R = false := by have := HR.out; simp [g1, g3] at this; first | exact this | exact this.symm
          subst hr
          have g3' : (e2 == 0) = false := by simpa using g3
          go_wp2
          go_ret
          exact ⟨rfl, B3.out⟩
      · have hr : R = false := by have := HR.out; simp [g2] at this; first | exact this | exact this.symm
        subst hr
        have g2' : (e1 == 0) = false := by simpa using g2
        go_wp2_with fail
        go_ret
        exact ⟨rfl, B2.out⟩
    · have hr : R = false := by have := HR.out; simp [g1] at this; first | exact this | exact this.symm
      subst hr
      have g1' : decide (0 < a0) = false := by simpa using g1
      go_wp2_with fail
      go_ret
      exact ⟨rfl, B1.out⟩

set_option maxRecDepth 100000 in
set_option maxHeartbeats 2000000 in
theorem paceWants_walk (s : ByteArray) (v : Value) (a0 a1 a2 a3 a4 a5 : Int) (n : Nat) (q0 q1 e1 e2 e12 m0 m1 : Int) (hn : n < 9223372036854775808) (h12 : (if e1 = 0 then e2 else e1) = e12) (w : World)
    (H1 : ∀ W, Below w.heap.size w W → Calls Tryz.prog 9 #[.agg #[.string s, v]] W fun e w' => e = .returned (.int .i64 n) ∧ Below W.heap.size W w')
    (H2 : ∀ W, Calls Tryz.prog 25 #[.agg #[.int .i64 n, .int .i64 1], .agg #[.int .i64 a0, .int .i64 a1]] W fun e w' => e = .returned (.tuple #[.agg #[.int .i64 q0, .int .i64 q1], .int .i64 e1]) ∧ Below W.heap.size W w')
    (H3 : ∀ W, Calls Tryz.prog 24 #[.agg #[.int .i64 q0, .int .i64 q1]] W fun e w' => e = .returned (.int .i64 e2) ∧ Below W.heap.size W w')
    (H4 : ∀ B W, RowAt [⟨a2, a3⟩, ⟨q0, q1⟩] ⟨B, 0, none⟩ W → Calls Tryz.prog 27 #[.slice (some ⟨B, 0, none⟩) 2 2] W fun e w' => e = .returned (.tuple #[.agg #[.int .i64 m0, .int .i64 m1], .bool true]) ∧ Below W.heap.size W w')
    (r0 r1 r2 : Int) (hr : (¬ e12 = 0 ∧ r0 = 0 ∧ r1 = 0 ∧ r2 = e12) ∨ (e12 = 0 ∧ r0 = m0 ∧ r1 = m1 ∧ r2 = 0)) :
    Calls Tryz.prog 14 #[.agg #[.int .i64 a0, .int .i64 a1, .int .i64 a2, .int .i64 a3, .int .i64 a4, .int .i64 a5], .agg #[.string s, v]] w fun e w' => e = .returned (.tuple #[.agg #[.int .i64 r0, .int .i64 r1], .int .i64 r2]) ∧ Below w.heap.size w w' := by
  have HO : ∀ B W, World.cell? W ⟨B, 0, none⟩ = some (.int .i64 e1) → World.cell? W ⟨B, 1, none⟩ = some (.int .i64 e2) → Calls Tryz.prog 26 #[.slice (some ⟨B, 0, none⟩) 2 2] W fun e w' => e = .returned (.int .i64 e12) ∧ Below W.heap.size W w' := fun B W g0 g1 => by
    have := or_two e1 e2 B W g0 g1
    rw [h12] at this
    exact this
  have HQ := hideC hr
  replace HO := hideC HO
  replace H1 := hideC H1
  replace H2 := hideC H2
  replace H3 := hideC H3
  replace H4 := hideC H4
  have wn : IntKind.i64.wrap (n : Int) = (n : Int) := IntWalk.i64_in _ ⟨by omega, by omega⟩
  clear hr h12
  go_enter Tryz.func14, Tryz.ntmps14
  go_wp2_with fail
  have BB : Below w.heap.size w (((w.alloc (.cells #[.int .i64 a0, .int .i64 a1, .int .i64 a2, .int .i64 a3, .int .i64 a4, .int .i64 a5] 44)).alloc (.cells #[.string s, v] 24)).alloc (.cells #[.int .i64 0, .int .i64 0] 26)) := ((bel1 w _).trans ((bel1 _ _).mono (by simp))).trans ((bel1 _ _).mono (by simp; omega))
  have P0 : SixC (((w.alloc (.cells #[.int .i64 a0, .int .i64 a1, .int .i64 a2, .int .i64 a3, .int .i64 a4, .int .i64 a5] 44)).alloc (.cells #[.string s, v] 24)).alloc (.cells #[.int .i64 0, .int .i64 0] 26)) w.heap.size 44 a0 a1 a2 a3 a4 a5 := (((show SixC _ w.heap.size 44 a0 a1 a2 a3 a4 a5 from World.alloc_heap_new w _).keep (bel1 _ _))).keep (bel1 _ _)
  have X0 : TxtV (((w.alloc (.cells #[.int .i64 a0, .int .i64 a1, .int .i64 a2, .int .i64 a3, .int .i64 a4, .int .i64 a5] 44)).alloc (.cells #[.string s, v] 24)).alloc (.cells #[.int .i64 0, .int .i64 0] 26)) (w.heap.size + 1) s v := by
    have : TxtV ((w.alloc (.cells #[.int .i64 a0, .int .i64 a1, .int .i64 a2, .int .i64 a3, .int .i64 a4, .int .i64 a5] 44)).alloc (.cells #[.string s, v] 24)) (w.heap.size + 1) s v := by
      have := World.alloc_heap_new (w.alloc (.cells #[.int .i64 a0, .int .i64 a1, .int .i64 a2, .int .i64 a3, .int .i64 a4, .int .i64 a5] 44)) (.cells #[.string s, v] 24)
      rwa [World.size_alloc] at this
    exact this.keep (bel1 _ _)
  have R0 : Two (((w.alloc (.cells #[.int .i64 a0, .int .i64 a1, .int .i64 a2, .int .i64 a3, .int .i64 a4, .int .i64 a5] 44)).alloc (.cells #[.string s, v] 24)).alloc (.cells #[.int .i64 0, .int .i64 0] 26)) (w.heap.size + 1 + 1) (.int .i64 0) (.int .i64 0) := by
    have := Two.new ((w.alloc (.cells #[.int .i64 a0, .int .i64 a1, .int .i64 a2, .int .i64 a3, .int .i64 a4, .int .i64 a5] 44)).alloc (.cells #[.string s, v] 24)) (.int .i64 0) (.int .i64 0) 26
    simpa only [World.size_alloc] using this
  generalize (((w.alloc (.cells #[.int .i64 a0, .int .i64 a1, .int .i64 a2, .int .i64 a3, .int .i64 a4, .int .i64 a5] 44)).alloc (.cells #[.string s, v] 24)).alloc (.cells #[.int .i64 0, .int .i64 0] 26)) = V at *
  have ⟨p0, p1, p2, p3, p4, p5⟩ := P0.cells
  have ⟨x0, x1⟩ := X0.cells
  have HH := hideC (show PcV w s v a0 a1 a2 a3 a4 a5 V from ⟨BB, P0, X0, R0⟩)
  clear BB P0 X0 R0
  have z0 : w.heap.size + 1 + 1 < V.heap.size := HH.out.res.1
  go_cut [6, 7] (fun p e wx => ∃ r, p = .pointer (some ⟨r, 0, none⟩) ∧ e = .int .i64 e1 ∧ PcV w s v a0 a1 a2 a3 a4 a5 wx ∧ Two wx r (.int .i64 q0) (.int .i64 q1) ∧ w.heap.size + 1 + 1 < r)
  case first =>
    go_region_held3 (fun w' => (w'.cell? ⟨w.heap.size + 1, 0, none⟩ = some (.string s) ∧ w'.cell? ⟨w.heap.size + 1, 1, none⟩ = some v) ∧ w'.cell? ⟨w.heap.size, 0, none⟩ = some (.int .i64 a0) ∧ w'.cell? ⟨w.heap.size, 1, none⟩ = some (.int .i64 a1)) (first | go_keep | assumption | exact ⟨⟨cell_two_setD (by omega) (by first | assumption | (rw [cell_old_allocD (by simp; omega)]; assumption)), cell_two_setD (by omega) (by first | assumption | (rw [cell_old_allocD (by simp; omega)]; assumption))⟩, cell_two_setD (by omega) (by first | assumption | (rw [cell_old_allocD (by simp; omega)]; assumption)), cell_two_setD (by omega) (by first | assumption | (rw [cell_old_allocD (by simp; omega)]; assumption))⟩) (first
      | (go_at_call 25; (with_reducible refine (H2.out _).mono ?_); rintro e w2 ⟨rfl, b2⟩; (first | (have F2 := hideC (F1.out.keep b2); have ⟨h0, h1, h2, h3⟩ := F2.out.cellsD; have K2 := hideC (K1.out.keep b2)) | (have F2 := hideC ((Two.new w1 (.int .i64 0) (.int .i64 0) 26).keep b2); have ⟨h0, h1, h2, h3⟩ := F2.out.cellsD; have b2 := bup (bel1 w1 _) b2; have K2 := hideC (K1.out.keep b2)) | (have K2 := hideC (K1.out.keep b2))); have ⟨⟨r0, r1, r2, r3⟩, ⟨x0, x1⟩⟩ := K2.out.facts; have zz2 : w.heap.size + 1 + 1 < w2.heap.size := K2.out.res.1)
      | (go_at_call 9; (with_reducible refine Calls.mono (H1.out _ (by first | exact bup HH.out.below (Below.refl _ V).drew | exact bup HH.out.below (bup (Below.refl _ V).drew (bel1 V.drew _)) | exact bup HH.out.below (bel1 V _).drew)) ?_); rintro e w1 ⟨rfl, b1⟩; (first
          | (have b1 := Below.drew_of b1; have K1 := hideC (HH.out.keep b1))
          | (have F1 : Hid (Two w1 V.heap.size (.int .i64 0) (.int .i64 0)) := hideC ((Two.new V.drew (.int .i64 0) (.int .i64 0) 26).keep b1); have ⟨g0, g1, g2, g3⟩ := F1.out.cellsD; have b1 := bup (bup (Below.refl _ V).drew (bel1 V.drew _)) b1; have K1 := hideC (HH.out.keep b1))
          | (have F1 : Hid (Two w1 V.heap.size (.int .i64 0) (.int .i64 0)) := hideC ((Two.new V (.int .i64 0) (.int .i64 0) 26).drew.keep b1); have ⟨g0, g1, g2, g3⟩ := F1.out.cellsD; have b1 := bup (bel1 V _).drew b1; have K1 := hideC (HH.out.keep b1))); have ⟨⟨q0', q1', q2, q3⟩, ⟨y0, y1⟩⟩ := K1.out.facts; have zz1 : w.heap.size + 1 + 1 < w1.heap.size := K1.out.res.1))
    all_goals first | go_wp2_with fail | skip
    all_goals go_meet
    · exact ⟨_, rfl, rfl, K2.out.keep (bel1 _ _), Two.new w2 _ _ _, zz2⟩
    · exact ⟨_, rfl, rfl, K2.out.set (by omega), F2.out.set, zz1⟩
    · exact ⟨_, rfl, rfl, K2.out.set (by omega), F2.out.set, z0⟩
  case rest =>
    obtain ⟨r, rfl, rfl, K, F, hrr⟩ := hcut
    generalize wc = X at *
    have ⟨⟨k0, k1, k2, k3⟩, ⟨y0, y1⟩⟩ := K.facts
    have ⟨f0, f1, f2, f3⟩ := F.cellsD
    have KF := hideC (And.intro K F)
    clear K F HH p0 p1 p2 p3 p4 p5 x0 x1
    go_wp2_with fail
    refine (H3.out _).mono ?_
    rintro e w3 ⟨rfl, b3⟩
    have KF3 := hideC (And.intro (KF.out.1.keep b3) (KF.out.2.keep b3))
    clear b3 KF k0 k1 k2 k3 y0 y1 f0 f1 f2 f3
    go_wp2_with fail
    refine (HO.out _ _ (cell_two_newA _ _ _ _) (cell_two_newB _ _ _ _)).mono ?_
    rintro e w4 ⟨rfl, b4⟩
    have KF4 := hideC (And.intro (KF3.out.1.keep (bup (bel1 _ _) b4)) (KF3.out.2.keep (bup (bel1 _ _) b4)))
    clear b4 KF3
    have ⟨⟨k0, k1, k2, k3⟩, ⟨y0, y1⟩⟩ := KF4.out.1.facts
    have ⟨f0, f1, f2, f3⟩ := KF4.out.2.cellsD
    have ⟨e0, e1', e2', e3⟩ := KF4.out.1.res.cellsD
    have zz4 : w.heap.size + 1 + 1 < w4.heap.size := KF4.out.1.res.1
    by_cases g : e12 = 0
    · have hq : r0 = m0 ∧ r1 = m1 ∧ r2 = 0 := by rcases HQ.out with h | h; exact absurd g h.1; exact h.2
      obtain ⟨rfl, rfl, rfl⟩ := hq
      subst g
      clear e0 e1' e2' e3
      go_wp2_with fail
      refine (H4.out _ _ (row_two_newD _ _ _ _ _ _)).mono ?_
      rintro e w5 ⟨rfl, b5⟩
      have KF5 := hideC (KF4.out.1.keep (bup (bel1 _ _) b5))
      clear b5 KF4 k0 k1 k2 k3 y0 y1 f0 f1 f2 f3
      have ⟨e0, e1', e2', e3⟩ := KF5.out.res.cellsD
      have zz5 : w.heap.size + 1 + 1 < w5.heap.size := KF5.out.res.1
      go_wp2_with fail
      have ⟨t0, t1, _⟩ := ((KF5.out.res.set (x2 := .int .i64 r0) (y2 := .int .i64 r1)).alloc (.cells #[.int .i64 r0, .int .i64 r1] 26)).cellsD
      exact bodyPost_ret (v := .tuple #[.agg #[.int .i64 r0, .int .i64 r1], .int .i64 0]) (by simp [results, Tryz.results14, go_sem, t0, t1]) rfl ⟨rfl, bup ((KF5.out.below.setCell (by simp; omega) _).setCell (by simp; omega) _) (bel1 _ _)⟩
    · have hq : r0 = 0 ∧ r1 = 0 ∧ r2 = e12 := by rcases HQ.out with h | h; exact h.2; exact absurd h.1 g
      obtain ⟨rfl, rfl, rfl⟩ := hq
      have g' : (r2 != 0) = true := by simpa using g
      clear k0 k1 k2 k3 y0 y1 f0 f1 f2 f3
      go_wp2_with fail
      have ⟨t0, t1, _⟩ := (KF4.out.1.res.set (x2 := .int .i64 0) (y2 := .int .i64 0)).cellsD
      exact bodyPost_ret (v := .tuple #[.agg #[.int .i64 0, .int .i64 0], .int .i64 r2]) (by simp [results, Tryz.results14, go_sem, t0, t1]) rfl ⟨rfl, (KF4.out.1.below.setCell (by simp; omega) _).setCell (by simp; omega) _⟩

set_option maxRecDepth 100000 in
set_option maxHeartbeats 1000000 in
theorem wants_walk (s : ByteArray) (v : Value) (a0 a1 a2 a3 a4 a5 : Int) (ec : Int) (rb : Bool) (p0 p1 p2 : Int) (w : World)
    (H1 : ∀ W, Below w.heap.size w W → Calls Tryz.prog 12 #[.agg #[.string s, v]] W fun e w' => e = .returned (.int .i64 ec) ∧ Below W.heap.size W w')
    (H2 : ∀ W, Calls Tryz.prog 13 #[.agg #[.int .i64 a0, .int .i64 a1, .int .i64 a2, .int .i64 a3, .int .i64 a4, .int .i64 a5]] W fun e w' => e = .returned (.bool rb) ∧ Below W.heap.size W w')
    (H3 : ∀ W, Below w.heap.size w W → Calls Tryz.prog 14 #[.agg #[.int .i64 a0, .int .i64 a1, .int .i64 a2, .int .i64 a3, .int .i64 a4, .int .i64 a5], .agg #[.string s, v]] W fun e w' => e = .returned (.tuple #[.agg #[.int .i64 p0, .int .i64 p1], .int .i64 p2]) ∧ Below W.heap.size W w')
    (r0 r1 r2 : Int) (hr : (¬ ec = 0 ∧ r0 = 0 ∧ r1 = 0 ∧ r2 = ec) ∨ (ec = 0 ∧ rb = false ∧ r0 = 0 ∧ r1 = 0 ∧ r2 = 1) ∨ (ec = 0 ∧ rb = true ∧ r0 = p0 ∧ r1 = p1 ∧ r2 = p2)) :
    Calls Tryz.prog 5 #[.agg #[.string s, v], .agg #[.int .i64 a0, .int .i64 a1, .int .i64 a2, .int .i64 a3, .int .i64 a4, .int .i64 a5]] w fun e w' => e = .returned (.tuple #[.agg #[.int .i64 r0, .int .i64 r1], .int .i64 r2]) ∧ Below w.heap.size w w' := by
  replace H1 := hideC H1
  replace H2 := hideC H2
  replace H3 := hideC H3
  have HQ := hideC hr
  clear hr
  go_enter Tryz.func5, Tryz.ntmps5
  go_wp2_with fail
  have BB : Below w.heap.size w (((w.alloc (.cells #[.string s, v] 24)).alloc (.cells #[.int .i64 a0, .int .i64 a1, .int .i64 a2, .int .i64 a3, .int .i64 a4, .int .i64 a5] 33)).alloc (.cells #[.int .i64 0, .int .i64 0] 26)) := ((bel1 w _).trans ((bel1 _ _).mono (by simp))).trans ((bel1 _ _).mono (by simp; omega))
  have X0 : TxtV (((w.alloc (.cells #[.string s, v] 24)).alloc (.cells #[.int .i64 a0, .int .i64 a1, .int .i64 a2, .int .i64 a3, .int .i64 a4, .int .i64 a5] 33)).alloc (.cells #[.int .i64 0, .int .i64 0] 26)) w.heap.size s v := (((show TxtV _ w.heap.size s v from World.alloc_heap_new w _).keep (bel1 _ _))).keep (bel1 _ _)
  have P0 : SixC (((w.alloc (.cells #[.string s, v] 24)).alloc (.cells #[.int .i64 a0, .int .i64 a1, .int .i64 a2, .int .i64 a3, .int .i64 a4, .int .i64 a5] 33)).alloc (.cells #[.int .i64 0, .int .i64 0] 26)) (w.heap.size + 1) 33 a0 a1 a2 a3 a4 a5 := by
    have : SixC ((w.alloc (.cells #[.string s, v] 24)).alloc (.cells #[.int .i64 a0, .int .i64 a1, .int .i64 a2, .int .i64 a3, .int .i64 a4, .int .i64 a5] 33)) (w.heap.size + 1) 33 a0 a1 a2 a3 a4 a5 := by
      have := World.alloc_heap_new (w.alloc (.cells #[.string s, v] 24)) (.cells #[.int .i64 a0, .int .i64 a1, .int .i64 a2, .int .i64 a3, .int .i64 a4, .int .i64 a5] 33)
      rwa [World.size_alloc] at this
    exact this.keep (bel1 _ _)
  have R0 : Two (((w.alloc (.cells #[.string s, v] 24)).alloc (.cells #[.int .i64 a0, .int .i64 a1, .int .i64 a2, .int .i64 a3, .int .i64 a4, .int .i64 a5] 33)).alloc (.cells #[.int .i64 0, .int .i64 0] 26)) (w.heap.size + 1 + 1) (.int .i64 0) (.int .i64 0) := by
    have := Two.new ((w.alloc (.cells #[.string s, v] 24)).alloc (.cells #[.int .i64 a0, .int .i64 a1, .int .i64 a2, .int .i64 a3, .int .i64 a4, .int .i64 a5] 33)) (.int .i64 0) (.int .i64 0) 26
    simpa only [World.size_alloc] using this
  generalize (((w.alloc (.cells #[.string s, v] 24)).alloc (.cells #[.int .i64 a0, .int .i64 a1, .int .i64 a2, .int .i64 a3, .int .i64 a4, .int .i64 a5] 33)).alloc (.cells #[.int .i64 0, .int .i64 0] 26)) = V at *
  have HH := hideC (And.intro BB (And.intro X0 (And.intro P0 R0)))
  clear BB X0 P0 R0
  refine (H1.out _ HH.out.1).mono ?_
  rintro e w1 ⟨rfl, b1⟩
  have H1' := hideC (And.intro (bup HH.out.1 b1) (And.intro (HH.out.2.1.keep b1) (And.intro (HH.out.2.2.1.keep b1) (HH.out.2.2.2.keep b1))))
  clear HH b1
  have zz1 : w.heap.size + 1 + 1 < w1.heap.size := H1'.out.2.2.2.1
  by_cases g : ec = 0
  · subst g
    have ⟨x0, x1⟩ := H1'.out.2.1.cells
    have ⟨c0, c1, c2, c3, c4, c5⟩ := H1'.out.2.2.1.cells
    go_wp2_with fail
    refine (H2.out _).mono ?_
    rintro e w2 ⟨rfl, b2⟩
    have H2' := hideC (And.intro (bup H1'.out.1 b2) (And.intro (H1'.out.2.1.keep b2) (And.intro (H1'.out.2.2.1.keep b2) (H1'.out.2.2.2.keep b2))))
    clear H1' b2 x0 x1 c0 c1 c2 c3 c4 c5
    have zz2 : w.heap.size + 1 + 1 < w2.heap.size := H2'.out.2.2.2.1
    cases rb with
    | true =>
      have hq : r0 = p0 ∧ r1 = p1 ∧ r2 = p2 := by rcases HQ.out with h | h | h; (first | exact absurd rfl h.1 | exact absurd trivial h.1); cases h.2.1; exact h.2.2
      obtain ⟨rfl, rfl, rfl⟩ := hq
      have ⟨x0, x1⟩ := H2'.out.2.1.cells
      have ⟨c0, c1, c2, c3, c4, c5⟩ := H2'.out.2.2.1.cells
      go_wp2_with fail
      refine (H3.out _ H2'.out.1).mono ?_
      rintro e w3 ⟨rfl, b3⟩
      have H3' := hideC (And.intro (bup H2'.out.1 b3) (H2'.out.2.2.2.keep b3))
      clear H2' b3 x0 x1 c0 c1 c2 c3 c4 c5
      have ⟨d0, d1, d2, d3⟩ := H3'.out.2.cellsD
      go_wp2_with fail
      have ⟨t0, t1, _⟩ := (H3'.out.2.set (x2 := .int .i64 r0) (y2 := .int .i64 r1)).cellsD
      exact bodyPost_ret (v := .tuple #[.agg #[.int .i64 r0, .int .i64 r1], .int .i64 r2]) (by simp [results, Tryz.results5, go_sem, t0, t1]) rfl ⟨rfl, (H3'.out.1.setCell (by simp; omega) _).setCell (by simp; omega) _⟩
    | false =>
      have hq : r0 = 0 ∧ r1 = 0 ∧ r2 = 1 := by rcases HQ.out with h | h | h; (first | exact absurd rfl h.1 | exact absurd trivial h.1); exact h.2.2; cases h.2.1
      obtain ⟨rfl, rfl, rfl⟩ := hq
      have ⟨d0, d1, d2, d3⟩ := H2'.out.2.2.2.cellsD
      go_wp2_with fail
      have ⟨t0, t1, _⟩ := (H2'.out.2.2.2.set (x2 := .int .i64 0) (y2 := .int .i64 0)).cellsD
      exact bodyPost_ret (v := .tuple #[.agg #[.int .i64 0, .int .i64 0], .int .i64 1]) (by simp [results, Tryz.results5, go_sem, t0, t1]) rfl ⟨rfl, (H2'.out.1.setCell (by simp; omega) _).setCell (by simp; omega) _⟩
  · have hq : r0 = 0 ∧ r1 = 0 ∧ r2 = ec := by rcases HQ.out with h | h | h; exact h.2; exact absurd h.1 g; exact absurd h.1 g
    obtain ⟨rfl, rfl, rfl⟩ := hq
    have g' : (r2 != 0) = true := by simpa using g
    have ⟨d0, d1, d2, d3⟩ := H1'.out.2.2.2.cellsD
    go_wp2_with fail
    have ⟨t0, t1, _⟩ := (H1'.out.2.2.2.set (x2 := .int .i64 0) (y2 := .int .i64 0)).cellsD
    exact bodyPost_ret (v := .tuple #[.agg #[.int .i64 0, .int .i64 0], .int .i64 r2]) (by simp [results, Tryz.results5, go_sem, t0, t1]) rfl ⟨rfl, (H1'.out.1.setCell (by simp; omega) _).setCell (by simp; omega) _⟩

end Go.Proofs.YtknpgifloddflaaGreatDoor

/- The reference of chapter 11: Count, right, Wants. -/
namespace Go.Proofs.YtknpgifloddflaaGreatDoor
open Go.RowKit Go.Shelf

set_option maxRecDepth 100000 in
set_option maxHeartbeats 1000000 in
theorem rcount11_any (s : ByteArray) (hs : s.size ≤ 140737488355328) (v : Value) (w : World) : Calls Tryz.prog 10 #[.agg #[.string s, v]] w fun e w' => e = .returned (.int .i64 (readN (signs s))) ∧ Below w.heap.size w w' := by
  go_enter Tryz.func10, Tryz.ntmps10
  go_wp2
  generalize hV : w.alloc (.cells #[.string s, v] 24) = V at *
  have hVb : Below w.heap.size w V := by rw [← hV]; exact bel1 _ _
  have HV := hideC hVb
  have HZ := hideC (show V.heap.size = w.heap.size + 1 by rw [← hV]; simp)
  clear hV hVb
  go_loopw [3, 5] (fun n _ w' => ∃ (pos b : Nat) (pre : List Sg), w' = V.iter s pos ∧ n = .int .i64 (readN pre) ∧ pre ++ sgns s b pos = signs s ∧ s.size ≤ pos + b ∧ pre.length ≤ pos) (fun _ _ w' => s.size - w'.iterPos V.heap.size)
  case atStart => exact ⟨0, s.size, [], rfl, rfl, rfl, by omega, by simp⟩
  case round =>
    obtain ⟨pos, b, pre, rfl, rfl, hc, hb, ha⟩ := hrel
    have HA := hideC ha
    have hrl := readN_le pre
    have HC := hideC hc
    clear hc
    by_cases hp : pos < s.size
    · have hnx := fun ty => run_next_any (P := Tryz.prog) V s pos ty hp
      rw [HZ.out] at hnx
      have hwd := Lib.decode_width_pos s pos hp
      have hsn := readN_snoc pre (sgn s pos)
      have hru : (sgn s pos).rune = ((Utf8.decode s pos).1 : Nat) := (sgn_dec s pos hp).2.2.1
      rw [hru] at hsn
      have HS := hideC hsn
      clear hsn hru
      obtain ⟨k, hk⟩ : ∃ k, readN pre = k := ⟨_, rfl⟩
      obtain ⟨k2, hk2⟩ : ∃ k, readN (pre ++ [sgn s pos]) = k := ⟨_, rfl⟩
      obtain ⟨r, hr⟩ : ∃ r : Int, (((Utf8.decode s pos).1 : Nat) : Int) = r := ⟨_, rfl⟩
      obtain ⟨ps, hps⟩ : ∃ ps, pos + (Utf8.decode s pos).2 = ps := ⟨_, rfl⟩
      rw [hps] at hnx
      rw [hr] at HS hnx
      rw [hk, hk2] at HS
      rw [hk]
      have HK := hideC (And.intro hk2 (And.intro hps hk))
      have hrl' : k ≤ pos := by omega
      have hps' : pos < ps := by omega
      clear hk hk2 hr hps hwd hrl ha
      have HW := hideC (refWidth_any r)
      obtain ⟨wd, hwd⟩ : ∃ wd, widthI r = wd := ⟨_, rfl⟩
      rw [hwd] at HW
      have hq : k2 = k + if readB r then 1 else 0 := HS.out
      clear HS
      by_cases g0 : 0 < wd
      · by_cases g1 : r = 32
        · have : k2 = k := by rw [hq]; simp [readB, blankR, g1]
          subst this
          clear hq
          have HG := hideC g1
          have g1' : (r != 32) = false := by simpa using g1
          clear hwd g1
          have d0 : decide (0 < wd) = true := by simpa using g0
          go_wp2_with (go_at_call 21; refine (HW.out _).mono ?_; rintro e w1 ⟨rfl, rfl⟩)
          go_roundw
          case rel => 
                  have hc := HC.out
                  cases b with
                  | zero => omega
                  | succ b =>
                    rw [sgns, if_pos hp, HK.out.2.1] at hc
                    have hle : (pre ++ [sgn s pos]).length ≤ ps := by have := HA.out; simp; omega
                    exact ⟨ps, b, pre ++ [sgn s pos], rfl, (by rw [HK.out.1]; first | done | rfl | simp), by simpa using hc, by omega, hle⟩
          case measure => simp; omega
        · have g1' : (r != 32) = true := by simpa using g1
          by_cases g2 : r = 160
          · have : k2 = k := by rw [hq]; simp [readB, blankR, g2]
            subst this
            clear hq
            have g2' : (r != 160) = false := by simpa using g2
            clear hwd g1 g2
            have d0 : decide (0 < wd) = true := by simpa using g0
            go_wp2_with (go_at_call 21; refine (HW.out _).mono ?_; rintro e w1 ⟨rfl, rfl⟩)
            go_roundw
            case rel => 
                  have hc := HC.out
                  cases b with
                  | zero => omega
                  | succ b =>
                    rw [sgns, if_pos hp, HK.out.2.1] at hc
                    have hle : (pre ++ [sgn s pos]).length ≤ ps := by have := HA.out; simp; omega
                    exact ⟨ps, b, pre ++ [sgn s pos], rfl, (by rw [HK.out.1]; first | done | rfl | simp), by simpa using hc, by omega, hle⟩
            case measure => simp; omega
          · have g2' : (r != 160) = true := by simpa using g2
            by_cases g3 : r = 12288
            · have : k2 = k := by rw [hq]; simp [readB, blankR, g3]
              subst this
              clear hq
              have g3' : (r != 12288) = false := by simpa using g3
              clear hwd g1 g2 g3
              have d0 : decide (0 < wd) = true := by simpa using g0
              go_wp2_with (go_at_call 21; refine (HW.out _).mono ?_; rintro e w1 ⟨rfl, rfl⟩)
              go_roundw
              case rel => 
                  have hc := HC.out
                  cases b with
                  | zero => omega
                  | succ b =>
                    rw [sgns, if_pos hp, HK.out.2.1] at hc
                    have hle : (pre ++ [sgn s pos]).length ≤ ps := by have := HA.out; simp; omega
                    exact ⟨ps, b, pre ++ [sgn s pos], rfl, (by rw [HK.out.1]; first | done | rfl | simp), by simpa using hc, by omega, hle⟩
              case measure => simp; omega
            · have : k2 = k + 1 := by rw [hq]; simp [readB, blankR, g1, g2, g3, hwd, g0]
              subst this
              clear hq
              have g3' : (r != 12288) = true := by simpa using g3
              clear hwd
              have d0 : decide (0 < wd) = true := by simpa using g0
              have wk : IntKind.i64.wrap ((k : Int) + 1) = ((k + 1 : Nat) : Int) := by rw [show ((k + 1 : Nat) : Int) = (k : Int) + 1 by omega]; exact IntWalk.i64_in _ ⟨by omega, by omega⟩
              go_wp2_with (go_at_call 21; refine (HW.out _).mono ?_; rintro e w1 ⟨rfl, rfl⟩)
              go_roundw
              case rel => 
                  have hc := HC.out
                  cases b with
                  | zero => omega
                  | succ b =>
                    rw [sgns, if_pos hp, HK.out.2.1] at hc
                    have hle : (pre ++ [sgn s pos]).length ≤ ps := by have := HA.out; simp; omega
                    exact ⟨ps, b, pre ++ [sgn s pos], rfl, (by rw [HK.out.1]; first | done | rfl | simp), by simpa using hc, by omega, hle⟩
              case measure => simp; omega
      · have : k2 = k := by rw [hq]; simp [readB, hwd, g0]
        subst this
        clear hq hwd
        have d0 : decide (0 < wd) = false := by simpa using g0
        go_wp2_with (go_at_call 21; refine (HW.out _).mono ?_; rintro e w1 ⟨rfl, rfl⟩)
        go_roundw
        case rel => 
                  have hc := HC.out
                  cases b with
                  | zero => omega
                  | succ b =>
                    rw [sgns, if_pos hp, HK.out.2.1] at hc
                    have hle : (pre ++ [sgn s pos]).length ≤ ps := by have := HA.out; simp; omega
                    exact ⟨ps, b, pre ++ [sgn s pos], rfl, (by rw [HK.out.1]; first | done | rfl | simp), by simpa using hc, by omega, hle⟩
        case measure => simp; omega
    · have hnx := fun ty => run_next_end (P := Tryz.prog) V s pos ty hp
      rw [HZ.out] at hnx
      go_wp2
      go_ret
      have hc := HC.out
      rw [sgns_end s b pos hp, List.append_nil] at hc
      subst hc
      exact ⟨rfl, bup HV.out ((Below.refl _ V).alloc (Nat.le_refl _) _)⟩
set_option maxRecDepth 100000 in
set_option maxHeartbeats 800000 in
theorem rright11_walk (a0 a1 a2 a3 a4 a5 : Int) (rb : Bool) (e1 e2 : Int) (w : World)
    (H1 : ∀ W, Calls Tryz.prog 31 #[.agg #[.int .i64 a0, .int .i64 a1]] W fun e w' => e = .returned (.bool rb) ∧ Below W.heap.size W w')
    (H2 : ∀ W, Calls Tryz.prog 32 #[.agg #[.int .i64 a2, .int .i64 a3]] W fun e w' => e = .returned (.int .i64 e1) ∧ Below W.heap.size W w')
    (H3 : ∀ W, Calls Tryz.prog 32 #[.agg #[.int .i64 a4, .int .i64 a5]] W fun e w' => e = .returned (.int .i64 e2) ∧ Below W.heap.size W w') :
    Calls Tryz.prog 16 #[.agg #[.int .i64 a0, .int .i64 a1, .int .i64 a2, .int .i64 a3, .int .i64 a4, .int .i64 a5]] w fun e w' => e = .returned (.bool (rb && decide (0 < a0) && decide (e1 = 0) && decide (e2 = 0))) ∧ Below w.heap.size w w' := by
  obtain ⟨R, hR⟩ : ∃ R, (rb && decide (0 < a0) && decide (e1 = 0) && decide (e2 = 0)) = R := ⟨_, rfl⟩
  rw [hR]
  have HR := hideC hR
  clear hR
  replace H1 := hideC H1
  replace H2 := hideC H2
  replace H3 := hideC H3
  go_enter Tryz.func16, Tryz.ntmps16
  go_wp2_with fail
  refine (H1.out _).mono ?_
  rintro e w1 ⟨rfl, b1⟩
  have Q1 : SixC w1 w.heap.size 37 a0 a1 a2 a3 a4 a5 := (show SixC _ w.heap.size 37 a0 a1 a2 a3 a4 a5 from World.alloc_heap_new w _).keep b1
  have B1 := hideC (bup (bel1 w _) b1)
  clear b1
  have ⟨c0, c1, c2, c3, c4, c5⟩ := Q1.cells
  have Q1 := hideC Q1
  cases rb with
  | false =>
    have hr : R = false := by have := HR.out; simp at this; first | exact this | exact this.symm
    subst hr
    go_wp2_with fail
    go_ret
    exact ⟨rfl, B1.out⟩
  | true =>
    by_cases g1 : 0 < a0
    · have g1' : decide (0 < a0) = true := by simpa using g1
      go_wp2_with fail
      refine (H2.out _).mono ?_
      rintro e w2 ⟨rfl, b2⟩
      have Q2 := Q1.out.keep b2
      have B2 := hideC (bup B1.out b2)
      clear b2 B1 c0 c1 c2 c3 c4 c5
      have ⟨c0, c1, c2, c3, c4, c5⟩ := Q2.cells
      have Q2 := hideC Q2
      by_cases g2 : e1 = 0
      · subst g2
        go_wp2_with fail
        refine (H3.out _).mono ?_
        rintro e w3 ⟨rfl, b3⟩
        have B3 := hideC (bup B2.out b3)
        clear b3 B2 c0 c1 c2 c3 c4 c5
        by_cases g3 : e2 = 0
        · subst g3
          have hr : R = true := by have := HR.out; simp [g1] at this; first | exact this | exact this.symm
          subst hr
          go_wp2
          go_ret
          exact ⟨rfl, B3.out⟩
        · have hr : R = false := by have := HR.out; simp [g1, g3] at this; first | exact this | exact this.symm
          subst hr
          have g3' : (e2 == 0) = false := by simpa using g3
          go_wp2
          go_ret
          exact ⟨rfl, B3.out⟩
      · have hr : R = false := by have := HR.out; simp [g2] at this; first | exact this | exact this.symm
        subst hr
        have g2' : (e1 == 0) = false := by simpa using g2
        go_wp2_with fail
        go_ret
        exact ⟨rfl, B2.out⟩
    · have hr : R = false := by have := HR.out; simp [g1] at this; first | exact this | exact this.symm
      subst hr
      have g1' : decide (0 < a0) = false := by simpa using g1
      go_wp2_with fail
      go_ret
      exact ⟨rfl, B1.out⟩


/-- What lies at the head of the reference's Wants. -/
structure RwV (w : World) (s : ByteArray) (v : Value) (a0 a1 a2 a3 a4 a5 : Int) (W : World) : Prop where
  below : Below w.heap.size w W
  txt : TxtV W w.heap.size s v
  six : SixC W (w.heap.size + 1) 37 a0 a1 a2 a3 a4 a5
  res : Two W (w.heap.size + 1 + 1) (.int .i64 0) (.int .i64 0)
theorem RwV.keep {w W W' : World} {s : ByteArray} {v : Value} {a0 a1 a2 a3 a4 a5 : Int} (h : RwV w s v a0 a1 a2 a3 a4 a5 W) (b : Below W.heap.size W W') : RwV w s v a0 a1 a2 a3 a4 a5 W' := ⟨bup h.below b, h.txt.keep b, h.six.keep b, h.res.keep b⟩
theorem RwV.set {w W : World} {s : ByteArray} {v : Value} {a0 a1 a2 a3 a4 a5 : Int} {r : Nat} {a b : Value} (h : RwV w s v a0 a1 a2 a3 a4 a5 W) (hr : w.heap.size + 1 + 1 < r) : RwV w s v a0 a1 a2 a3 a4 a5 ((W.setCell ⟨r, 0, none⟩ a).setCell ⟨r, 1, none⟩ b) :=
  ⟨(h.below.setCell (by simp; omega) _).setCell (by simp; omega) _, h.txt.set (by omega), h.six.set (by omega), h.res.other (by omega)⟩

set_option maxRecDepth 100000 in
set_option maxHeartbeats 2000000 in
theorem rwants11_walk (s : ByteArray) (v : Value) (a0 a1 a2 a3 a4 a5 : Int) (ec : Int) (rb : Bool) (n : Nat) (q0 q1 e1 c1 c2 : Int) (hn : n < 9223372036854775808) (w : World)
    (H1 : ∀ W, Below w.heap.size w W → Calls Tryz.prog 15 #[.agg #[.string s, v]] W fun e w' => e = .returned (.int .i64 ec) ∧ Below W.heap.size W w')
    (H2 : ∀ W, Calls Tryz.prog 16 #[.agg #[.int .i64 a0, .int .i64 a1, .int .i64 a2, .int .i64 a3, .int .i64 a4, .int .i64 a5]] W fun e w' => e = .returned (.bool rb) ∧ Below W.heap.size W w')
    (H3 : ∀ W, Below w.heap.size w W → Calls Tryz.prog 10 #[.agg #[.string s, v]] W fun e w' => e = .returned (.int .i64 n) ∧ Below W.heap.size W w')
    (H4 : ∀ W, Calls Tryz.prog 17 #[.agg #[.int .i64 n, .int .i64 1], .agg #[.int .i64 a0, .int .i64 a1]] W fun e w' => e = .returned (.tuple #[.agg #[.int .i64 q0, .int .i64 q1], .int .i64 e1]) ∧ Below W.heap.size W w')
    (H5 : ∀ W, Calls Tryz.prog 18 #[.agg #[.int .i64 q0, .int .i64 q1], .agg #[.int .i64 360000, .int .i64 1]] W fun e w' => e = .returned (.int .i64 c1) ∧ Below W.heap.size W w')
    (H6 : ∀ W, Calls Tryz.prog 18 #[.agg #[.int .i64 q0, .int .i64 q1], .agg #[.int .i64 a2, .int .i64 a3]] W fun e w' => e = .returned (.int .i64 c2) ∧ Below W.heap.size W w')
    (r0 r1 r2 : Int) (hr : (¬ ec = 0 ∧ r0 = 0 ∧ r1 = 0 ∧ r2 = ec) ∨ (ec = 0 ∧ rb = false ∧ r0 = 0 ∧ r1 = 0 ∧ r2 = 1) ∨ (ec = 0 ∧ rb = true ∧ (¬ e1 = 0 ∨ 1048576 < q1) ∧ r0 = 0 ∧ r1 = 0 ∧ r2 = 12) ∨ (ec = 0 ∧ rb = true ∧ e1 = 0 ∧ ¬ 1048576 < q1 ∧ 0 < c1 ∧ r0 = 0 ∧ r1 = 0 ∧ r2 = 31) ∨ (ec = 0 ∧ rb = true ∧ e1 = 0 ∧ ¬ 1048576 < q1 ∧ ¬ 0 < c1 ∧ c2 < 0 ∧ r0 = a2 ∧ r1 = a3 ∧ r2 = 0) ∨ (ec = 0 ∧ rb = true ∧ e1 = 0 ∧ ¬ 1048576 < q1 ∧ ¬ 0 < c1 ∧ ¬ c2 < 0 ∧ r0 = q0 ∧ r1 = q1 ∧ r2 = 0)) :
    Calls Tryz.prog 7 #[.agg #[.string s, v], .agg #[.int .i64 a0, .int .i64 a1, .int .i64 a2, .int .i64 a3, .int .i64 a4, .int .i64 a5]] w fun e w' => e = .returned (.tuple #[.agg #[.int .i64 r0, .int .i64 r1], .int .i64 r2]) ∧ Below w.heap.size w w' := by
  replace H1 := hideC H1
  replace H2 := hideC H2
  replace H3 := hideC H3
  replace H4 := hideC H4
  replace H5 := hideC H5
  replace H6 := hideC H6
  have HQ := hideC hr
  clear hr
  have wn : IntKind.i64.wrap (n : Int) = (n : Int) := IntWalk.i64_in _ ⟨by omega, by omega⟩
  go_enter Tryz.func7, Tryz.ntmps7
  go_wp2_with fail
  have BB : Below w.heap.size w (((w.alloc (.cells #[.string s, v] 24)).alloc (.cells #[.int .i64 a0, .int .i64 a1, .int .i64 a2, .int .i64 a3, .int .i64 a4, .int .i64 a5] 37)).alloc (.cells #[.int .i64 0, .int .i64 0] 26)) := ((bel1 w _).trans ((bel1 _ _).mono (by simp))).trans ((bel1 _ _).mono (by simp; omega))
  have X0 : TxtV (((w.alloc (.cells #[.string s, v] 24)).alloc (.cells #[.int .i64 a0, .int .i64 a1, .int .i64 a2, .int .i64 a3, .int .i64 a4, .int .i64 a5] 37)).alloc (.cells #[.int .i64 0, .int .i64 0] 26)) w.heap.size s v := (((show TxtV _ w.heap.size s v from World.alloc_heap_new w _).keep (bel1 _ _))).keep (bel1 _ _)
  have P0 : SixC (((w.alloc (.cells #[.string s, v] 24)).alloc (.cells #[.int .i64 a0, .int .i64 a1, .int .i64 a2, .int .i64 a3, .int .i64 a4, .int .i64 a5] 37)).alloc (.cells #[.int .i64 0, .int .i64 0] 26)) (w.heap.size + 1) 37 a0 a1 a2 a3 a4 a5 := by
    have : SixC ((w.alloc (.cells #[.string s, v] 24)).alloc (.cells #[.int .i64 a0, .int .i64 a1, .int .i64 a2, .int .i64 a3, .int .i64 a4, .int .i64 a5] 37)) (w.heap.size + 1) 37 a0 a1 a2 a3 a4 a5 := by
      have := World.alloc_heap_new (w.alloc (.cells #[.string s, v] 24)) (.cells #[.int .i64 a0, .int .i64 a1, .int .i64 a2, .int .i64 a3, .int .i64 a4, .int .i64 a5] 37)
      rwa [World.size_alloc] at this
    exact this.keep (bel1 _ _)
  have R0 : Two (((w.alloc (.cells #[.string s, v] 24)).alloc (.cells #[.int .i64 a0, .int .i64 a1, .int .i64 a2, .int .i64 a3, .int .i64 a4, .int .i64 a5] 37)).alloc (.cells #[.int .i64 0, .int .i64 0] 26)) (w.heap.size + 1 + 1) (.int .i64 0) (.int .i64 0) := by
    have := Two.new ((w.alloc (.cells #[.string s, v] 24)).alloc (.cells #[.int .i64 a0, .int .i64 a1, .int .i64 a2, .int .i64 a3, .int .i64 a4, .int .i64 a5] 37)) (.int .i64 0) (.int .i64 0) 26
    simpa only [World.size_alloc] using this
  generalize (((w.alloc (.cells #[.string s, v] 24)).alloc (.cells #[.int .i64 a0, .int .i64 a1, .int .i64 a2, .int .i64 a3, .int .i64 a4, .int .i64 a5] 37)).alloc (.cells #[.int .i64 0, .int .i64 0] 26)) = V at *
  have HH := hideC (RwV.mk (w := w) BB X0 P0 R0)
  clear BB X0 P0 R0
  refine (H1.out _ HH.out.below).mono ?_
  rintro e w1 ⟨rfl, b1⟩
  have K1 := hideC (HH.out.keep b1)
  clear HH b1
  have zz1 : w.heap.size + 1 + 1 < w1.heap.size := K1.out.res.1
  by_cases g : ec = 0
  · subst g
    have ⟨x0, x1⟩ := K1.out.txt.cells
    have ⟨c0, c1', c2', c3, c4, c5⟩ := K1.out.six.cells
    go_wp2_with fail
    refine (H2.out _).mono ?_
    rintro e w2 ⟨rfl, b2⟩
    have K2 := hideC (K1.out.keep b2)
    clear K1 b2 x0 x1 c0 c1' c2' c3 c4 c5
    have zz2 : w.heap.size + 1 + 1 < w2.heap.size := K2.out.res.1
    cases rb with
    | true =>
      have ⟨x0, x1⟩ := K2.out.txt.cells
      have ⟨c0, c1', c2', c3, c4, c5⟩ := K2.out.six.cells
      go_wp2_with fail
      go_cut [7, 6] (fun p e wx => ∃ r, p = .pointer (some ⟨r, 0, none⟩) ∧ e = .int .i64 e1 ∧ RwV w s v a0 a1 a2 a3 a4 a5 wx ∧ Two wx r (.int .i64 q0) (.int .i64 q1) ∧ w.heap.size + 1 + 1 < r)
      case first =>
        go_region_held3 (fun w' => (w'.cell? ⟨w.heap.size, 0, none⟩ = some (.string s) ∧ w'.cell? ⟨w.heap.size, 1, none⟩ = some v) ∧ w'.cell? ⟨w.heap.size + 1, 0, none⟩ = some (.int .i64 a0) ∧ w'.cell? ⟨w.heap.size + 1, 1, none⟩ = some (.int .i64 a1)) (first | go_keep | assumption | exact ⟨⟨cell_two_setD (by omega) (by first | assumption | (rw [cell_old_allocD (by simp; omega)]; assumption)), cell_two_setD (by omega) (by first | assumption | (rw [cell_old_allocD (by simp; omega)]; assumption))⟩, cell_two_setD (by omega) (by first | assumption | (rw [cell_old_allocD (by simp; omega)]; assumption)), cell_two_setD (by omega) (by first | assumption | (rw [cell_old_allocD (by simp; omega)]; assumption))⟩) (first
          | (go_at_call 17; (with_reducible refine (H4.out _).mono ?_); rintro e w4 ⟨rfl, b4⟩; (first | (have F4 := hideC (F3.out.keep b4); have ⟨h0, h1, h2, h3⟩ := F4.out.cellsD; have K4 := hideC (K3.out.keep b4)) | (have F4 := hideC ((Two.new w3 (.int .i64 0) (.int .i64 0) 26).keep b4); have ⟨h0, h1, h2, h3⟩ := F4.out.cellsD; have b4 := bup (bel1 w3 _) b4; have K4 := hideC (K3.out.keep b4)) | (have K4 := hideC (K3.out.keep b4))); have ⟨y0, y1⟩ := K4.out.txt.cells; have ⟨d0, d1, _⟩ := K4.out.six.cells; have zz4 : w.heap.size + 1 + 1 < w4.heap.size := K4.out.res.1)
          | (go_at_call 10; (with_reducible refine Calls.mono (H3.out _ (by first | exact bup K2.out.below (Below.refl _ w2).drew | exact bup K2.out.below (bup (Below.refl _ w2).drew (bel1 w2.drew _)) | exact bup K2.out.below (bel1 w2 _).drew)) ?_); rintro e w3 ⟨rfl, b3⟩; (first
              | (have b3 := Below.drew_of b3; have K3 := hideC (K2.out.keep b3))
              | (have F3 : Hid (Two w3 w2.heap.size (.int .i64 0) (.int .i64 0)) := hideC ((Two.new w2.drew (.int .i64 0) (.int .i64 0) 26).keep b3); have ⟨g0, g1, g2, g3⟩ := F3.out.cellsD; have b3 := bup (bup (Below.refl _ w2).drew (bel1 w2.drew _)) b3; have K3 := hideC (K2.out.keep b3))
              | (have F3 : Hid (Two w3 w2.heap.size (.int .i64 0) (.int .i64 0)) := hideC ((Two.new w2 (.int .i64 0) (.int .i64 0) 26).drew.keep b3); have ⟨g0, g1, g2, g3⟩ := F3.out.cellsD; have b3 := bup (bel1 w2 _).drew b3; have K3 := hideC (K2.out.keep b3))); have ⟨z0', z1'⟩ := K3.out.txt.cells; have ⟨f0, f1, _⟩ := K3.out.six.cells; have zz3 : w.heap.size + 1 + 1 < w3.heap.size := K3.out.res.1))
        all_goals first | go_wp2_with fail | skip
        all_goals go_meet
        · exact ⟨_, rfl, rfl, K4.out.keep (bel1 _ _), Two.new w4 _ _ _, zz4⟩
        · exact ⟨_, rfl, rfl, K4.out.set (by omega), F4.out.set, zz3⟩
        · exact ⟨_, rfl, rfl, K4.out.set (by omega), F4.out.set, zz2⟩
      case rest =>
        obtain ⟨r, rfl, rfl, K, F, hrr⟩ := hcut
        generalize wc = X at *
        clear K2 x0 x1 c0 c1' c2' c3 c4 c5
        have ⟨d0, d1, d2, d3⟩ := K.res.cellsD
        have ⟨f0, f1, f2, f3⟩ := F.cellsD
        have zzX : w.heap.size + 1 + 1 < X.heap.size := K.res.1
        have KF := hideC (And.intro K F)
        clear K F
        by_cases u1 : ¬ e1 = 0
        · have hq : r0 = 0 ∧ r1 = 0 ∧ r2 = 12 := by rcases HQ.out with h | h | h | h | h | h; (first | exact absurd rfl h.1 | exact absurd trivial h.1); cases h.2.1; exact h.2.2.2; exact absurd h.2.2.1 u1; exact absurd h.2.2.1 u1; exact absurd h.2.2.1 u1
          obtain ⟨rfl, rfl, rfl⟩ := hq
          have u1' : (e1 != 0) = true := by simpa using u1
          go_wp2_with fail
          have ⟨t0, t1, _⟩ := (KF.out.1.res.set (x2 := .int .i64 0) (y2 := .int .i64 0)).cellsD
          exact bodyPost_ret (v := .tuple #[.agg #[.int .i64 0, .int .i64 0], .int .i64 12]) (by simp [results, Tryz.results7, go_sem, t0, t1]) rfl ⟨rfl, (KF.out.1.below.setCell (by simp; omega) _).setCell (by simp; omega) _⟩
        have u1 : e1 = 0 := Classical.not_not.1 u1
        subst u1
        by_cases u2 : 1048576 < q1
        · have hq : r0 = 0 ∧ r1 = 0 ∧ r2 = 12 := by have h9 := HQ.out; simp at h9; omega
          obtain ⟨rfl, rfl, rfl⟩ := hq
          go_wp2_with fail
          have ⟨t0, t1, _⟩ := (KF.out.1.res.set (x2 := .int .i64 0) (y2 := .int .i64 0)).cellsD
          exact bodyPost_ret (v := .tuple #[.agg #[.int .i64 0, .int .i64 0], .int .i64 12]) (by simp [results, Tryz.results7, go_sem, t0, t1]) rfl ⟨rfl, (KF.out.1.below.setCell (by simp; omega) _).setCell (by simp; omega) _⟩
        clear d0 d1 d2 d3
        go_wp2_with fail
        refine (H5.out _).mono ?_
        rintro e w5 ⟨rfl, b5⟩
        have KG := hideC (And.intro (KF.out.1.keep b5) (KF.out.2.keep b5))
        clear b5 KF f0 f1 f2 f3
        have ⟨d0, d1, d2, d3⟩ := KG.out.1.res.cellsD
        have zz5 : w.heap.size + 1 + 1 < w5.heap.size := KG.out.1.res.1
        by_cases u3 : 0 < c1
        · have hq : r0 = 0 ∧ r1 = 0 ∧ r2 = 31 := by have h9 := HQ.out; simp at h9; omega
          obtain ⟨rfl, rfl, rfl⟩ := hq
          go_wp2_with fail
          have ⟨t0, t1, _⟩ := (KG.out.1.res.set (x2 := .int .i64 0) (y2 := .int .i64 0)).cellsD
          exact bodyPost_ret (v := .tuple #[.agg #[.int .i64 0, .int .i64 0], .int .i64 31]) (by simp [results, Tryz.results7, go_sem, t0, t1]) rfl ⟨rfl, (KG.out.1.below.setCell (by simp; omega) _).setCell (by simp; omega) _⟩
        clear d0 d1 d2 d3
        have ⟨f0, f1, f2, f3⟩ := KG.out.2.cellsD
        have ⟨k0, k1, k2, k3, k4, k5⟩ := KG.out.1.six.cells
        go_wp2_with fail
        refine (H6.out _).mono ?_
        rintro e w6 ⟨rfl, b6⟩
        have KI := hideC (And.intro (KG.out.1.keep b6) (KG.out.2.keep b6))
        clear b6 KG f0 f1 f2 f3 k0 k1 k2 k3 k4 k5
        have ⟨d0, d1, d2, d3⟩ := KI.out.1.res.cellsD
        have zz6 : w.heap.size + 1 + 1 < w6.heap.size := KI.out.1.res.1
        by_cases u4 : c2 < 0
        · have hq : r0 = a2 ∧ r1 = a3 ∧ r2 = 0 := by have h9 := HQ.out; simp at h9; omega
          obtain ⟨rfl, rfl, rfl⟩ := hq
          have ⟨k0, k1, k2, k3, k4, k5⟩ := KI.out.1.six.cells
          go_wp2_with fail
          have ⟨t0, t1, _⟩ := (KI.out.1.res.set (x2 := .int .i64 r0) (y2 := .int .i64 r1)).cellsD
          exact bodyPost_ret (v := .tuple #[.agg #[.int .i64 r0, .int .i64 r1], .int .i64 0]) (by simp [results, Tryz.results7, go_sem, t0, t1]) rfl ⟨rfl, (KI.out.1.below.setCell (by simp; omega) _).setCell (by simp; omega) _⟩
        · have hq : r0 = q0 ∧ r1 = q1 ∧ r2 = 0 := by have h9 := HQ.out; simp at h9; omega
          obtain ⟨rfl, rfl, rfl⟩ := hq
          have ⟨f0, f1, f2, f3⟩ := KI.out.2.cellsD
          go_wp2_with fail
          have ⟨t0, t1, _⟩ := (KI.out.1.res.set (x2 := .int .i64 r0) (y2 := .int .i64 r1)).cellsD
          exact bodyPost_ret (v := .tuple #[.agg #[.int .i64 r0, .int .i64 r1], .int .i64 0]) (by simp [results, Tryz.results7, go_sem, t0, t1]) rfl ⟨rfl, (KI.out.1.below.setCell (by simp; omega) _).setCell (by simp; omega) _⟩
    | false =>
      have hq : r0 = 0 ∧ r1 = 0 ∧ r2 = 1 := by rcases HQ.out with h | h | h | h | h | h; (first | exact absurd rfl h.1 | exact absurd trivial h.1); exact h.2.2; cases h.2.1; cases h.2.1; cases h.2.1; cases h.2.1
      obtain ⟨rfl, rfl, rfl⟩ := hq
      have ⟨d0, d1, d2, d3⟩ := K2.out.res.cellsD
      go_wp2_with fail
      have ⟨t0, t1, _⟩ := (K2.out.res.set (x2 := .int .i64 0) (y2 := .int .i64 0)).cellsD
      exact bodyPost_ret (v := .tuple #[.agg #[.int .i64 0, .int .i64 0], .int .i64 1]) (by simp [results, Tryz.results7, go_sem, t0, t1]) rfl ⟨rfl, (K2.out.below.setCell (by simp; omega) _).setCell (by simp; omega) _⟩
  · have hq : r0 = 0 ∧ r1 = 0 ∧ r2 = ec := by rcases HQ.out with h | h | h | h | h | h; exact h.2; exact absurd h.1 g; exact absurd h.1 g; exact absurd h.1 g; exact absurd h.1 g; exact absurd h.1 g
    obtain ⟨rfl, rfl, rfl⟩ := hq
    have g' : (r2 != 0) = true := by simpa using g
    have ⟨d0, d1, d2, d3⟩ := K1.out.res.cellsD
    go_wp2_with fail
    have ⟨t0, t1, _⟩ := (K1.out.res.set (x2 := .int .i64 0) (y2 := .int .i64 0)).cellsD
    exact bodyPost_ret (v := .tuple #[.agg #[.int .i64 0, .int .i64 0], .int .i64 r2]) (by simp [results, Tryz.results7, go_sem, t0, t1]) rfl ⟨rfl, (K1.out.below.setCell (by simp; omega) _).setCell (by simp; omega) _⟩

end Go.Proofs.YtknpgifloddflaaGreatDoor

/- Contracts of speed.Rules.right, pace.wants, Wants at the rules of the statements' head. -/
namespace Go.Proofs.YtknpgifloddflaaGreatDoor
open Go.RowKit Go.Shelf

/-- The rules ten signs a second, a fifth, no gap, in a block of their own. -/
def SixR (w : World) (B : Nat) (t : TypeId) : Prop := w.heap[B]? = some (.cells #[.int .i64 10, .int .i64 1, .int .i64 1, .int .i64 5, .int .i64 0, .int .i64 1] t)
theorem SixR.cells {w : World} {B : Nat} {t : TypeId} (h : SixR w B t) :
    w.cell? ⟨B, 0, none⟩ = some (.int .i64 10) ∧ w.cell? ⟨B, 1, none⟩ = some (.int .i64 1) ∧ w.cell? ⟨B, 2, none⟩ = some (.int .i64 1) ∧ w.cell? ⟨B, 3, none⟩ = some (.int .i64 5) ∧ w.cell? ⟨B, 4, none⟩ = some (.int .i64 0) ∧ w.cell? ⟨B, 5, none⟩ = some (.int .i64 1) := by
  simp [World.cell?, show w.heap[B]? = _ from h]
theorem SixR.keep {w w' : World} {B : Nat} {t : TypeId} (h : SixR w B t) (b : Below w.heap.size w w') : SixR w' B t := (b.block B (Array.getElem?_eq_some_iff.1 h).1).trans h
theorem SixR.set {W : World} {B r : Nat} {t : TypeId} {a b : Value} (h : SixR W B t) (hr : B ≠ r) : SixR ((W.setCell ⟨r, 0, none⟩ a).setCell ⟨r, 1, none⟩ b) B t :=
  ((Below.heap_setCell _ _ _ _ hr).trans (Below.heap_setCell _ _ _ _ hr)).trans h
/-- A text without spans in a block of its own. -/
def TxtP (w : World) (B : Nat) (s : ByteArray) : Prop := w.heap[B]? = some (.cells #[.string s, .slice none 0 0] 24)
theorem TxtP.cells {w : World} {B : Nat} {s : ByteArray} (h : TxtP w B s) : w.cell? ⟨B, 0, none⟩ = some (.string s) ∧ w.cell? ⟨B, 1, none⟩ = some (.slice none 0 0) := by
  simp [World.cell?, show w.heap[B]? = _ from h]
theorem TxtP.keep {w w' : World} {B : Nat} {s : ByteArray} (h : TxtP w B s) (b : Below w.heap.size w w') : TxtP w' B s := (b.block B (Array.getElem?_eq_some_iff.1 h).1).trans h
theorem cell_two_set {W : World} {k o r : Nat} {a b v : Value} (h : k ≠ r) (hc : W.cell? ⟨k, o, none⟩ = some v) : ((W.setCell ⟨r, 0, none⟩ a).setCell ⟨r, 1, none⟩ b).cell? ⟨k, o, none⟩ = some v :=
  (World.cell?_of_block ((Below.heap_setCell _ _ _ _ h).trans (Below.heap_setCell _ _ _ _ h))).trans hc
theorem cell_old_alloc {W : World} {k o : Nat} {ob : Obj} (h : k < W.heap.size) : (W.alloc ob).cell? ⟨k, o, none⟩ = W.cell? ⟨k, o, none⟩ := World.cell?_of_block (Below.heap_alloc _ _ _ h)
theorem Two.cells {V : World} {R : Nat} {x y : Value} (h : Two V R x y) : V.cell? ⟨R, 0, none⟩ = some x ∧ V.cell? ⟨R, 1, none⟩ = some y ∧ V.frozen? ⟨R, 0, none⟩ = false ∧ V.frozen? ⟨R, 1, none⟩ = false := h.2
theorem TxtP.set {W : World} {B r : Nat} {s : ByteArray} {a b : Value} (h : TxtP W B s) (hr : B ≠ r) : TxtP ((W.setCell ⟨r, 0, none⟩ a).setCell ⟨r, 1, none⟩ b) B s :=
  ((Below.heap_setCell _ _ _ _ hr).trans (Below.heap_setCell _ _ _ _ hr)).trans h
/-- What lies at the head of pace.wants. -/
def PcW (w : World) (s : ByteArray) (W : World) : Prop := Below w.heap.size w W ∧ SixR W w.heap.size 44 ∧ TxtP W (w.heap.size + 1) s ∧ Two W (w.heap.size + 1 + 1) (.int .i64 0) (.int .i64 0)
theorem PcW.keep {w W W' : World} {s : ByteArray} (h : PcW w s W) (b : Below W.heap.size W W') : PcW w s W' := ⟨h.1.trans (b.mono h.1.size), h.2.1.keep b, h.2.2.1.keep b, h.2.2.2.keep b⟩
theorem PcW.set {w W : World} {s : ByteArray} {r : Nat} {a b : Value} (h : PcW w s W) (hr : w.heap.size + 1 + 1 < r) : PcW w s ((W.setCell ⟨r, 0, none⟩ a).setCell ⟨r, 1, none⟩ b) :=
  ⟨(h.1.setCell (by simp; omega) _).setCell (by simp; omega) _, h.2.1.set (by omega), h.2.2.1.set (by omega), h.2.2.2.other (by omega)⟩
theorem PcW.facts {w W : World} {s : ByteArray} (h : PcW w s W) : (W.cell? ⟨w.heap.size, 0, none⟩ = some (.int .i64 10) ∧ W.cell? ⟨w.heap.size, 1, none⟩ = some (.int .i64 1) ∧ W.cell? ⟨w.heap.size, 2, none⟩ = some (.int .i64 1) ∧ W.cell? ⟨w.heap.size, 3, none⟩ = some (.int .i64 5)) ∧ (W.cell? ⟨w.heap.size + 1, 0, none⟩ = some (.string s) ∧ W.cell? ⟨w.heap.size + 1, 1, none⟩ = some (.slice none 0 0)) :=
  ⟨⟨h.2.1.cells.1, h.2.1.cells.2.1, h.2.1.cells.2.2.1, h.2.1.cells.2.2.2.1⟩, h.2.2.1.cells⟩
theorem PcW.below {w W : World} {s : ByteArray} (h : PcW w s W) : Below w.heap.size w W := h.1
theorem PcW.res {w W : World} {s : ByteArray} (h : PcW w s W) : Two W (w.heap.size + 1 + 1) (.int .i64 0) (.int .i64 0) := h.2.2.2
theorem scount_4 (s : ByteArray) (hs : s.size ≤ 4096) (hr : readN (signs s) = 4) (N : Nat) (w : World) (hT : Tabs N w) :
    Calls Tryz.prog 9 #[.agg #[.string s, .slice none 0 0]] w fun e w' => e = .returned (.int .i64 4) ∧ Below w.heap.size w w' := by
  have := scount_any s (by omega) (.slice none 0 0) N w hT
  rw [hr] at this
  exact this
theorem right_10 (w : World) : Calls Tryz.prog 23 #[.agg #[.int .i64 10, .int .i64 1]] w fun e w' => e = .returned (.bool true) ∧ Below w.heap.size w w' :=
  (right_any ⟨10, 1⟩ ⟨⟨by simp, by simp⟩, ⟨by simp, by simp⟩⟩ w)
theorem time_15 (w : World) : Calls Tryz.prog 24 #[.agg #[.int .i64 1, .int .i64 5]] w fun e w' => e = .returned (.int .i64 0) ∧ Below w.heap.size w w' :=
  (time_any ⟨1, 5⟩ ⟨⟨by simp, by simp⟩, ⟨by simp, by simp⟩⟩ w)
theorem time_25 (w : World) : Calls Tryz.prog 24 #[.agg #[.int .i64 2, .int .i64 5]] w fun e w' => e = .returned (.int .i64 0) ∧ Below w.heap.size w w' :=
  (time_any ⟨2, 5⟩ ⟨⟨by simp, by simp⟩, ⟨by simp, by simp⟩⟩ w)
theorem div_4_10 (w : World) : Calls Tryz.prog 25 #[.agg #[.int .i64 4, .int .i64 1], .agg #[.int .i64 10, .int .i64 1]] w fun e w' => e = .returned (.tuple #[.agg #[.int .i64 2, .int .i64 5], .int .i64 0]) ∧ Below w.heap.size w w' := by
  have h : divA ⟨4, 1⟩ ⟨10, 1⟩ = (⟨2, 5⟩, 0) := by
    unfold divA
    rw [if_pos (by decide), if_neg (by decide)]
    have h : valQ ⟨4, 1⟩ / valQ ⟨10, 1⟩ = valQ ⟨2, 5⟩ := by
      unfold valQ
      rw [Rat.div_def, Rat.inv_divInt, Rat.divInt_mul_divInt]
      decide
    rw [h]
    exact low_right ⟨2, 5⟩ (by decide)
  have := quo_any ⟨4, 1⟩ ⟨10, 1⟩ ⟨⟨by simp, by simp⟩, ⟨by simp, by simp⟩⟩ ⟨⟨by simp, by simp⟩, ⟨by simp, by simp⟩⟩ w
  rw [h] at this
  exact this

theorem row_two_new (w : World) (a b c d : Int) (t : TypeId) : RowAt [⟨a, b⟩, ⟨c, d⟩] ⟨w.heap.size, 0, none⟩ (w.alloc (.cells #[.int .i64 a, .int .i64 b, .int .i64 c, .int .i64 d] t)) := by
  have h : (w.alloc (.cells #[.int .i64 a, .int .i64 b, .int .i64 c, .int .i64 d] t)).heap[w.heap.size]? = some (.cells #[.int .i64 a, .int .i64 b, .int .i64 c, .int .i64 d] t) := World.alloc_heap_new w _
  have hz : w.heap.size < (w.alloc (.cells #[.int .i64 a, .int .i64 b, .int .i64 c, .int .i64 d] t)).heap.size := by simp
  generalize w.alloc (.cells #[.int .i64 a, .int .i64 b, .int .i64 c, .int .i64 d] t) = W at *
  have c0 : W.cell? ⟨w.heap.size, 0, none⟩ = some (.int .i64 a) := by unfold World.cell?; rw [h]; rfl
  have c1 : W.cell? ⟨w.heap.size, 1, none⟩ = some (.int .i64 b) := by unfold World.cell?; rw [h]; rfl
  have c2 : W.cell? ⟨w.heap.size, 2, none⟩ = some (.int .i64 c) := by unfold World.cell?; rw [h]; rfl
  have c3 : W.cell? ⟨w.heap.size, 3, none⟩ = some (.int .i64 d) := by unfold World.cell?; rw [h]; rfl
  refine ⟨hz, fun i p hp => ?_⟩
  match i, hp with
  | 0, hp => simp at hp; subst hp; exact ⟨c0, c1⟩
  | 1, hp => simp at hp; subst hp; exact ⟨c2, c3⟩
theorem most_two (B : Nat) (w : World) (hR : RowAt [⟨1, 5⟩, ⟨2, 5⟩] ⟨B, 0, none⟩ w) :
    Calls Tryz.prog 27 #[.slice (some ⟨B, 0, none⟩) 2 2] w fun e w' => e = .returned (.tuple #[.agg #[.int .i64 2, .int .i64 5], .bool true]) ∧ Below w.heap.size w w' :=
  most_wrap w _ 2 5 true fun w0 b0 => outer_walk [⟨1, 5⟩, ⟨2, 5⟩] [⟨2, 5⟩] (by intro p hp; simp at hp; rcases hp with rfl | rfl <;> exact ⟨⟨by simp, by simp⟩, ⟨by simp, by simp⟩⟩) ⟨1, 5⟩ rfl rfl 1 ⟨B, 0, none⟩ 2 (by decide) (by decide) w0 (hR.old b0)

set_option maxRecDepth 100000 in
set_option maxHeartbeats 400000 in
theorem rulesRight (w : World) :
    Calls Tryz.prog 13 #[.agg #[.int .i64 10, .int .i64 1, .int .i64 1, .int .i64 5, .int .i64 0, .int .i64 1]] w fun e w' => e = .returned (.bool true) ∧ Below w.heap.size w w' := by
  go_enter Tryz.func13, Tryz.ntmps13
  go_wp2_with fail
  refine (right_10 _).mono ?_
  rintro e w1 ⟨rfl, b1⟩
  have Q1 : SixR w1 w.heap.size 33 := (show SixR _ w.heap.size 33 from World.alloc_heap_new w _).keep b1
  have B1 := hideC ((bel1 w _).trans (b1.mono (by simp)))
  clear b1
  have ⟨c0, c1, c2, c3, c4, c5⟩ := Q1.cells
  have Q1 := hideC Q1
  go_wp2_with fail
  refine (time_15 _).mono ?_
  rintro e w2 ⟨rfl, b2⟩
  have Q2 := Q1.out.keep b2
  have B2 := hideC (B1.out.trans (b2.mono B1.out.size))
  clear b2 B1 c0 c1 c2 c3 c4 c5
  have ⟨c0, c1, c2, c3, c4, c5⟩ := Q2.cells
  have Q2 := hideC Q2
  go_wp2_with fail
  refine (time_0 _).mono ?_
  rintro e w3 ⟨rfl, b3⟩
  have B3 := hideC (B2.out.trans (b3.mono B2.out.size))
  clear b3 B2 c0 c1 c2 c3 c4 c5
  go_wp2
  go_ret
  exact ⟨rfl, B3.out⟩

set_option maxRecDepth 100000 in
set_option maxHeartbeats 400000 in
theorem paceWants (s : ByteArray) (hs : s.size ≤ 4096) (hr : readN (signs s) = 4) (N : Nat) (w : World) (hT : Tabs N w) :
    Calls Tryz.prog 14 #[.agg #[.int .i64 10, .int .i64 1, .int .i64 1, .int .i64 5, .int .i64 0, .int .i64 1], .agg #[.string s, .slice none 0 0]] w fun e w' => e = .returned (.tuple #[.agg #[.int .i64 2, .int .i64 5], .int .i64 0]) ∧ Below w.heap.size w w' := by
  go_enter Tryz.func14, Tryz.ntmps14
  go_wp2_with fail
  have BB : Below w.heap.size w (((w.alloc (.cells #[.int .i64 10, .int .i64 1, .int .i64 1, .int .i64 5, .int .i64 0, .int .i64 1] 44)).alloc (.cells #[.string s, .slice none 0 0] 24)).alloc (.cells #[.int .i64 0, .int .i64 0] 26)) := ((bel1 w _).trans ((bel1 _ _).mono (by simp))).trans ((bel1 _ _).mono (by simp; omega))
  have P0 : SixR (((w.alloc (.cells #[.int .i64 10, .int .i64 1, .int .i64 1, .int .i64 5, .int .i64 0, .int .i64 1] 44)).alloc (.cells #[.string s, .slice none 0 0] 24)).alloc (.cells #[.int .i64 0, .int .i64 0] 26)) w.heap.size 44 := (((show SixR _ w.heap.size 44 from World.alloc_heap_new w _).keep (bel1 _ _))).keep (bel1 _ _)
  have X0 : TxtP (((w.alloc (.cells #[.int .i64 10, .int .i64 1, .int .i64 1, .int .i64 5, .int .i64 0, .int .i64 1] 44)).alloc (.cells #[.string s, .slice none 0 0] 24)).alloc (.cells #[.int .i64 0, .int .i64 0] 26)) (w.heap.size + 1) s := by
    have : TxtP ((w.alloc (.cells #[.int .i64 10, .int .i64 1, .int .i64 1, .int .i64 5, .int .i64 0, .int .i64 1] 44)).alloc (.cells #[.string s, .slice none 0 0] 24)) (w.heap.size + 1) s := by
      have := World.alloc_heap_new (w.alloc (.cells #[.int .i64 10, .int .i64 1, .int .i64 1, .int .i64 5, .int .i64 0, .int .i64 1] 44)) (.cells #[.string s, .slice none 0 0] 24)
      rwa [World.size_alloc] at this
    exact this.keep (bel1 _ _)
  have R0 : Two (((w.alloc (.cells #[.int .i64 10, .int .i64 1, .int .i64 1, .int .i64 5, .int .i64 0, .int .i64 1] 44)).alloc (.cells #[.string s, .slice none 0 0] 24)).alloc (.cells #[.int .i64 0, .int .i64 0] 26)) (w.heap.size + 1 + 1) (.int .i64 0) (.int .i64 0) := by
    have := Two.new ((w.alloc (.cells #[.int .i64 10, .int .i64 1, .int .i64 1, .int .i64 5, .int .i64 0, .int .i64 1] 44)).alloc (.cells #[.string s, .slice none 0 0] 24)) (.int .i64 0) (.int .i64 0) 26
    simpa only [World.size_alloc] using this
  have T0 := hT.below BB
  generalize (((w.alloc (.cells #[.int .i64 10, .int .i64 1, .int .i64 1, .int .i64 5, .int .i64 0, .int .i64 1] 44)).alloc (.cells #[.string s, .slice none 0 0] 24)).alloc (.cells #[.int .i64 0, .int .i64 0] 26)) = V at *
  have ⟨p0, p1, p2, p3, p4, p5⟩ := P0.cells
  have ⟨x0, x1⟩ := X0.cells
  have HH := hideC (And.intro (show PcW w s V from ⟨BB, P0, X0, R0⟩) T0)
  clear BB P0 X0 R0 T0 hT
  have z0 : w.heap.size + 1 + 1 < V.heap.size := HH.out.1.res.1
  go_cut [6, 7] (fun p e wx => ∃ r, p = .pointer (some ⟨r, 0, none⟩) ∧ e = .int .i64 0 ∧ PcW w s wx ∧ Two wx r (.int .i64 2) (.int .i64 5) ∧ w.heap.size + 1 + 1 < r)
  case first =>
    go_region_held3 (fun w' => (w'.cell? ⟨w.heap.size + 1, 0, none⟩ = some (.string s) ∧ w'.cell? ⟨w.heap.size + 1, 1, none⟩ = some (.slice none 0 0)) ∧ w'.cell? ⟨w.heap.size, 0, none⟩ = some (.int .i64 10) ∧ w'.cell? ⟨w.heap.size, 1, none⟩ = some (.int .i64 1)) (first | go_keep | assumption | exact ⟨⟨cell_two_set (by omega) (by first | assumption | (rw [cell_old_alloc (by simp; omega)]; assumption)), cell_two_set (by omega) (by first | assumption | (rw [cell_old_alloc (by simp; omega)]; assumption))⟩, cell_two_set (by omega) (by first | assumption | (rw [cell_old_alloc (by simp; omega)]; assumption)), cell_two_set (by omega) (by first | assumption | (rw [cell_old_alloc (by simp; omega)]; assumption))⟩) (first
      | (go_at_call 25; (with_reducible refine (div_4_10 _).mono ?_); rintro e w2 ⟨rfl, b2⟩; (first | (have F2 := hideC (F1.out.keep b2); have ⟨h0, h1, h2, h3⟩ := F2.out.cells; have K2 := hideC (K1.out.keep b2)) | (have F2 := hideC ((Two.new w1 (.int .i64 0) (.int .i64 0) 26).keep b2); have ⟨h0, h1, h2, h3⟩ := F2.out.cells; have b2 := bup (bel1 w1 _) b2; have K2 := hideC (K1.out.keep b2)) | (have K2 := hideC (K1.out.keep b2))); have ⟨⟨r0, r1, r2, r3⟩, ⟨x0, x1⟩⟩ := K2.out.facts; have zz2 : w.heap.size + 1 + 1 < w2.heap.size := K2.out.res.1)
      | (go_at_call 9; (with_reducible refine Calls.mono (scount_4 s hs hr N _ (by first | exact HH.out.2.below (Below.refl _ V).drew | exact HH.out.2.below (bup (Below.refl _ V).drew (bel1 V.drew _)) | exact HH.out.2.below (bel1 V _).drew)) ?_); rintro e w1 ⟨rfl, b1⟩; (first
          | (have b1 := Below.drew_of b1; have K1 := hideC (HH.out.1.keep b1))
          | (have F1 : Hid (Two w1 V.heap.size (.int .i64 0) (.int .i64 0)) := hideC ((Two.new V.drew (.int .i64 0) (.int .i64 0) 26).keep b1); have ⟨g0, g1, g2, g3⟩ := F1.out.cells; have b1 := bup (bup (Below.refl _ V).drew (bel1 V.drew _)) b1; have K1 := hideC (HH.out.1.keep b1))
          | (have F1 : Hid (Two w1 V.heap.size (.int .i64 0) (.int .i64 0)) := hideC ((Two.new V (.int .i64 0) (.int .i64 0) 26).drew.keep b1); have ⟨g0, g1, g2, g3⟩ := F1.out.cells; have b1 := bup (bel1 V _).drew b1; have K1 := hideC (HH.out.1.keep b1))); have ⟨⟨q0, q1, q2, q3⟩, ⟨y0, y1⟩⟩ := K1.out.facts; have zz1 : w.heap.size + 1 + 1 < w1.heap.size := K1.out.res.1))
    all_goals first | go_wp2_with fail | skip
    all_goals go_meet
    · exact ⟨_, rfl, rfl, K2.out.keep (bel1 _ _), Two.new w2 _ _ _, zz2⟩
    · exact ⟨_, rfl, rfl, K2.out.set (by omega), F2.out.set, zz1⟩
    · exact ⟨_, rfl, rfl, K2.out.set (by omega), F2.out.set, z0⟩
  case rest =>
    obtain ⟨r, rfl, rfl, K, F, hrr⟩ := hcut
    generalize wc = X at *
    have ⟨⟨q0, q1, q2, q3⟩, ⟨y0, y1⟩⟩ := K.facts
    have ⟨f0, f1, f2, f3⟩ := F.cells
    have KF := hideC (And.intro K F)
    clear K F HH p0 p1 p2 p3 p4 p5 x0 x1
    go_wp2_with fail
    refine (time_25 _).mono ?_
    rintro e w3 ⟨rfl, b3⟩
    have KF3 := hideC (And.intro (KF.out.1.keep b3) (KF.out.2.keep b3))
    clear b3 KF q0 q1 q2 q3 y0 y1 f0 f1 f2 f3
    go_wp2_with fail
    refine (or_zero _ _ (cell_two_newA _ _ _ _) (cell_two_newB _ _ _ _)).mono ?_
    rintro e w4 ⟨rfl, b4⟩
    have KF4 := hideC (And.intro (KF3.out.1.keep (bup (bel1 _ _) b4)) (KF3.out.2.keep (bup (bel1 _ _) b4)))
    clear b4 KF3
    have ⟨⟨q0, q1, q2, q3⟩, ⟨y0, y1⟩⟩ := KF4.out.1.facts
    have ⟨f0, f1, f2, f3⟩ := KF4.out.2.cells
    go_wp2_with fail
    refine (most_two _ _ (row_two_new _ _ _ _ _ _)).mono ?_
    rintro e w5 ⟨rfl, b5⟩
    have KF5 := hideC (KF4.out.1.keep (bup (bel1 _ _) b5))
    clear b5 KF4 q0 q1 q2 q3 y0 y1 f0 f1 f2 f3
    have ⟨e0, e1, e2, e3⟩ := KF5.out.res.cells
    have zz5 : w.heap.size + 1 + 1 < w5.heap.size := KF5.out.res.1
    go_wp2_with fail
    have ⟨t0, t1, _⟩ := ((KF5.out.res.set (x2 := .int .i64 2) (y2 := .int .i64 5)).alloc (.cells #[.int .i64 2, .int .i64 5] 26)).cells
    exact bodyPost_ret (v := .tuple #[.agg #[.int .i64 2, .int .i64 5], .int .i64 0]) (by simp [results, Tryz.results14, go_sem, t0, t1]) rfl ⟨rfl, bup ((KF5.out.below.setCell (by simp; omega) _).setCell (by simp; omega) _) (bel1 _ _)⟩

set_option maxRecDepth 100000 in
set_option maxHeartbeats 400000 in
theorem wants_plain (s : ByteArray) (hs : s.size ≤ 4096) (hr : readN (signs s) = 4) (N : Nat) (w : World) (hT : Tabs N w) :
    Calls Tryz.prog 5 #[.agg #[.string s, .slice none 0 0], .agg #[.int .i64 10, .int .i64 1, .int .i64 1, .int .i64 5, .int .i64 0, .int .i64 1]] w fun e w' => e = .returned (.tuple #[.agg #[.int .i64 2, .int .i64 5], .int .i64 0]) ∧ Below w.heap.size w w' := by
  go_enter Tryz.func5, Tryz.ntmps5
  go_wp2_with fail
  have BB : Below w.heap.size w (((w.alloc (.cells #[.string s, .slice none 0 0] 24)).alloc (.cells #[.int .i64 10, .int .i64 1, .int .i64 1, .int .i64 5, .int .i64 0, .int .i64 1] 33)).alloc (.cells #[.int .i64 0, .int .i64 0] 26)) := ((bel1 w _).trans ((bel1 _ _).mono (by simp))).trans ((bel1 _ _).mono (by simp; omega))
  have X0 : TxtP (((w.alloc (.cells #[.string s, .slice none 0 0] 24)).alloc (.cells #[.int .i64 10, .int .i64 1, .int .i64 1, .int .i64 5, .int .i64 0, .int .i64 1] 33)).alloc (.cells #[.int .i64 0, .int .i64 0] 26)) w.heap.size s := (((show TxtP _ w.heap.size s from World.alloc_heap_new w _).keep (bel1 _ _))).keep (bel1 _ _)
  have P0 : SixR (((w.alloc (.cells #[.string s, .slice none 0 0] 24)).alloc (.cells #[.int .i64 10, .int .i64 1, .int .i64 1, .int .i64 5, .int .i64 0, .int .i64 1] 33)).alloc (.cells #[.int .i64 0, .int .i64 0] 26)) (w.heap.size + 1) 33 := by
    have : SixR ((w.alloc (.cells #[.string s, .slice none 0 0] 24)).alloc (.cells #[.int .i64 10, .int .i64 1, .int .i64 1, .int .i64 5, .int .i64 0, .int .i64 1] 33)) (w.heap.size + 1) 33 := by
      have := World.alloc_heap_new (w.alloc (.cells #[.string s, .slice none 0 0] 24)) (.cells #[.int .i64 10, .int .i64 1, .int .i64 1, .int .i64 5, .int .i64 0, .int .i64 1] 33)
      rwa [World.size_alloc] at this
    exact this.keep (bel1 _ _)
  have R0 : Two (((w.alloc (.cells #[.string s, .slice none 0 0] 24)).alloc (.cells #[.int .i64 10, .int .i64 1, .int .i64 1, .int .i64 5, .int .i64 0, .int .i64 1] 33)).alloc (.cells #[.int .i64 0, .int .i64 0] 26)) (w.heap.size + 1 + 1) (.int .i64 0) (.int .i64 0) := by
    have := Two.new ((w.alloc (.cells #[.string s, .slice none 0 0] 24)).alloc (.cells #[.int .i64 10, .int .i64 1, .int .i64 1, .int .i64 5, .int .i64 0, .int .i64 1] 33)) (.int .i64 0) (.int .i64 0) 26
    simpa only [World.size_alloc] using this
  generalize (((w.alloc (.cells #[.string s, .slice none 0 0] 24)).alloc (.cells #[.int .i64 10, .int .i64 1, .int .i64 1, .int .i64 5, .int .i64 0, .int .i64 1] 33)).alloc (.cells #[.int .i64 0, .int .i64 0] 26)) = V at *
  have HH := hideC (And.intro BB (And.intro X0 (And.intro P0 R0)))
  clear BB X0 P0 R0
  refine (checkText_plain s hs _).mono ?_
  rintro e w1 ⟨rfl, b1⟩
  have H1 := hideC (And.intro (bup HH.out.1 b1) (And.intro (HH.out.2.1.keep b1) (And.intro (HH.out.2.2.1.keep b1) (HH.out.2.2.2.keep b1))))
  clear HH b1
  have ⟨x0, x1⟩ := H1.out.2.1.cells
  have ⟨p0, p1, p2, p3, p4, p5⟩ := H1.out.2.2.1.cells
  have ⟨r0, r1, r2, r3⟩ := H1.out.2.2.2.cells
  go_wp2_with fail
  refine (rulesRight _).mono ?_
  rintro e w2 ⟨rfl, b2⟩
  have H2 := hideC (And.intro (bup H1.out.1 b2) (And.intro (H1.out.2.1.keep b2) (And.intro (H1.out.2.2.1.keep b2) (H1.out.2.2.2.keep b2))))
  clear H1 b2 x0 x1 p0 p1 p2 p3 p4 p5 r0 r1 r2 r3
  have ⟨x0, x1⟩ := H2.out.2.1.cells
  have ⟨p0, p1, p2, p3, p4, p5⟩ := H2.out.2.2.1.cells
  have ⟨r0, r1, r2, r3⟩ := H2.out.2.2.2.cells
  go_wp2_with fail
  refine (paceWants s hs hr N _ (hT.below H2.out.1)).mono ?_
  rintro e w3 ⟨rfl, b3⟩
  have H3 := hideC (And.intro (bup H2.out.1 b3) (H2.out.2.2.2.keep b3))
  clear H2 b3 x0 x1 p0 p1 p2 p3 p4 p5 r0 r1 r2 r3
  have ⟨r0, r1, r2, r3⟩ := H3.out.2.cells
  go_wp2_with fail
  have ⟨t0, t1, _⟩ := (H3.out.2.set (x2 := .int .i64 2) (y2 := .int .i64 5)).cells
  exact bodyPost_ret (v := .tuple #[.agg #[.int .i64 2, .int .i64 5], .int .i64 0]) (by simp [results, Tryz.results5, go_sem, t0, t1]) rfl ⟨rfl, (H3.out.1.setCell (by simp; omega) _).setCell (by simp; omega) _⟩

set_option maxHeartbeats 400000 in
theorem whole11 (n : Int) (w : World) : Calls Tryz.prog 11 #[.int .i64 n] w fun e w' => e = .returned (.agg #[.int .i64 n, .int .i64 1]) ∧ Below w.heap.size w w' := by
  go_enter Tryz.func11, Tryz.ntmps11
  go_wp2
  exact bodyPost_ret (v := .agg #[.int .i64 n, .int .i64 1]) (by simp [results, Tryz.results11, go_sem]) rfl ⟨rfl, bel1 _ _⟩
end Go.Proofs.YtknpgifloddflaaGreatDoor

/- The head of the statements on speed. -/
namespace Go.Proofs.YtknpgifloddflaaGreatDoor
open Go.RowKit Go.Shelf

/-- The text of the head. -/
def kS : ByteArray := ⟨#[97, 32, 98, 204, 129, 228, 184, 173, 255]⟩
theorem kS_read : readN (signs kS) = 4 := by kernel_rfl
theorem TxtP.lt {w : World} {B : Nat} {s : ByteArray} (h : TxtP w B s) : B < w.heap.size := (Array.getElem?_eq_some_iff.1 h).1

/-- What lies in known(). -/
structure KnW (w : World) (s : ByteArray) (N : Nat) (W : World) : Prop where
  below : Below w.heap.size w W
  txt : TxtP W w.heap.size s
  tabs : Tabs N W
theorem KnW.keep {w W W' : World} {s : ByteArray} {N : Nat} (h : KnW w s N W) (b : Below W.heap.size W W') : KnW w s N W' := ⟨bup h.below b, h.txt.keep b, h.tabs.below b⟩
theorem KnW.set {w W : World} {s : ByteArray} {N r : Nat} {a b : Value} (h : KnW w s N W) (hr : w.heap.size < r) (hN : N ≤ w.heap.size) : KnW w s N ((W.setCell ⟨r, 0, none⟩ a).setCell ⟨r, 1, none⟩ b) :=
  ⟨(h.below.setCell (by simp; omega) _).setCell (by simp; omega) _, h.txt.set (by omega), h.tabs.but (((But.refl (fun k => k = r) W).setCell rfl _).setCell rfl _) (fun k hk => by omega)⟩

set_option maxRecDepth 100000 in
set_option maxHeartbeats 1000000 in
theorem known11 (N : Nat) (w : World) (hT : Tabs N w) :
    Calls Tryz.prog 4 #[] w fun e w' => e = .returned (.bool true) ∧ Below w.heap.size w w' := by
  have hks : kS.size ≤ 4096 := by decide
  have hkr := kS_read
  have hNw : N ≤ w.heap.size := hT.room
  go_enter Tryz.func4, Tryz.ntmps4
  go_wp2_with fail
  rw [show (⟨#[97, 32, 98, 204, 129, 228, 184, 173, 255]⟩ : ByteArray) = kS from rfl]
  have K0 : KnW w kS N (w.alloc (.cells #[.string kS, .slice none 0 0] 24)) := ⟨bel1 w _, World.alloc_heap_new w _, hT.below (bel1 w _)⟩
  generalize kS = s at *
  generalize w.alloc (.cells #[.string s, .slice none 0 0] 24) = V at *
  have z0 : w.heap.size < V.heap.size := K0.txt.lt
  have ⟨y0a, y0b⟩ := K0.txt.cells
  have K0 := hideC K0
  go_cut [2, 3] (fun p e wx => ∃ r, p = .pointer (some ⟨r, 0, none⟩) ∧ e = .int .i64 0 ∧ KnW w s N wx ∧ Two wx r (.int .i64 2) (.int .i64 5))
  case first =>
    go_region_held3 (fun w' => w'.cell? ⟨w.heap.size, 0, none⟩ = some (.string s) ∧ w'.cell? ⟨w.heap.size, 1, none⟩ = some (.slice none 0 0)) (first | go_keep | assumption | exact ⟨cell_two_set (by omega) (by first | assumption | (rw [cell_old_alloc (by simp; omega)]; assumption)), cell_two_set (by omega) (by first | assumption | (rw [cell_old_alloc (by simp; omega)]; assumption))⟩) (first
      | (go_at_call 5; (with_reducible refine Calls.mono (wants_plain s hks hkr N _ (by first | exact (KnW.keep K2.out (Below.refl _ _)).tabs | exact (KnW.keep K2.out (bel1 _ _)).tabs)) ?_); rintro e w3 ⟨rfl, b3⟩; (first | (have F3 := hideC (F2.out.keep b3); have ⟨h3a, h3b, h3c, h3d⟩ := F3.out.cells; have K3 := hideC (KnW.keep K2.out b3)) | (have F3 : Hid (Two w3 w2.heap.size (.int .i64 0) (.int .i64 0)) := hideC ((Two.new w2 (.int .i64 0) (.int .i64 0) 26).keep b3); have ⟨h3a, h3b, h3c, h3d⟩ := F3.out.cells; have b3 := bup (bel1 w2 _) b3; have K3 := hideC (KnW.keep K2.out b3)) | (have K3 := hideC (KnW.keep K2.out b3))); have ⟨y3a, y3b⟩ := K3.out.txt.cells; have zz3 : w.heap.size < w3.heap.size := K3.out.txt.lt)
      | (go_at_call 11; (with_reducible refine Calls.mono (whole11 0 _) ?_); rintro e w2 ⟨rfl, b2⟩; (first | (have F2 := hideC (F1.out.keep b2); have ⟨h2a, h2b, h2c, h2d⟩ := F2.out.cells; have K2 := hideC (KnW.keep K1.out b2)) | (have F2 : Hid (Two w2 w1.heap.size (.int .i64 0) (.int .i64 0)) := hideC ((Two.new w1 (.int .i64 0) (.int .i64 0) 26).keep b2); have ⟨h2a, h2b, h2c, h2d⟩ := F2.out.cells; have b2 := bup (bel1 w1 _) b2; have K2 := hideC (KnW.keep K1.out b2)) | (have K2 := hideC (KnW.keep K1.out b2))); have ⟨y2a, y2b⟩ := K2.out.txt.cells; have zz2 : w.heap.size < w2.heap.size := K2.out.txt.lt)
      | (go_at_call 11; (with_reducible refine Calls.mono (whole11 10 _) ?_); rintro e w1 ⟨rfl, b1⟩; (first | (have b1 := Below.drew_of b1; have K1 := hideC (KnW.keep K0.out b1)) | (have F1 : Hid (Two w1 V.heap.size (.int .i64 0) (.int .i64 0)) := hideC ((Two.new V.drew (.int .i64 0) (.int .i64 0) 26).keep b1); have ⟨g0, g1, g2, g3⟩ := F1.out.cells; have b1 := bup (bup (Below.refl _ V).drew (bel1 V.drew _)) b1; have K1 := hideC (KnW.keep K0.out b1)) | (have F1 : Hid (Two w1 V.heap.size (.int .i64 0) (.int .i64 0)) := hideC ((Two.new V (.int .i64 0) (.int .i64 0) 26).drew.keep b1); have ⟨g0, g1, g2, g3⟩ := F1.out.cells; have b1 := bup (bel1 V _).drew b1; have K1 := hideC (KnW.keep K0.out b1))); have ⟨y1a, y1b⟩ := K1.out.txt.cells; have zz1 : w.heap.size < w1.heap.size := K1.out.txt.lt))
    all_goals first | go_wp2_with fail | skip
    all_goals go_meet
    · exact ⟨_, rfl, rfl, K3.out.keep (bel1 _ _), Two.new w3 _ _ _⟩
    all_goals exact ⟨_, rfl, rfl, K3.out.set (by omega) hNw, F3.out.set⟩
  case rest =>
    obtain ⟨r, rfl, rfl, K, F⟩ := hcut
    generalize wc = X at *
    have ⟨y0, y1⟩ := K.txt.cells
    have ⟨f0, f1, f2, f3⟩ := F.cells
    have KF := hideC (And.intro K F)
    clear K F K0 y0a y0b
    go_wp2_with fail
    refine (scount_4 s hks hkr N _ KF.out.1.tabs).mono ?_
    rintro e w1 ⟨rfl, b1⟩
    have H1 := hideC (KF.out.1.keep b1)
    have ⟨g0, g1, g2, g3⟩ := (KF.out.2.keep b1).cells
    clear b1 KF y0 y1 f0 f1 f2 f3
    go_wp2
    go_ret
    exact ⟨rfl, H1.out.below⟩

end Go.Proofs.YtknpgifloddflaaGreatDoor

/- SpeedCounts: the walk. -/
namespace Go.Proofs.YtknpgifloddflaaGreatDoor
open Go.RowKit Go.Shelf

theorem rt_guardD : Tryz.prog.eqGuardType Tryz.prog.depth 26 = false := by kernel_rfl
theorem rt_underD : Tryz.prog.underlying 26 = some (.struct (Tryz.prog.fieldsOf 26)) := by kernel_rfl
theorem rt_heldD : Tryz.prog.stoodInHeld 26 = false := by kernel_rfl
theorem rt_fieldsD : (Tryz.prog.fieldsOf 26).toList.map (fun f => (f.name, f.type, f.offset)) = [("N", 2, 0), ("D", 2, 1)] := by kernel_rfl
set_option maxRecDepth 100000 in
theorem rt_sameD (a b : Int) (w : World) : (Op.equalIn 10000 26 (.agg #[.int .i64 a, .int .i64 b]) (.agg #[.int .i64 a, .int .i64 b])).run Tryz.prog w = .ok true w := by
  rw [run_equalIn_agg _ _ _ _ _ rt_underD rt_heldD]
  have hf := rt_fieldsD
  match h : (Tryz.prog.fieldsOf 26).toList, hf with
  | [f0, f1], hf =>
    clear h
    simp only [List.map_cons, List.map_nil, List.cons.injEq, Prod.mk.injEq, and_true] at hf
    obtain ⟨⟨n0, t0, o0⟩, ⟨n1, t1, o1⟩⟩ := hf
    have u3 : Tryz.prog.underlying 2 = some (.int .i64) := Tryz.underlying2
    simp [Op.eqFields, n0, n1, t0, t1, o0, o1, go_sem, u3]
  | [], hf => simp at hf
  | [_], hf => simp at hf
  | _ :: _ :: _ :: _, hf => simp at hf
theorem rt_eqlD (a b : Int) (w : World) : (binOp .eql 26 (.agg #[.int .i64 a, .int .i64 b]) (.agg #[.int .i64 a, .int .i64 b])).run Tryz.prog w = .ok (.bool true) w := by
  rw [run_eql_struct, rt_sameD]; rfl

set_option maxHeartbeats 400000 in
theorem as11 (a0 a1 a2 a3 a4 a5 : Int) (w : World) : Calls Tryz.prog 6 #[.agg #[.int .i64 a0, .int .i64 a1, .int .i64 a2, .int .i64 a3, .int .i64 a4, .int .i64 a5]] w fun e w' => e = .returned (.agg #[.int .i64 a0, .int .i64 a1, .int .i64 a2, .int .i64 a3, .int .i64 a4, .int .i64 a5]) ∧ Below w.heap.size w w' := by
  go_enter Tryz.func6, Tryz.ntmps6
  go_wp2
  exact bodyPost_ret (v := .agg #[.int .i64 a0, .int .i64 a1, .int .i64 a2, .int .i64 a3, .int .i64 a4, .int .i64 a5]) (by simp [results, Tryz.results6, go_sem]) rfl ⟨rfl, by first | exact bel1 _ _ | exact bup (bel1 _ _) (bel1 _ _)⟩
set_option maxHeartbeats 400000 in
theorem by11 (a0 a1 a2 a3 a4 a5 : Int) (w : World) : Calls Tryz.prog 8 #[.agg #[.int .i64 a0, .int .i64 a1, .int .i64 a2, .int .i64 a3, .int .i64 a4, .int .i64 a5]] w fun e w' => e = .returned (.agg #[.int .i64 a0, .int .i64 a1, .int .i64 a2, .int .i64 a3, .int .i64 a4, .int .i64 a5]) ∧ Below w.heap.size w w' := by
  go_enter Tryz.func8, Tryz.ntmps8
  go_wp2
  exact bodyPost_ret (v := .agg #[.int .i64 a0, .int .i64 a1, .int .i64 a2, .int .i64 a3, .int .i64 a4, .int .i64 a5]) (by simp [results, Tryz.results8, go_sem]) rfl ⟨rfl, by first | exact bel1 _ _ | exact bup (bel1 _ _) (bel1 _ _)⟩

/-- What lies at the head of SpeedCounts. -/
structure ScV (w : World) (s : ByteArray) (v : Value) (a0 a1 a2 a3 a4 a5 : Int) (W : World) : Prop where
  below : Below w.heap.size w W
  txt : TxtV W w.heap.size s v
  six : SixC W (w.heap.size + 1) 28 a0 a1 a2 a3 a4 a5
theorem ScV.keep {w W W' : World} {s : ByteArray} {v : Value} {a0 a1 a2 a3 a4 a5 : Int} (h : ScV w s v a0 a1 a2 a3 a4 a5 W) (b : Below W.heap.size W W') : ScV w s v a0 a1 a2 a3 a4 a5 W' := ⟨bup h.below b, h.txt.keep b, h.six.keep b⟩
theorem ScV.set {w W : World} {s : ByteArray} {v : Value} {a0 a1 a2 a3 a4 a5 : Int} {r : Nat} {a b : Value} (h : ScV w s v a0 a1 a2 a3 a4 a5 W) (hr : w.heap.size + 1 < r) : ScV w s v a0 a1 a2 a3 a4 a5 ((W.setCell ⟨r, 0, none⟩ a).setCell ⟨r, 1, none⟩ b) :=
  ⟨(h.below.setCell (by simp; omega) _).setCell (by simp; omega) _, h.txt.set (by omega), h.six.set (by omega)⟩
theorem ScV.lt {w W : World} {s : ByteArray} {v : Value} {a0 a1 a2 a3 a4 a5 : Int} (h : ScV w s v a0 a1 a2 a3 a4 a5 W) : w.heap.size + 1 < W.heap.size := (Array.getElem?_eq_some_iff.1 h.six).1

set_option maxRecDepth 100000 in
set_option maxHeartbeats 4000000 in
theorem counts11_walk (s : ByteArray) (v : Value) (a0 a1 a2 a3 a4 a5 : Int) (n : Nat) (r0 r1 r2 : Int) (w : World)
    (HK : ∀ W, Below w.heap.size w W → Calls Tryz.prog 4 #[] W fun e w' => e = .returned (.bool true) ∧ Below W.heap.size W w')
    (HW : ∀ W, Below w.heap.size w W → Calls Tryz.prog 5 #[.agg #[.string s, v], .agg #[.int .i64 a0, .int .i64 a1, .int .i64 a2, .int .i64 a3, .int .i64 a4, .int .i64 a5]] W fun e w' => e = .returned (.tuple #[.agg #[.int .i64 r0, .int .i64 r1], .int .i64 r2]) ∧ Below W.heap.size W w')
    (HX : ∀ W, Below w.heap.size w W → Calls Tryz.prog 7 #[.agg #[.string s, v], .agg #[.int .i64 a0, .int .i64 a1, .int .i64 a2, .int .i64 a3, .int .i64 a4, .int .i64 a5]] W fun e w' => e = .returned (.tuple #[.agg #[.int .i64 r0, .int .i64 r1], .int .i64 r2]) ∧ Below W.heap.size W w')
    (HC : ∀ W, Below w.heap.size w W → Calls Tryz.prog 9 #[.agg #[.string s, v]] W fun e w' => e = .returned (.int .i64 n) ∧ Below W.heap.size W w')
    (HD : ∀ W, Below w.heap.size w W → Calls Tryz.prog 10 #[.agg #[.string s, v]] W fun e w' => e = .returned (.int .i64 n) ∧ Below W.heap.size W w') :
    Calls Tryz.prog 3 #[.agg #[.string s, v], .agg #[.int .i64 a0, .int .i64 a1, .int .i64 a2, .int .i64 a3, .int .i64 a4, .int .i64 a5]] w fun e w' => e = .returned (.bool true) ∧ Below w.heap.size w w' := by
  have HA := hideC (as11 a0 a1 a2 a3 a4 a5)
  have HB := hideC (by11 a0 a1 a2 a3 a4 a5)
  replace HK := hideC HK
  replace HW := hideC HW
  replace HX := hideC HX
  replace HC := hideC HC
  replace HD := hideC HD
  go_enter Tryz.func3, Tryz.ntmps3
  go_wp2_with fail
  have BB : Below w.heap.size w ((w.alloc (.cells #[.string s, v] 24)).alloc (.cells #[.int .i64 a0, .int .i64 a1, .int .i64 a2, .int .i64 a3, .int .i64 a4, .int .i64 a5] 28)) := (bel1 w _).trans ((bel1 _ _).mono (by simp))
  have X0 : TxtV ((w.alloc (.cells #[.string s, v] 24)).alloc (.cells #[.int .i64 a0, .int .i64 a1, .int .i64 a2, .int .i64 a3, .int .i64 a4, .int .i64 a5] 28)) w.heap.size s v := (show TxtV _ w.heap.size s v from World.alloc_heap_new w _).keep (bel1 _ _)
  have P0 : SixC ((w.alloc (.cells #[.string s, v] 24)).alloc (.cells #[.int .i64 a0, .int .i64 a1, .int .i64 a2, .int .i64 a3, .int .i64 a4, .int .i64 a5] 28)) (w.heap.size + 1) 28 a0 a1 a2 a3 a4 a5 := by
    have := World.alloc_heap_new (w.alloc (.cells #[.string s, v] 24)) (.cells #[.int .i64 a0, .int .i64 a1, .int .i64 a2, .int .i64 a3, .int .i64 a4, .int .i64 a5] 28)
    rwa [World.size_alloc] at this
  generalize ((w.alloc (.cells #[.string s, v] 24)).alloc (.cells #[.int .i64 a0, .int .i64 a1, .int .i64 a2, .int .i64 a3, .int .i64 a4, .int .i64 a5] 28)) = V at *
  have HH := hideC (ScV.mk (w := w) BB X0 P0)
  clear BB X0 P0
  refine (HK.out _ HH.out.below).mono ?_
  rintro e w1 ⟨rfl, b1⟩
  have K := hideC (HH.out.keep b1)
  clear HH b1 HK
  have ⟨x0, x1⟩ := K.out.txt.cells
  have ⟨c0, c1', c2', c3, c4, c5⟩ := K.out.six.cells
  have zz : w.heap.size + 1 < w1.heap.size := K.out.lt
  go_wp2_with fail
  go_cut [5, 6] (fun p e wx => ∃ r, p = .pointer (some ⟨r, 0, none⟩) ∧ e = .int .i64 r2 ∧ ScV w s v a0 a1 a2 a3 a4 a5 wx ∧ Two wx r (.int .i64 r0) (.int .i64 r1) ∧ w1.heap.size ≤ r)
  case first =>
    go_region_held3 (fun w' => (w'.cell? ⟨w.heap.size, 0, none⟩ = some (.string s) ∧ w'.cell? ⟨w.heap.size, 1, none⟩ = some v) ∧ w'.cell? ⟨w.heap.size + 1, 0, none⟩ = some (.int .i64 a0) ∧ w'.cell? ⟨w.heap.size + 1, 1, none⟩ = some (.int .i64 a1) ∧ w'.cell? ⟨w.heap.size + 1, 2, none⟩ = some (.int .i64 a2) ∧ w'.cell? ⟨w.heap.size + 1, 3, none⟩ = some (.int .i64 a3) ∧ w'.cell? ⟨w.heap.size + 1, 4, none⟩ = some (.int .i64 a4) ∧ w'.cell? ⟨w.heap.size + 1, 5, none⟩ = some (.int .i64 a5)) (first | go_keep | assumption | exact ⟨⟨cell_two_setD (by omega) (by first | assumption | (rw [cell_old_allocD (by simp; omega)]; assumption)), cell_two_setD (by omega) (by first | assumption | (rw [cell_old_allocD (by simp; omega)]; assumption))⟩, cell_two_setD (by omega) (by first | assumption | (rw [cell_old_allocD (by simp; omega)]; assumption)), cell_two_setD (by omega) (by first | assumption | (rw [cell_old_allocD (by simp; omega)]; assumption)), cell_two_setD (by omega) (by first | assumption | (rw [cell_old_allocD (by simp; omega)]; assumption)), cell_two_setD (by omega) (by first | assumption | (rw [cell_old_allocD (by simp; omega)]; assumption)), cell_two_setD (by omega) (by first | assumption | (rw [cell_old_allocD (by simp; omega)]; assumption)), cell_two_setD (by omega) (by first | assumption | (rw [cell_old_allocD (by simp; omega)]; assumption))⟩) (first
      | (go_at_call 5; (with_reducible refine (HW.out _ (by first | exact bup K4.out.below (Below.refl _ _) | exact bup K4.out.below (bel1 _ _))).mono ?_); rintro e w5 ⟨rfl, b5⟩; (first | (have F5 := hideC (F4.out.keep b5); have ⟨h0, h1, h2, h3⟩ := F5.out.cellsD; have K5 := hideC (K4.out.keep b5)) | (have F5 := hideC ((Two.new w4 (.int .i64 0) (.int .i64 0) 26).keep b5); have ⟨h0, h1, h2, h3⟩ := F5.out.cellsD; have b5 := bup (bel1 w4 _) b5; have K5 := hideC (K4.out.keep b5)) | (have K5 := hideC (K4.out.keep b5))); have ⟨y0, y1⟩ := K5.out.txt.cells; have ⟨d0, d1, d2, d3, d4, d5⟩ := K5.out.six.cells; have zz5 : w1.heap.size ≤ w5.heap.size := Nat.le_trans zz4 b5.size)
      | (go_at_call 6; (with_reducible refine Calls.mono (HA.out _) ?_); rintro e w4 ⟨rfl, b4⟩; (first
          | (have b4 := Below.drew_of b4; have K4 := hideC (K.out.keep b4))
          | (have F4 : Hid (Two w4 w1.heap.size (.int .i64 0) (.int .i64 0)) := hideC ((Two.new w1.drew (.int .i64 0) (.int .i64 0) 26).keep b4); have ⟨g0, g1, g2, g3⟩ := F4.out.cellsD; have b4 := bup (bup (Below.refl _ w1).drew (bel1 w1.drew _)) b4; have K4 := hideC (K.out.keep b4))
          | (have F4 : Hid (Two w4 w1.heap.size (.int .i64 0) (.int .i64 0)) := hideC ((Two.new w1 (.int .i64 0) (.int .i64 0) 26).drew.keep b4); have ⟨g0, g1, g2, g3⟩ := F4.out.cellsD; have b4 := bup (bel1 w1 _).drew b4; have K4 := hideC (K.out.keep b4))); have ⟨z0', z1'⟩ := K4.out.txt.cells; have ⟨f0, f1, f2, f3, f4, f5⟩ := K4.out.six.cells; have zz4 : w1.heap.size ≤ w4.heap.size := b4.size))
    all_goals first | go_wp2_with fail | skip
    all_goals go_meet
    · exact ⟨_, rfl, rfl, K5.out.keep (bel1 _ _), Two.new w5 _ _ _, zz5⟩
    · exact ⟨_, rfl, rfl, K5.out.set (by omega), F5.out.set, zz4⟩
    · exact ⟨_, rfl, rfl, K5.out.set (by omega), F5.out.set, Nat.le_refl _⟩
  case rest =>
    obtain ⟨ra, rfl, rfl, K', F, hrr⟩ := hcut
    generalize wc = X at *
    clear K x0 x1 c0 c1' c2' c3 c4 c5 HA HW
    have ⟨x0, x1⟩ := K'.txt.cells
    have ⟨c0, c1', c2', c3, c4, c5⟩ := K'.six.cells
    have zz2 : w.heap.size + 1 < X.heap.size := K'.lt
    have hra : ra < X.heap.size := F.1
    have JF := hideC F
    have J := hideC K'
    clear K' F
    first | go_wp2_with fail | skip
    go_cut [7, 8] (fun p e wx => ∃ r, p = .pointer (some ⟨r, 0, none⟩) ∧ e = .int .i64 r2 ∧ ScV w s v a0 a1 a2 a3 a4 a5 wx ∧ Two wx r (.int .i64 r0) (.int .i64 r1) ∧ X.heap.size ≤ r ∧ Two wx ra (.int .i64 r0) (.int .i64 r1))
    case first =>
      go_region_held3 (fun w' => (w'.cell? ⟨w.heap.size, 0, none⟩ = some (.string s) ∧ w'.cell? ⟨w.heap.size, 1, none⟩ = some v) ∧ w'.cell? ⟨w.heap.size + 1, 0, none⟩ = some (.int .i64 a0) ∧ w'.cell? ⟨w.heap.size + 1, 1, none⟩ = some (.int .i64 a1) ∧ w'.cell? ⟨w.heap.size + 1, 2, none⟩ = some (.int .i64 a2) ∧ w'.cell? ⟨w.heap.size + 1, 3, none⟩ = some (.int .i64 a3) ∧ w'.cell? ⟨w.heap.size + 1, 4, none⟩ = some (.int .i64 a4) ∧ w'.cell? ⟨w.heap.size + 1, 5, none⟩ = some (.int .i64 a5)) (first | go_keep | assumption | exact ⟨⟨cell_two_setD (by omega) (by first | assumption | (rw [cell_old_allocD (by simp; omega)]; assumption)), cell_two_setD (by omega) (by first | assumption | (rw [cell_old_allocD (by simp; omega)]; assumption))⟩, cell_two_setD (by omega) (by first | assumption | (rw [cell_old_allocD (by simp; omega)]; assumption)), cell_two_setD (by omega) (by first | assumption | (rw [cell_old_allocD (by simp; omega)]; assumption)), cell_two_setD (by omega) (by first | assumption | (rw [cell_old_allocD (by simp; omega)]; assumption)), cell_two_setD (by omega) (by first | assumption | (rw [cell_old_allocD (by simp; omega)]; assumption)), cell_two_setD (by omega) (by first | assumption | (rw [cell_old_allocD (by simp; omega)]; assumption)), cell_two_setD (by omega) (by first | assumption | (rw [cell_old_allocD (by simp; omega)]; assumption))⟩) (first
        | (go_at_call 7; (with_reducible refine (HX.out _ (by first | exact bup J4.out.below (Below.refl _ _) | exact bup J4.out.below (bel1 _ _))).mono ?_); rintro e w5 ⟨rfl, b5⟩; (first | (have F5 := hideC (F4.out.keep b5); have ⟨h0, h1, h2, h3⟩ := F5.out.cellsD; have J5 := hideC (J4.out.keep b5)) | (have F5 := hideC ((Two.new w4 (.int .i64 0) (.int .i64 0) 26).keep b5); have ⟨h0, h1, h2, h3⟩ := F5.out.cellsD; have b5 := bup (bel1 w4 _) b5; have J5 := hideC (J4.out.keep b5)) | (have J5 := hideC (J4.out.keep b5))); have ⟨y0, y1⟩ := J5.out.txt.cells; have ⟨d0, d1, d2, d3, d4, d5⟩ := J5.out.six.cells; have zz5 : X.heap.size ≤ w5.heap.size := Nat.le_trans zz4 b5.size)
        | (go_at_call 8; (with_reducible refine Calls.mono (HB.out _) ?_); rintro e w4 ⟨rfl, b4⟩; (first
            | (have b4 := Below.drew_of b4; have J4 := hideC (J.out.keep b4))
            | (have F4 : Hid (Two w4 X.heap.size (.int .i64 0) (.int .i64 0)) := hideC ((Two.new X.drew (.int .i64 0) (.int .i64 0) 26).keep b4); have ⟨g0, g1, g2, g3⟩ := F4.out.cellsD; have b4 := bup (bup (Below.refl _ X).drew (bel1 X.drew _)) b4; have J4 := hideC (J.out.keep b4))
            | (have F4 : Hid (Two w4 X.heap.size (.int .i64 0) (.int .i64 0)) := hideC ((Two.new X (.int .i64 0) (.int .i64 0) 26).drew.keep b4); have ⟨g0, g1, g2, g3⟩ := F4.out.cellsD; have b4 := bup (bel1 X _).drew b4; have J4 := hideC (J.out.keep b4))); have ⟨z0', z1'⟩ := J4.out.txt.cells; have ⟨f0, f1, f2, f3, f4, f5⟩ := J4.out.six.cells; have zz4 : X.heap.size ≤ w4.heap.size := b4.size))
      all_goals first | go_wp2_with fail | skip
      all_goals go_meet
      · exact ⟨_, rfl, rfl, J5.out.keep (bel1 _ _), Two.new w5 _ _ _, zz5, (JF.out.keep (bup b4 b5)).keep (bel1 _ _)⟩
      · exact ⟨_, rfl, rfl, J5.out.set (by omega), F5.out.set, zz4, ((JF.out.keep (bup b4 b5))).other (by omega)⟩
      · exact ⟨_, rfl, rfl, J5.out.set (by omega), F5.out.set, Nat.le_refl _, ((JF.out.keep (bup b4 b5))).other (by omega)⟩
    case rest =>
      obtain ⟨rb, rfl, rfl, K', G, hrb, F'⟩ := hcut
      generalize wc = Y at *
      clear J JF x0 x1 c0 c1' c2' c3 c4 c5 HB HX
      have ⟨f0, f1, _, _⟩ := F'.cellsD
      have ⟨g0, g1, _, _⟩ := G.cellsD
      have ⟨x0, x1⟩ := K'.txt.cells
      have hlt := K'.lt
      have u0 : ∀ q : GrownQ Y, q.V.cell? ⟨w.heap.size, 0, none⟩ = some (.string s) := fun q => (q.h.cell (p := ⟨w.heap.size, 0, none⟩) (by show w.heap.size < _; omega)).trans x0
      have u1 : ∀ q : GrownQ Y, q.V.cell? ⟨w.heap.size, 1, none⟩ = some v := fun q => (q.h.cell (p := ⟨w.heap.size, 1, none⟩) (by show w.heap.size < _; omega)).trans x1
      have u2 : ∀ q : GrownQ Y, q.V.cell? ⟨ra, 0, none⟩ = some (.int .i64 r0) := fun q => (q.h.cell (p := ⟨ra, 0, none⟩) F'.1).trans f0
      have u3 : ∀ q : GrownQ Y, q.V.cell? ⟨ra, 1, none⟩ = some (.int .i64 r1) := fun q => (q.h.cell (p := ⟨ra, 1, none⟩) F'.1).trans f1
      have u4 : ∀ q : GrownQ Y, q.V.cell? ⟨rb, 0, none⟩ = some (.int .i64 r0) := fun q => (q.h.cell (p := ⟨rb, 0, none⟩) G.1).trans g0
      have u5 : ∀ q : GrownQ Y, q.V.cell? ⟨rb, 1, none⟩ = some (.int .i64 r1) := fun q => (q.h.cell (p := ⟨rb, 1, none⟩) G.1).trans g1
      have H0 := hideC K'.below
      clear f0 f1 g0 g1 x0 x1 hlt K' G F'
      go_upto_region 5 with fail
      have hgd := rt_guardD
      have heq := rt_eqlD r0 r1
      refine region_grown Y Y (by kernel_rfl) (by kernel_rfl) (Below.refl _ _) ?_
      repeat (go_big_quiet_step (first
        | (go_at_call 9; rename_i q; (with_reducible refine (HC.out _ (bup H0.out q.h)).mono ?_); rintro e V1 ⟨rfl, h1⟩; exact ⟨rfl, ⟨V1, q.h.trans (h1.mono q.h.size)⟩, rfl⟩)
        | (go_at_call 10; rename_i q; (with_reducible refine (HD.out _ (bup H0.out q.h)).mono ?_); rintro e V1 ⟨rfl, h1⟩; exact ⟨rfl, ⟨V1, q.h.trans (h1.mono q.h.size)⟩, rfl⟩)))
      refine wpQuiet_nil ?_
      rintro W3 ⟨⟨V3, hb3⟩, hv3⟩
      have hv3 : W3 = V3 := hv3
      subst hv3
      have H5 := hideC (bup H0.out hb3)
      clear hv3 hb3 u0 u1 u2 u3 u4 u5
      go_wp2_with fail
      go_ret
      exact ⟨by simp, H5.out⟩

theorem signs_leD (s : ByteArray) : (signs s).length ≤ s.size := sgns_length s s.size 0
/-- What both Wants tell. -/
theorem wants_same (n : Nat) (hn : (n : Int) ≤ 4611686018427387904) (S L G : Rt) (ec : Int) (RB : Bool) (hRB : (rightB S && decide (0 < S.N) && decide (timeA L = 0) && decide (timeA G = 0)) = RB)
    (q : Rt × Int) (hq : divA ⟨n, 1⟩ S = q) : ∃ r0 r1 r2 p0 p1 p2 : Int,
      ((¬ (if q.2 = 0 then timeA q.1 else q.2) = 0 ∧ p0 = 0 ∧ p1 = 0 ∧ p2 = (if q.2 = 0 then timeA q.1 else q.2)) ∨ ((if q.2 = 0 then timeA q.1 else q.2) = 0 ∧ p0 = (if cmpI q.1 L = 1 then q.1 else L).N ∧ p1 = (if cmpI q.1 L = 1 then q.1 else L).D ∧ p2 = 0)) ∧
      ((¬ ec = 0 ∧ r0 = 0 ∧ r1 = 0 ∧ r2 = ec) ∨ (ec = 0 ∧ RB = false ∧ r0 = 0 ∧ r1 = 0 ∧ r2 = 1) ∨ (ec = 0 ∧ RB = true ∧ r0 = p0 ∧ r1 = p1 ∧ r2 = p2)) ∧
      ((¬ ec = 0 ∧ r0 = 0 ∧ r1 = 0 ∧ r2 = ec) ∨ (ec = 0 ∧ RB = false ∧ r0 = 0 ∧ r1 = 0 ∧ r2 = 1) ∨ (ec = 0 ∧ RB = true ∧ (¬ q.2 = 0 ∨ 1048576 < q.1.D) ∧ r0 = 0 ∧ r1 = 0 ∧ r2 = 12) ∨ (ec = 0 ∧ RB = true ∧ q.2 = 0 ∧ ¬ 1048576 < q.1.D ∧ 0 < cmpI q.1 ⟨360000, 1⟩ ∧ r0 = 0 ∧ r1 = 0 ∧ r2 = 31) ∨ (ec = 0 ∧ RB = true ∧ q.2 = 0 ∧ ¬ 1048576 < q.1.D ∧ ¬ 0 < cmpI q.1 ⟨360000, 1⟩ ∧ cmpI q.1 L < 0 ∧ r0 = L.N ∧ r1 = L.D ∧ r2 = 0) ∨ (ec = 0 ∧ RB = true ∧ q.2 = 0 ∧ ¬ 1048576 < q.1.D ∧ ¬ 0 < cmpI q.1 ⟨360000, 1⟩ ∧ ¬ cmpI q.1 L < 0 ∧ r0 = q.1.N ∧ r1 = q.1.D ∧ r2 = 0)) := by
  have pe : ∃ p0 p1 p2 : Int, ((¬ (if q.2 = 0 then timeA q.1 else q.2) = 0 ∧ p0 = 0 ∧ p1 = 0 ∧ p2 = (if q.2 = 0 then timeA q.1 else q.2)) ∨ ((if q.2 = 0 then timeA q.1 else q.2) = 0 ∧ p0 = (if cmpI q.1 L = 1 then q.1 else L).N ∧ p1 = (if cmpI q.1 L = 1 then q.1 else L).D ∧ p2 = 0)) := by
    by_cases h : (if q.2 = 0 then timeA q.1 else q.2) = 0
    · exact ⟨_, _, _, .inr ⟨h, rfl, rfl, rfl⟩⟩
    · exact ⟨_, _, _, .inl ⟨h, rfl, rfl, rfl⟩⟩
  obtain ⟨p0, p1, p2, hp⟩ := pe
  by_cases he : ec = 0
  · cases RB with
    | false => exact ⟨0, 0, 1, p0, p1, p2, hp, .inr (.inl ⟨he, rfl, rfl, rfl, rfl⟩), .inr (.inl ⟨he, rfl, rfl, rfl, rfl⟩)⟩
    | true =>
      refine ⟨p0, p1, p2, p0, p1, p2, hp, .inr (.inr ⟨he, rfl, rfl, rfl, rfl⟩), ?_⟩
      simp only [Bool.and_eq_true, decide_eq_true_eq] at hRB
      obtain ⟨⟨⟨hS, hS0⟩, hL⟩, _⟩ := hRB
      have hnr : rightB ⟨n, 1⟩ = true := by
        rw [right_iff]
        refine ⟨by simp, by simp, by simp only; omega, by simp only; omega, by simp⟩
      rw [divA_right hnr hS (by omega)] at hq
      have hge : 0 ≤ valQ ⟨n, 1⟩ / valQ S := by
        rw [val_div]
        exact (Rat.divInt_nonneg_iff_of_pos_right (by simp only; omega)).2 (Int.mul_nonneg (by simp) (by have := val_pos S hS; omega))
      by_cases hz : q.2 = 0
      · have hz' : (low (valQ ⟨n, 1⟩ / valQ S)).2 = 0 := by rw [hq]; exact hz
        obtain ⟨qr, qv⟩ := low_ok_right _ hz'
        rw [hq] at qr qv
        rw [if_pos hz] at hp
        have hN : ¬ q.1.N < 0 := by
          rw [← qv] at hge
          intro h
          have := (Rat.divInt_nonneg_iff_of_pos_right (val_pos _ qr)).1 hge
          omega
        have hLr : rightB L = true := by
          rcases timeA_cases L with h | h | h | h | h
          · rw [h.2] at hL; omega
          · exact h.1
          · exact h.1
          · exact h.1
          · exact h.1
        rcases timeA_cases q.1 with h | h | h | h | h
        · rw [qr] at h; cases h.1
        · rw [h.2.2] at hp
          rcases hp with hp | hp
          · exact .inr (.inr (.inl ⟨he, rfl, .inr h.2.1, hp.2⟩))
          · exact absurd hp.1 (by omega)
        · exact absurd h.2.2.1 hN
        · rw [h.2.2.2.2] at hp
          rcases hp with hp | hp
          · exact .inr (.inr (.inr (.inl ⟨he, rfl, hz, h.2.1, h.2.2.2.1, hp.2⟩)))
          · exact absurd hp.1 (by omega)
        · rw [h.2.2.2.2] at hp
          rcases hp with hp | hp
          · exact absurd rfl hp.1
          · have hnc : ¬ 0 < cmpI q.1 ⟨360000, 1⟩ := h.2.2.2.1
            by_cases hc : cmpI q.1 L < 0
            · rw [if_neg (by omega)] at hp
              exact .inr (.inr (.inr (.inr (.inl ⟨he, rfl, hz, h.2.1, hnc, hc, hp.2⟩))))
            · by_cases hc1 : cmpI q.1 L = 1
              · rw [if_pos hc1] at hp
                exact .inr (.inr (.inr (.inr (.inr ⟨he, rfl, hz, h.2.1, hnc, hc, hp.2⟩))))
              · have := cmp_range q.1 L
                have e : q.1 = L := (cmp_zero qr hLr).1 (by omega)
                rw [if_neg hc1, ← e] at hp
                exact .inr (.inr (.inr (.inr (.inr ⟨he, rfl, hz, h.2.1, hnc, hc, hp.2⟩))))
      · rw [if_neg hz] at hp
        have h12 : q.2 = 12 := by
          rw [← hq]
          rw [← hq] at hz
          unfold low at hz ⊢
          split <;> simp_all
        rcases hp with hp | hp
        · exact .inr (.inr (.inl ⟨he, rfl, .inl hz, by rw [← h12]; exact hp.2⟩))
        · exact absurd hp.1 hz
  · exact ⟨0, 0, ec, p0, p1, p2, hp, .inl ⟨he, rfl, rfl, rfl⟩, .inl ⟨he, rfl, rfl, rfl⟩⟩

theorem divA_in (a b : Rt) : RtIn (divA a b).1 := by
  unfold divA
  split
  · split
    · exact ⟨⟨by simp [bad], by simp [bad]⟩, ⟨by simp [bad], by simp [bad]⟩⟩
    · exact low_in _
  · exact ⟨⟨by simp [bad], by simp [bad]⟩, ⟨by simp [bad], by simp [bad]⟩⟩
theorem chkT_size {s : ByteArray} {D : List Sp} (h : chkT s D = 0) : s.size ≤ 4096 := by
  unfold chkT at h
  by_cases hs : 4096 < s.size
  · rw [if_pos hs] at h; omega
  · omega

theorem counts11_any (s : ByteArray) (D : List Sp) (o : Option Addr) (cap : Nat) (S L G : Rt) (hs : s.size ≤ 140737488355328) (hc : D.length ≤ cap ∧ cap ≤ maxLen) (hn : o = none → D = [] ∧ cap = 0) (hS : RtIn S) (hL : RtIn L) (hG : RtIn G) (N : Nat) (w : World) (hT : Tabs N w) (hR : SpO w o D) :
    Calls Tryz.prog 3 #[.agg #[.string s, .slice o D.length cap], .agg #[.int .i64 S.N, .int .i64 S.D, .int .i64 L.N, .int .i64 L.D, .int .i64 G.N, .int .i64 G.D]] w fun e w' => e = .returned (.bool true) ∧ Below w.heap.size w w' := by
  have hle := signs_leD s
  have hrl := readN_le (signs s)
  obtain ⟨r0, r1, r2, p0, p1, p2, hw⟩ : ∃ r0 r1 r2 p0 p1 p2 : Int, (∀ W, Below w.heap.size w W → Calls Tryz.prog 5 #[.agg #[.string s, .slice o D.length cap], .agg #[.int .i64 S.N, .int .i64 S.D, .int .i64 L.N, .int .i64 L.D, .int .i64 G.N, .int .i64 G.D]] W fun e w' => e = .returned (.tuple #[.agg #[.int .i64 r0, .int .i64 r1], .int .i64 r2]) ∧ Below W.heap.size W w') ∧
      (∀ W, Below w.heap.size w W → Calls Tryz.prog 7 #[.agg #[.string s, .slice o D.length cap], .agg #[.int .i64 S.N, .int .i64 S.D, .int .i64 L.N, .int .i64 L.D, .int .i64 G.N, .int .i64 G.D]] W fun e w' => e = .returned (.tuple #[.agg #[.int .i64 r0, .int .i64 r1], .int .i64 r2]) ∧ Below W.heap.size W w') ∧ p0 = p1 ∧ p2 = p2 := by
    have hnb : (readN (signs s) : Int) ≤ 140737488355328 := by omega
    have hnin : RtIn ⟨(readN (signs s) : Nat), 1⟩ := ⟨⟨by show (-9223372036854775808 : Int) ≤ (readN (signs s) : Int); omega, by show (readN (signs s) : Int) ≤ 9223372036854775807; omega⟩, ⟨by simp, by simp⟩⟩
    obtain ⟨r0, r1, r2, p0, p1, p2, hp, h1, h2⟩ := wants_same (readN (signs s)) (by omega) S L G (chkT s D) _ rfl _ rfl
    refine ⟨r0, r1, r2, 0, 0, 0, fun W b => ?_, fun W b => ?_, rfl, rfl⟩
    · exact wants_walk s (.slice o D.length cap) S.N S.D L.N L.D G.N G.D (chkT s D) _ p0 p1 p2 W (fun W' b' => checkText_any s D o cap hs hc hn W' (hR.keep (bup b b')))
        (fun W' => rulesRight_walk S.N S.D L.N L.D G.N G.D (rightB S) (timeA L) (timeA G) W' (right_any S hS) (time_any L hL) (time_any G hG))
        (fun W' b' => paceWants_walk s (.slice o D.length cap) S.N S.D L.N L.D G.N G.D (readN (signs s)) _ _ _ _ _ _ _ (by omega) rfl W' (fun W2 b2 => scount_any s (by omega) _ N W2 (hT.below (bup (bup b b') b2))) (quo_any ⟨(readN (signs s) : Nat), 1⟩ S hnin hS) (time_any _ (divA_in _ _)) (fun B W2 hr => most_pair L _ hL (divA_in _ _) B W2 hr) p0 p1 p2 hp) r0 r1 r2 h1
    · exact rwants11_walk s (.slice o D.length cap) S.N S.D L.N L.D G.N G.D (chkT s D) _ (readN (signs s)) _ _ _ _ _ (by omega) W (fun W' b' => rcheck_any s D o cap W' (hR.keep (bup b b')))
        (fun W' => rright11_walk S.N S.D L.N L.D G.N G.D (rightB S) (timeA L) (timeA G) W' (rright_r S hS) (rtime_any L hL) (rtime_any G hG))
        (fun W' b' => rcount11_any s (by omega) _ W') (rdiv_any ⟨(readN (signs s) : Nat), 1⟩ S hnin hS) (rcmp_any _ ⟨360000, 1⟩ (divA_in _ _) ⟨⟨by simp, by simp⟩, ⟨by simp, by simp⟩⟩) (rcmp_any _ L (divA_in _ _) hL) r0 r1 r2 h2
  exact counts11_walk s (.slice o D.length cap) S.N S.D L.N L.D G.N G.D (readN (signs s)) r0 r1 r2 w (fun W b => known11 N W (hT.below b)) hw.1 hw.2.1 (fun W b => scount_any s (by omega) _ N W (hT.below b)) (fun W b => rcount11_any s hs _ W)
end Go.Proofs.YtknpgifloddflaaGreatDoor
