/- Several texts, one behind the other. -/
import Derived.Deep.RegionHeld3
import Derived.Deep.Cut
import Derived.Deep.CutRange
import Derived.Deep.DeepCutAuto
import Derived.Deep.CutBlock
import Derived.Test.YthhhglfcacoejaaGreatDoorGS
import Derived.Test.YthhhglfcacoejaaGreatDoorRatT
import Derived.Test.YthhhglfcacoejaaGreatDoorRefA8
import Derived.Test.YthhhglfcacoejaaGreatDoorRefB4
import Derived.Test.YthhhglfcacoejaaGreatDoorSp1
import Derived.Test.YthhhglfcacoejaaGreatDoorSp2
/- Rows of ratios: their memory; what Sum, Least and Most tell of them. -/
namespace Go.Proofs.YthhhglfcacoejaaGreatDoor
open Go.RowKit Go.Shelf

/-- Ratios that lie one behind the other. -/
def RowAt (l : List Rt) (a : Addr) (V : World) : Prop := a.block < V.heap.size ∧ ∀ (i : Nat) (p : Rt), l[i]? = some p → V.cell? (a.add (i * 2)) = some (.int .i64 p.N) ∧ V.cell? (a.add (i * 2 + 1)) = some (.int .i64 p.D)
theorem addr_block (a : Addr) (n : Nat) : (a.add n).block = a.block := by unfold Addr.add; split <;> rfl
theorem addr_next (a : Addr) (n : Nat) : a.add (n + 1) = ⟨(a.add n).block, (a.add n).off + 1, none⟩ := by
  unfold Addr.add
  by_cases h : n = 0
  · subst h; rfl
  · simp [h]; omega
theorem RowAt.keep {l : List Rt} {a : Addr} {V V2 : World} (h : RowAt l a V) (b : Below V.heap.size V V2) : RowAt l a V2 :=
  ⟨Nat.lt_of_lt_of_le h.1 b.size, fun i p hp => ⟨(b.cell (p := a.add (i * 2)) (by rw [addr_block]; exact h.1)).trans (h.2 i p hp).1, (b.cell (p := a.add (i * 2 + 1)) (by rw [addr_block]; exact h.1)).trans (h.2 i p hp).2⟩⟩
theorem RowAt.pair {l : List Rt} {a : Addr} {V : World} (h : RowAt l a V) {i : Nat} {p : Rt} (hp : l[i]? = some p) : V.cell? (a.add (i * 2)) = some (.int .i64 p.N) ∧ V.cell? ⟨(a.add (i * 2)).block, (a.add (i * 2)).off + 1, none⟩ = some (.int .i64 p.D) := by
  obtain ⟨h1, h2⟩ := h.2 i p hp
  rw [addr_next] at h2
  exact ⟨h1, h2⟩
theorem RowAt.alloc {l : List Rt} {a : Addr} {V : World} (h : RowAt l a V) (o : Obj) : RowAt l a (V.alloc o) := h.keep (bel1 V o)
theorem RowAt.old {l : List Rt} {a : Addr} {w V : World} (h : RowAt l a w) (b : Below w.heap.size w V) : RowAt l a V := h.keep b

/-- What Sum tells. -/
def sumF (s : Rt) : List Rt → Rt × Int
  | [] => (s, 0)
  | r :: t => if (addA s r).2 = 0 then sumF (addA s r).1 t else (⟨0, 0⟩, (addA s r).2)
def sumA (l : List Rt) : Rt × Int := sumF ⟨0, 1⟩ l
theorem sumF_step {l : List Rt} {k : Nat} {p : Rt} (hp : l[k]? = some p) (s : Rt) : sumF s (l.drop k) = if (addA s p).2 = 0 then sumF (addA s p).1 (l.drop (k + 1)) else (⟨0, 0⟩, (addA s p).2) := by
  obtain ⟨hk, e⟩ := List.getElem?_eq_some_iff.1 hp
  rw [List.drop_eq_getElem_cons hk, e]
  rfl
theorem sumF_end (l : List Rt) (s : Rt) : sumF s (l.drop l.length) = (s, 0) := by rw [List.drop_length]; rfl
theorem low_in (q : Rat) : RtIn (low q).1 := by
  unfold low
  by_cases h : fitsQ q = true
  · rw [if_pos h]
    have h2 : _ := of_decide_eq_true h
    unfold RtIn I64
    simp only
    omega
  · rw [if_neg h]
    exact ⟨⟨by simp, by simp⟩, ⟨by simp, by simp⟩⟩
theorem addA_in (a b : Rt) : RtIn (addA a b).1 := by
  unfold addA
  split
  · exact low_in _
  · exact ⟨⟨by simp [bad], by simp [bad]⟩, ⟨by simp [bad], by simp [bad]⟩⟩
/-- What Least and Most tell. -/
def bestF (side : Int) (b : Rt) : List Rt → Rt
  | [] => b
  | r :: t => bestF side (if cmpI r b = side then r else b) t
def bestA (side : Int) (l : List Rt) : Rt × Bool := match l with
  | [] => (⟨0, 0⟩, false)
  | b :: t => (bestF side b t, true)
theorem bestF_step {l : List Rt} {k : Nat} {p : Rt} (hp : l[k]? = some p) (side : Int) (b : Rt) : bestF side b (l.drop k) = bestF side (if cmpI p b = side then p else b) (l.drop (k + 1)) := by
  obtain ⟨hk, e⟩ := List.getElem?_eq_some_iff.1 hp
  rw [List.drop_eq_getElem_cons hk, e]
  rfl
theorem bestF_end (l : List Rt) (side : Int) (b : Rt) : bestF side b (l.drop l.length) = b := by rw [List.drop_length]; rfl
end Go.Proofs.YthhhglfcacoejaaGreatDoor

/- The contracts of ratio.outermost, Least, Most. -/
namespace Go.Proofs.YthhhglfcacoejaaGreatDoor
open Go.RowKit Go.Shelf
attribute [local go_sem] Oper.semAt_some

theorem addr_tail (a : Addr) (i : Nat) : (⟨a.block, a.off + 2, none⟩ : Addr).add (i * 2) = a.add ((i + 1) * 2) ∧ (⟨a.block, a.off + 2, none⟩ : Addr).add (i * 2 + 1) = a.add ((i + 1) * 2 + 1) := by
  unfold Addr.add
  constructor
  · by_cases h : i = 0
    · subst h; rfl
    · rw [if_neg (by omega), if_neg (by omega)]; simp only [Addr.mk.injEq, and_true, true_and]; omega
  · rw [if_neg (by omega), if_neg (by omega)]; simp only [Addr.mk.injEq, and_true, true_and]; omega
theorem addr_flat (b o n : Nat) : (⟨b, o, none⟩ : Addr).add n = ⟨b, o + n, none⟩ := by
  unfold Addr.add
  by_cases h : n = 0
  · subst h; rfl
  · rw [if_neg h]
theorem RowAt.tail {l : List Rt} {a : Addr} {V : World} (h : RowAt l a V) : RowAt (l.drop 1) ⟨a.block, a.off + 2, none⟩ V := by
  refine ⟨h.1, fun i p hp => ?_⟩
  rw [List.getElem?_drop] at hp
  rw [(addr_tail a i).1, (addr_tail a i).2, Nat.add_comm i 1]
  exact h.2 (1 + i) p hp

set_option maxRecDepth 100000 in
set_option maxHeartbeats 1000000 in
theorem outer_one (b0 : Rt) (side : Int) (a : Addr) (w : World) (hR : RowAt [b0] a w) :
    Calls Tryz.prog 89 #[.slice (some a) 1 1, .int .i64 side] w fun e w' => e = .returned (.tuple #[rtv b0, .bool true]) ∧ Below w.heap.size w w' := by
  obtain ⟨e0, e1⟩ := (hR.alloc (.cells #[.int .i64 0, .int .i64 0] 26)).pair (i := 0) (p := b0) rfl
  rw [show a.add (0 * 2) = a from rfl] at e0 e1
  unfold rtv
  go_enter Tryz.func89, Tryz.ntmps89
  go_wp2_with fail
  go_loopw [19] (fun i wr => i = .int .i64 0 ∧ Two wr w.heap.size (.int .i64 0) (.int .i64 0) ∧ Two wr (w.heap.size + 1) (.int .i64 b0.N) (.int .i64 b0.D) ∧ Below w.heap.size w wr) (fun _ _ => 0)
  case atStart =>
    refine ⟨rfl, (Two.new w (.int .i64 0) (.int .i64 0) 26).alloc _, ?_, bel2 w _ _⟩
    have := Two.new (w.alloc (.cells #[.int .i64 0, .int .i64 0] 26)) (.int .i64 b0.N) (.int .i64 b0.D) 26
    rwa [show (w.alloc (.cells #[.int .i64 0, .int .i64 0] 26)).heap.size = w.heap.size + 1 by simp] at this
  case round =>
    obtain ⟨rfl, T0, T1, hB⟩ := hrel
    obtain ⟨_, s0, s1, _, _⟩ := id T1
    obtain ⟨_, n0, n1, n2, n3⟩ := id T0
    go_wp2_with fail
    exact bodyPost_ret (v := .tuple #[.agg #[.int .i64 b0.N, .int .i64 b0.D], .bool true]) (by simp [results, Tryz.results89, go_sem, n0, n1]) rfl ⟨rfl, (hB.setCell (by simp) _).setCell (by simp) _⟩

set_option maxRecDepth 100000 in
set_option maxHeartbeats 1000000 in
theorem outer_walk (l t : List Rt) (hl : ∀ p ∈ l, RtIn p) (b0 : Rt) (hb0 : l[0]? = some b0) (ht : l.drop 1 = t) (side : Int) (a : Addr) (cap : Nat) (hc : l.length ≤ cap ∧ cap ≤ maxLen) (h1 : ¬ cap = 1) (w : World) (hR : RowAt l a w) :
    Calls Tryz.prog 89 #[.slice (some a) l.length cap, .int .i64 side] w fun e w' => e = .returned (.tuple #[rtv (bestF side b0 t), .bool true]) ∧ Below w.heap.size w w' := by
  have hmx : maxLen ≤ 9223372036854775807 := by decide
  obtain ⟨R, eR⟩ : ∃ R, bestF side b0 t = R := ⟨_, rfl⟩
  rw [eR]
  have ER := hideR eR
  have hn : 0 < l.length := (List.getElem?_eq_some_iff.1 hb0).1
  have hi0 := hideR (hl b0 (List.mem_of_getElem? hb0))
  have hRt := hR.tail
  have HT := hideR (show ∀ p ∈ t, RtIn p from fun p hp => hl p (List.mem_of_mem_drop (by rw [ht]; exact hp)))
  rw [ht] at hRt
  have htl : t.length = l.length - 1 := by rw [← ht, List.length_drop]
  obtain ⟨e0, e1⟩ := (hR.alloc (.cells #[.int .i64 0, .int .i64 0] 26)).pair hb0
  rw [show a.add (0 * 2) = a from rfl] at e0 e1
  clear eR hb0 ht
  unfold rtv
  have hz : ((l.length : Int) == 0) = false := by rw [beq_eq_false_iff_ne]; omega
  have HL := hideR htl
  clear htl
  go_enter Tryz.func89, Tryz.ntmps89
  go_wp2_with fail
  go_loopw [19] (fun i wr => ∃ (k : Nat) (b : Rt), i = .int .i64 k ∧ k ≤ l.length - 1 ∧ RtIn b ∧ bestF side b (t.drop k) = R ∧ Two wr w.heap.size (.int .i64 0) (.int .i64 0) ∧ Two wr (w.heap.size + 1) (.int .i64 b.N) (.int .i64 b.D) ∧ Below w.heap.size w wr) (fun i _ => l.length - 1 - (intOf i).toNat)
  case atStart =>
    refine ⟨0, b0, rfl, Nat.zero_le _, hi0.out, ER.out, (Two.new w (.int .i64 0) (.int .i64 0) 26).alloc _, ?_, bel2 w _ _⟩
    have := Two.new (w.alloc (.cells #[.int .i64 0, .int .i64 0] 26)) (.int .i64 b0.N) (.int .i64 b0.D) 26
    rwa [show (w.alloc (.cells #[.int .i64 0, .int .i64 0] 26)).heap.size = w.heap.size + 1 by simp] at this
  case round =>
    clear e0 e1
    obtain ⟨k, b, rfl, hk, hbi, hr, T0, T1, hB⟩ := hrel
    have HR := hideR hr
    clear hr
    have z1 : w.heap.size + 1 < wr.heap.size := T1.1
    by_cases hk2 : k < l.length - 1
    · obtain ⟨p, hp⟩ : ∃ p, t[k]? = some p := ⟨_, List.getElem?_eq_getElem (by rw [HL.out]; exact hk2)⟩
      have HS := hideR (bestF_step hp side b)
      have hpi := HT.out p (List.mem_of_getElem? hp)
      have HC := cmp_any p b hpi hbi
      obtain ⟨d0, d1⟩ := (hRt.old hB).pair hp
      rw [addr_flat] at d0 d1
      clear hp
      unfold rtv at HC
      have HQ := hideR (show bestF side b (t.drop k) = bestF side (if cmpI p b = side then p else b) (t.drop (k + 1)) from HS.out)
      generalize cmpI p b = c at HC HQ
      have HC := hideR HC
      clear HS
      have T0a := T0.alloc (.cells #[.int .i64 p.N, .int .i64 p.D] 26)
      have T1a := T1.alloc (.cells #[.int .i64 p.N, .int .i64 p.D] 26)
      have P1a := Two.new wr (.int .i64 p.N) (.int .i64 p.D) 26
      have Ba := bup hB (bel1 wr (.cells #[.int .i64 p.N, .int .i64 p.D] 26))
      obtain ⟨_, s0, s1, _, _⟩ := id T1a
      clear T0 T1 hB
      go_wp2_with fail
      go_at_call 36
      refine Calls.mono (HC.out _) ?_
      rintro e w2 ⟨rfl, b2⟩
      have T0b := T0a.keep b2
      have T1b := T1a.keep b2
      have P1b := P1a.keep b2
      have Bb := bup Ba b2
      clear T0a T1a P1a Ba b2 s0 s1 d0 d1
      obtain ⟨_, s0, s1, s2, s3⟩ := id T1b
      obtain ⟨_, p0, p1, _, _⟩ := id P1b
      by_cases he : c = side
      · have HE := hideR (HQ.out.trans (by rw [if_pos he]))
        have hcs : (c == side) = true := by simpa using he
        have T0c := T0b.other (S := w.heap.size + 1) (x2 := .int .i64 p.N) (y2 := .int .i64 p.D) (by omega)
        have T1c := T1b.set (x2 := .int .i64 p.N) (y2 := .int .i64 p.D)
        have Bc := (Bb.setCell (p := ⟨w.heap.size + 1, 0, none⟩) (by simp) (.int .i64 p.N)).setCell (p := ⟨w.heap.size + 1, 1, none⟩) (by simp) (.int .i64 p.D)
        clear he
        go_wp2_with fail
        refine ⟨⟨k + 1, p, by go_num, by omega, hpi, HE.out.symm.trans HR.out, T0c, T1c, Bc⟩, ?_⟩
        simp [intOf]
        omega
      · have HE := hideR (HQ.out.trans (by rw [if_neg he]))
        have hcs : (c == side) = false := by simpa using he
        clear he
        go_wp2_with fail
        refine ⟨⟨k + 1, b, by go_num, by omega, hbi, HE.out.symm.trans HR.out, T0b, T1b, Bb⟩, ?_⟩
        simp [intOf]
        omega
    · obtain rfl : k = l.length - 1 := by omega
      have HE := hideR (bestF_end t side b)
      obtain ⟨_, s0, s1, _, _⟩ := id T1
      obtain ⟨_, n0, n1, n2, n3⟩ := id T0
      go_wp2_with fail
      exact bodyPost_ret (v := .tuple #[.agg #[.int .i64 b.N, .int .i64 b.D], .bool true]) (by simp [results, Tryz.results89, go_sem, n0, n1]) rfl ⟨by rw [← HR.out, ← HL.out, HE.out], (hB.setCell (by simp) _).setCell (by simp) _⟩
end Go.Proofs.YthhhglfcacoejaaGreatDoor

/- Contracts of package ratio: Div. -/
namespace Go.Proofs.YthhhglfcacoejaaGreatDoor
open Go.RowKit Go.Shelf
attribute [local go_sem] Oper.semAt_some

theorem set_apart {V : World} {A B i j : Nat} {x : Value} (h : A ≠ B) : (V.setCell ⟨A, i, none⟩ x).cell? ⟨B, j, none⟩ = V.cell? ⟨B, j, none⟩ :=
  World.cell?_setCell_other _ _ _ _ (fun e => h (congrArg Addr.block e))
theorem keep4o {A B R : Nat} {V : World} {a0 a1 b0 b1 x y : Value} (nA : R ≠ A) (nB : R ≠ B)
    (h : V.cell? ⟨A, 0, none⟩ = some a0 ∧ V.cell? ⟨A, 1, none⟩ = some a1 ∧ V.cell? ⟨B, 0, none⟩ = some b0 ∧ V.cell? ⟨B, 1, none⟩ = some b1) :
    ((V.setCell ⟨R, 0, none⟩ x).setCell ⟨R, 1, none⟩ y).cell? ⟨A, 0, none⟩ = some a0 ∧ ((V.setCell ⟨R, 0, none⟩ x).setCell ⟨R, 1, none⟩ y).cell? ⟨A, 1, none⟩ = some a1 ∧ ((V.setCell ⟨R, 0, none⟩ x).setCell ⟨R, 1, none⟩ y).cell? ⟨B, 0, none⟩ = some b0 ∧ ((V.setCell ⟨R, 0, none⟩ x).setCell ⟨R, 1, none⟩ y).cell? ⟨B, 1, none⟩ = some b1 := by
  simp only [set_apart nA, set_apart nB]
  exact h

set_option maxRecDepth 100000 in
set_option maxHeartbeats 1000000 in
theorem div_walk (an ad bn bd sa sb t u x y hi lo n m p : Int) (r : Rt × Int) (hb : ¬ bn = 0) (had : 0 < ad) (had2 : ad ≤ 2147483648) (hbd : 0 < bd) (hbd2 : bd ≤ 2147483648)
    (ht : 0 < t) (ht2 : t ≤ 4611686018427387904) (hu : 0 < u) (hu2 : u ≤ 2147483648)
    (hx : ad.tdiv u = x) (hx0 : 0 ≤ x) (hx1 : x ≤ 2147483648) (hy : sb.tdiv t = y) (hy0 : 0 ≤ y) (hy1 : y ≤ 4611686018427387904) (hn : an.tdiv t = n) (hn1 : -4611686018427387904 ≤ n ∧ n ≤ 4611686018427387904) (hm : bd.tdiv u = m) (hm1 : -4611686018427387904 ≤ m ∧ m ≤ 4611686018427387904)
    (HA : ∀ w, Calls Tryz.prog 54 #[.agg #[.int .i64 an, .int .i64 ad]] w fun e w' => e = .returned (.bool true) ∧ Below w.heap.size w w')
    (HB : ∀ w, Calls Tryz.prog 54 #[.agg #[.int .i64 bn, .int .i64 bd]] w fun e w' => e = .returned (.bool true) ∧ Below w.heap.size w w')
    (HS1 : ∀ w, Calls Tryz.prog 84 #[.int .i64 an] w fun e w' => e = .returned (.int .u64 sa) ∧ w' = w)
    (HS2 : ∀ w, Calls Tryz.prog 84 #[.int .i64 bn] w fun e w' => e = .returned (.int .u64 sb) ∧ w' = w)
    (HD1 : ∀ w, Calls Tryz.prog 85 #[.int .u64 sa, .int .u64 sb] w fun e w' => e = .returned (.int .u64 t) ∧ ∃ m, w' = w.drewN m)
    (HD2 : ∀ w, Calls Tryz.prog 85 #[.int .u64 ad, .int .u64 bd] w fun e w' => e = .returned (.int .u64 u) ∧ ∃ m, w' = w.drewN m)
    (HM : ∀ w, Calls Tryz.prog 86 #[.int .u64 x, .int .u64 y] w fun e w' => e = .returned (.tuple #[.int .u64 hi, .int .u64 lo]) ∧ w' = w)
    (HP : ∀ w, Calls Tryz.prog 65 #[.int .i64 n, .int .i64 m] w fun e w' => e = .returned (.agg #[.int .u64 (hiZ p), .int .u64 (loZ p)]) ∧ Below w.heap.size w w')
    (HG : ∀ w, Calls Tryz.prog 87 #[.agg #[.int .u64 (hiZ p), .int .u64 (loZ p)]] w fun e w' => e = .returned (.agg #[.int .u64 (hiZ (-p)), .int .u64 (loZ (-p))]) ∧ Below w.heap.size w w')
    (hres : (¬ hi = 0 ∧ r = (⟨0, 0⟩, 12)) ∨ (hi = 0 ∧ 0 ≤ bn ∧ ∀ w, Calls Tryz.prog 88 #[.agg #[.int .u64 (hiZ p), .int .u64 (loZ p)], .int .u64 lo] w fun e w' => e = .returned (.tuple #[rtv r.1, .int .i64 r.2]) ∧ Below w.heap.size w w') ∨
      (hi = 0 ∧ bn < 0 ∧ ∀ w, Calls Tryz.prog 88 #[.agg #[.int .u64 (hiZ (-p)), .int .u64 (loZ (-p))], .int .u64 lo] w fun e w' => e = .returned (.tuple #[rtv r.1, .int .i64 r.2]) ∧ Below w.heap.size w w')) (w : World) :
    Calls Tryz.prog 56 #[.agg #[.int .i64 an, .int .i64 ad], .agg #[.int .i64 bn, .int .i64 bd]] w fun e w' => e = .returned (.tuple #[.agg #[.int .i64 r.1.N, .int .i64 r.1.D], .int .i64 r.2]) ∧ Below w.heap.size w w' := by
  simp only [rtv] at *
  have HA := hideR HA
  have HB := hideR HB
  have HS1 := hideR HS1
  have HS2 := hideR HS2
  have HD1 := hideR HD1
  have HD2 := hideR HD2
  have HM := hideR HM
  have HP := hideR HP
  have HG := hideR HG
  have hb2 : (bn == 0) = false := by simpa using hb
  have hu3 : ¬ u = 0 := by omega
  have ht3 : ¬ t = 0 := by omega
  generalize hiZ p = ph at *
  generalize loZ p = pl at *
  generalize hiZ (-p) = qh at *
  generalize loZ (-p) = ql at *
  rcases hres with ⟨hhi, rfl⟩ | ⟨rfl, hbs, HL⟩ | ⟨rfl, hbs, HL⟩
  · have hhi2 : (hi == 0) = false := by simpa using hhi
    go_enter Tryz.func56, Tryz.ntmps56
    go_wp2_with fail
    go_at_call 54
    refine (HA.out _).mono ?_
    rintro e w1 ⟨rfl, b1⟩
    have S1 := (Three.new w an ad bn bd 0 0 26).keep b1
    have BB1 := bup (bel3 w _ _ _) b1
    clear b1
    obtain ⟨⟨_, a0, a1, _, _⟩, ⟨_, p0, p1, _, _⟩, ⟨_, c0, c1, f0, f1⟩⟩ := id S1
    go_wp2_with fail
    go_at_call 54
    refine (HB.out _).mono ?_
    rintro e V ⟨rfl, b2⟩
    have SV := S1.keep b2
    have BV := bup BB1 b2
    clear a0 a1 p0 p1 c0 c1 f0 f1 S1 BB1 b2
    obtain ⟨⟨_, a0, a1, _, _⟩, ⟨_, p0, p1, _, _⟩, ⟨_, c0, c1, f0, f1⟩⟩ := id SV
    go_wp2_with fail
    go_quiet (first | (go_at_call_of 84 an; exact Calls.quiet_of_same (HS1.out _)) | (go_at_call_of 84 bn; exact Calls.quiet_of_same (HS2.out _)) | (go_at_call_of 85 sa; exact Calls.quiet_of (HD1.out _)) | (go_at_call_of 85 ad; exact Calls.quiet_of (HD2.out _)))
    go_wp2_with fail
    have W1 : Hid (IntKind.u64.wrap ad = ad) := by rw [Hid, IntKind.wrap_u64]; omega
    have W2 : Hid (IntKind.u64.wrap x = x) := by rw [Hid, IntKind.wrap_u64]; omega
    have W3 : Hid (IntKind.u64.wrap y = y) := by rw [Hid, IntKind.wrap_u64]; omega
    have SU : Three w.heap.size an ad bn bd 0 0 (V.drewN nq) := SV
    have BU : Below w.heap.size w (V.drewN nq) := below_drewN BV nq
    generalize V.drewN nq = U at *
    clear a0 a1 p0 p1 c0 c1 f0 f1 SV BV HS1 HD1 HD2 HA HB
    obtain ⟨⟨zA, a0, a1, _, _⟩, ⟨zB, p0, p1, _, _⟩, ⟨zC, c0, c1, f0, f1⟩⟩ := id SU
    have SC : U.cell? ⟨w.heap.size, 0, none⟩ = some (.int .i64 an) ∧ U.cell? ⟨w.heap.size, 1, none⟩ = some (.int .i64 ad) ∧ U.cell? ⟨w.heap.size + 1, 0, none⟩ = some (.int .i64 bn) ∧ U.cell? ⟨w.heap.size + 1, 1, none⟩ = some (.int .i64 bd) := ⟨a0, a1, p0, p1⟩
    go_region_held3 (fun w' => w'.cell? ⟨w.heap.size, 0, none⟩ = some (.int .i64 an) ∧ w'.cell? ⟨w.heap.size, 1, none⟩ = some (.int .i64 ad) ∧ w'.cell? ⟨w.heap.size + 1, 0, none⟩ = some (.int .i64 bn) ∧ w'.cell? ⟨w.heap.size + 1, 1, none⟩ = some (.int .i64 bd)) (first | assumption | go_keep) (first | (go_at_call_of 84 bn; refine Calls.mono (HS2.out _) ?_; rintro e w3 ⟨rfl, hw⟩; obtain rfl := hw.symm) | (go_at_call 86; (try simp only [W1.out, hx, W2.out, W3.out]); refine Calls.mono (HM.out _) ?_; rintro e w3 ⟨rfl, hw⟩; obtain rfl := hw.symm))
    all_goals (try go_wp2_with fail)
    all_goals exact bodyPost_ret (v := .tuple #[.agg #[.int .i64 0, .int .i64 0], .int .i64 12]) (by simp [results, Tryz.results56, go_sem, c0, c1]) rfl ⟨rfl, (BU.drew.setCell (by simp; omega) _).setCell (by simp; omega) _⟩
  · have HL := hideR HL
    have hbs2 : ¬ bn < 0 := by omega
    go_enter Tryz.func56, Tryz.ntmps56
    go_wp2_with fail
    go_at_call 54
    refine (HA.out _).mono ?_
    rintro e w1 ⟨rfl, b1⟩
    have S1 := (Three.new w an ad bn bd 0 0 26).keep b1
    have BB1 := bup (bel3 w _ _ _) b1
    clear b1
    obtain ⟨⟨_, a0, a1, _, _⟩, ⟨_, p0, p1, _, _⟩, ⟨_, c0, c1, f0, f1⟩⟩ := id S1
    go_wp2_with fail
    go_at_call 54
    refine (HB.out _).mono ?_
    rintro e V ⟨rfl, b2⟩
    have SV := S1.keep b2
    have BV := bup BB1 b2
    clear a0 a1 p0 p1 c0 c1 f0 f1 S1 BB1 b2
    obtain ⟨⟨_, a0, a1, _, _⟩, ⟨_, p0, p1, _, _⟩, ⟨_, c0, c1, f0, f1⟩⟩ := id SV
    go_wp2_with fail
    go_quiet (first | (go_at_call_of 84 an; exact Calls.quiet_of_same (HS1.out _)) | (go_at_call_of 84 bn; exact Calls.quiet_of_same (HS2.out _)) | (go_at_call_of 85 sa; exact Calls.quiet_of (HD1.out _)) | (go_at_call_of 85 ad; exact Calls.quiet_of (HD2.out _)))
    go_wp2_with fail
    have W1 : Hid (IntKind.u64.wrap ad = ad) := by rw [Hid, IntKind.wrap_u64]; omega
    have W2 : Hid (IntKind.u64.wrap x = x) := by rw [Hid, IntKind.wrap_u64]; omega
    have W3 : Hid (IntKind.u64.wrap y = y) := by rw [Hid, IntKind.wrap_u64]; omega
    have SU : Three w.heap.size an ad bn bd 0 0 (V.drewN nq) := SV
    have BU : Below w.heap.size w (V.drewN nq) := below_drewN BV nq
    generalize V.drewN nq = U at *
    clear a0 a1 p0 p1 c0 c1 f0 f1 SV BV HS1 HD1 HD2 HA HB
    obtain ⟨⟨zA, a0, a1, _, _⟩, ⟨zB, p0, p1, _, _⟩, ⟨zC, c0, c1, f0, f1⟩⟩ := id SU
    have SC : U.cell? ⟨w.heap.size, 0, none⟩ = some (.int .i64 an) ∧ U.cell? ⟨w.heap.size, 1, none⟩ = some (.int .i64 ad) ∧ U.cell? ⟨w.heap.size + 1, 0, none⟩ = some (.int .i64 bn) ∧ U.cell? ⟨w.heap.size + 1, 1, none⟩ = some (.int .i64 bd) := ⟨a0, a1, p0, p1⟩
    go_region_held3 (fun w' => w'.cell? ⟨w.heap.size, 0, none⟩ = some (.int .i64 an) ∧ w'.cell? ⟨w.heap.size, 1, none⟩ = some (.int .i64 ad) ∧ w'.cell? ⟨w.heap.size + 1, 0, none⟩ = some (.int .i64 bn) ∧ w'.cell? ⟨w.heap.size + 1, 1, none⟩ = some (.int .i64 bd)) (first | assumption | go_keep) (first | (go_at_call_of 84 bn; refine Calls.mono (HS2.out _) ?_; rintro e w3 ⟨rfl, hw⟩; obtain rfl := hw.symm) | (go_at_call 86; (try simp only [W1.out, hx, W2.out, W3.out]); refine Calls.mono (HM.out _) ?_; rintro e w3 ⟨rfl, hw⟩; obtain rfl := hw.symm))
    all_goals (try go_wp2_with fail)
    all_goals (
      have W4 : IntKind.i64.wrap t = t := by rw [IntKind.wrap_i64]; omega
      have W5 : IntKind.i64.wrap u = u := by rw [IntKind.wrap_i64]; omega
      have W6 : Hid (IntKind.i64.wrap n = n) := by rw [Hid, IntKind.wrap_i64]; omega
      have W7 : Hid (IntKind.i64.wrap m = m) := by rw [Hid, IntKind.wrap_i64]; omega
      go_region_held3 (fun w' => w'.cell? ⟨w.heap.size, 0, none⟩ = some (.int .i64 an) ∧ w'.cell? ⟨w.heap.size, 1, none⟩ = some (.int .i64 ad) ∧ w'.cell? ⟨w.heap.size + 1, 0, none⟩ = some (.int .i64 bn) ∧ w'.cell? ⟨w.heap.size + 1, 1, none⟩ = some (.int .i64 bd)) (first | assumption | exact keep4 (bel1 _ _) zA zB SC | exact keep4 (bel1 _ _) (Nat.lt_of_lt_of_le zA B4.size) (Nat.lt_of_lt_of_le zB B4.size) S4 | exact keep4o (by omega) (by omega) (by assumption) | go_keep) (first | (go_at_call 65; (try simp only [W6.out, W7.out]); refine Calls.mono (HP.out _) ?_; rintro e w4 ⟨rfl, b4⟩; first | (have B4 : Below U.heap.size U w4 := bup (Below.refl _ _).drew.drew b4; have S4 := keep4 B4 zA zB SC; have z4 := B4.size; have SU4 := SU.keep B4) | (have B4 : Below U.heap.size U w4 := bup ((Below.refl _ _).drew.drew.alloc (Nat.le_refl _) _) b4; have S4 := keep4 B4 zA zB SC; have z4 := B4.size; have SU4 := SU.keep B4; have N4 : Two w4 U.heap.size (.int .u64 0) (.int .u64 0) := (Two.new U.drew.drew (.int .u64 0) (.int .u64 0) 129).keep b4; obtain ⟨_, n0, n1, g0, g1⟩ := id N4)))
      all_goals (try go_wp2_with fail))
    · have RX : Two (w4.alloc (.cells #[.int .u64 ph, .int .u64 pl] 129)) (w.heap.size + 1 + 1) (.int .i64 0) (.int .i64 0) := SU4.2.2.alloc _
      have NX : Two (w4.alloc (.cells #[.int .u64 ph, .int .u64 pl] 129)) w4.heap.size (.int .u64 ph) (.int .u64 pl) := Two.new w4 _ _ _
      have BX : Below w.heap.size w (w4.alloc (.cells #[.int .u64 ph, .int .u64 pl] 129)) := bup (bup BU B4) (bel1 _ _)
      have nn : w.heap.size + 1 + 1 < w4.heap.size := by omega
      generalize (w4.alloc (.cells #[.int .u64 ph, .int .u64 pl] 129)) = X at *
      have R6 := RX
      have B6 := BX
      clear a0 a1 p0 p1 c0 c1 f0 f1 S4 SU4
      go_at_call 88
      refine Calls.mono (HL.out _) ?_
      rintro e w7 ⟨rfl, b7⟩
      obtain ⟨_, k0, k1, k2, k3⟩ := R6.keep b7
      have B7 := bup B6 b7
      go_wp2_with fail
      exact bodyPost_ret (v := .tuple #[.agg #[.int .i64 r.1.N, .int .i64 r.1.D], .int .i64 r.2]) (by simp [results, Tryz.results56, go_sem, k0, k1]) rfl ⟨rfl, (B7.setCell (by simp; omega) _).setCell (by simp; omega) _⟩
    · have RX : Two ((w4.setCell ⟨U.heap.size, 0, none⟩ (.int .u64 ph)).setCell ⟨U.heap.size, 1, none⟩ (.int .u64 pl)) (w.heap.size + 1 + 1) (.int .i64 0) (.int .i64 0) := SU4.2.2.other (by omega)
      have NX : Two ((w4.setCell ⟨U.heap.size, 0, none⟩ (.int .u64 ph)).setCell ⟨U.heap.size, 1, none⟩ (.int .u64 pl)) U.heap.size (.int .u64 ph) (.int .u64 pl) := N4.set
      have BX : Below w.heap.size w ((w4.setCell ⟨U.heap.size, 0, none⟩ (.int .u64 ph)).setCell ⟨U.heap.size, 1, none⟩ (.int .u64 pl)) := ((bup BU B4).setCell (by simp; omega) _).setCell (by simp; omega) _
      have nn : w.heap.size + 1 + 1 < U.heap.size := by omega
      generalize ((w4.setCell ⟨U.heap.size, 0, none⟩ (.int .u64 ph)).setCell ⟨U.heap.size, 1, none⟩ (.int .u64 pl)) = X at *
      have R6 := RX
      have B6 := BX
      clear a0 a1 p0 p1 c0 c1 f0 f1 S4 SU4
      go_at_call 88
      refine Calls.mono (HL.out _) ?_
      rintro e w7 ⟨rfl, b7⟩
      obtain ⟨_, k0, k1, k2, k3⟩ := R6.keep b7
      have B7 := bup B6 b7
      go_wp2_with fail
      exact bodyPost_ret (v := .tuple #[.agg #[.int .i64 r.1.N, .int .i64 r.1.D], .int .i64 r.2]) (by simp [results, Tryz.results56, go_sem, k0, k1]) rfl ⟨rfl, (B7.setCell (by simp; omega) _).setCell (by simp; omega) _⟩
  · have HL := hideR HL
    go_enter Tryz.func56, Tryz.ntmps56
    go_wp2_with fail
    go_at_call 54
    refine (HA.out _).mono ?_
    rintro e w1 ⟨rfl, b1⟩
    have S1 := (Three.new w an ad bn bd 0 0 26).keep b1
    have BB1 := bup (bel3 w _ _ _) b1
    clear b1
    obtain ⟨⟨_, a0, a1, _, _⟩, ⟨_, p0, p1, _, _⟩, ⟨_, c0, c1, f0, f1⟩⟩ := id S1
    go_wp2_with fail
    go_at_call 54
    refine (HB.out _).mono ?_
    rintro e V ⟨rfl, b2⟩
    have SV := S1.keep b2
    have BV := bup BB1 b2
    clear a0 a1 p0 p1 c0 c1 f0 f1 S1 BB1 b2
    obtain ⟨⟨_, a0, a1, _, _⟩, ⟨_, p0, p1, _, _⟩, ⟨_, c0, c1, f0, f1⟩⟩ := id SV
    go_wp2_with fail
    go_quiet (first | (go_at_call_of 84 an; exact Calls.quiet_of_same (HS1.out _)) | (go_at_call_of 84 bn; exact Calls.quiet_of_same (HS2.out _)) | (go_at_call_of 85 sa; exact Calls.quiet_of (HD1.out _)) | (go_at_call_of 85 ad; exact Calls.quiet_of (HD2.out _)))
    go_wp2_with fail
    have W1 : Hid (IntKind.u64.wrap ad = ad) := by rw [Hid, IntKind.wrap_u64]; omega
    have W2 : Hid (IntKind.u64.wrap x = x) := by rw [Hid, IntKind.wrap_u64]; omega
    have W3 : Hid (IntKind.u64.wrap y = y) := by rw [Hid, IntKind.wrap_u64]; omega
    have SU : Three w.heap.size an ad bn bd 0 0 (V.drewN nq) := SV
    have BU : Below w.heap.size w (V.drewN nq) := below_drewN BV nq
    generalize V.drewN nq = U at *
    clear a0 a1 p0 p1 c0 c1 f0 f1 SV BV HS1 HD1 HD2 HA HB
    obtain ⟨⟨zA, a0, a1, _, _⟩, ⟨zB, p0, p1, _, _⟩, ⟨zC, c0, c1, f0, f1⟩⟩ := id SU
    have SC : U.cell? ⟨w.heap.size, 0, none⟩ = some (.int .i64 an) ∧ U.cell? ⟨w.heap.size, 1, none⟩ = some (.int .i64 ad) ∧ U.cell? ⟨w.heap.size + 1, 0, none⟩ = some (.int .i64 bn) ∧ U.cell? ⟨w.heap.size + 1, 1, none⟩ = some (.int .i64 bd) := ⟨a0, a1, p0, p1⟩
    go_region_held3 (fun w' => w'.cell? ⟨w.heap.size, 0, none⟩ = some (.int .i64 an) ∧ w'.cell? ⟨w.heap.size, 1, none⟩ = some (.int .i64 ad) ∧ w'.cell? ⟨w.heap.size + 1, 0, none⟩ = some (.int .i64 bn) ∧ w'.cell? ⟨w.heap.size + 1, 1, none⟩ = some (.int .i64 bd)) (first | assumption | go_keep) (first | (go_at_call_of 84 bn; refine Calls.mono (HS2.out _) ?_; rintro e w3 ⟨rfl, hw⟩; obtain rfl := hw.symm) | (go_at_call 86; (try simp only [W1.out, hx, W2.out, W3.out]); refine Calls.mono (HM.out _) ?_; rintro e w3 ⟨rfl, hw⟩; obtain rfl := hw.symm))
    all_goals (try go_wp2_with fail)
    all_goals (
      have W4 : IntKind.i64.wrap t = t := by rw [IntKind.wrap_i64]; omega
      have W5 : IntKind.i64.wrap u = u := by rw [IntKind.wrap_i64]; omega
      have W6 : Hid (IntKind.i64.wrap n = n) := by rw [Hid, IntKind.wrap_i64]; omega
      have W7 : Hid (IntKind.i64.wrap m = m) := by rw [Hid, IntKind.wrap_i64]; omega
      go_region_held3 (fun w' => w'.cell? ⟨w.heap.size, 0, none⟩ = some (.int .i64 an) ∧ w'.cell? ⟨w.heap.size, 1, none⟩ = some (.int .i64 ad) ∧ w'.cell? ⟨w.heap.size + 1, 0, none⟩ = some (.int .i64 bn) ∧ w'.cell? ⟨w.heap.size + 1, 1, none⟩ = some (.int .i64 bd)) (first | assumption | exact keep4 (bel1 _ _) zA zB SC | exact keep4 (bel1 _ _) (Nat.lt_of_lt_of_le zA B4.size) (Nat.lt_of_lt_of_le zB B4.size) S4 | exact keep4o (by omega) (by omega) (by assumption) | go_keep) (first | (go_at_call 65; (try simp only [W6.out, W7.out]); refine Calls.mono (HP.out _) ?_; rintro e w4 ⟨rfl, b4⟩; first | (have B4 : Below U.heap.size U w4 := bup (Below.refl _ _).drew.drew b4; have S4 := keep4 B4 zA zB SC; have z4 := B4.size; have SU4 := SU.keep B4) | (have B4 : Below U.heap.size U w4 := bup ((Below.refl _ _).drew.drew.alloc (Nat.le_refl _) _) b4; have S4 := keep4 B4 zA zB SC; have z4 := B4.size; have SU4 := SU.keep B4; have N4 : Two w4 U.heap.size (.int .u64 0) (.int .u64 0) := (Two.new U.drew.drew (.int .u64 0) (.int .u64 0) 129).keep b4; obtain ⟨_, n0, n1, g0, g1⟩ := id N4)))
      all_goals (try go_wp2_with fail))
    · have RX : Two (w4.alloc (.cells #[.int .u64 ph, .int .u64 pl] 129)) (w.heap.size + 1 + 1) (.int .i64 0) (.int .i64 0) := SU4.2.2.alloc _
      have NX : Two (w4.alloc (.cells #[.int .u64 ph, .int .u64 pl] 129)) w4.heap.size (.int .u64 ph) (.int .u64 pl) := Two.new w4 _ _ _
      have BX : Below w.heap.size w (w4.alloc (.cells #[.int .u64 ph, .int .u64 pl] 129)) := bup (bup BU B4) (bel1 _ _)
      have nn : w.heap.size + 1 + 1 < w4.heap.size := by omega
      generalize (w4.alloc (.cells #[.int .u64 ph, .int .u64 pl] 129)) = X at *
      go_at_call 87
      refine Calls.mono (HG.out _) ?_
      rintro e w5 ⟨rfl, b5⟩
      have N5 := NX.keep b5
      have R5 := RX.keep b5
      have B5 := bup BX b5
      clear a0 a1 p0 p1 c0 c1 f0 f1 S4 SU4
      obtain ⟨_, n0, n1, g0, g1⟩ := id N5
      go_wp2_with fail
      have R6 := R5.other (S := w4.heap.size) (x2 := .int .u64 qh) (y2 := .int .u64 ql) (by omega)
      have B6 : Below w.heap.size w ((w5.setCell ⟨w4.heap.size, 0, none⟩ (.int .u64 qh)).setCell ⟨w4.heap.size, 1, none⟩ (.int .u64 ql)) := (B5.setCell (by simp; omega) _).setCell (by simp; omega) _
      generalize (w5.setCell ⟨w4.heap.size, 0, none⟩ (.int .u64 qh)).setCell ⟨w4.heap.size, 1, none⟩ (.int .u64 ql) = Y at *
      go_at_call 88
      refine Calls.mono (HL.out _) ?_
      rintro e w7 ⟨rfl, b7⟩
      obtain ⟨_, k0, k1, k2, k3⟩ := R6.keep b7
      have B7 := bup B6 b7
      go_wp2_with fail
      exact bodyPost_ret (v := .tuple #[.agg #[.int .i64 r.1.N, .int .i64 r.1.D], .int .i64 r.2]) (by simp [results, Tryz.results56, go_sem, k0, k1]) rfl ⟨rfl, (B7.setCell (by simp; omega) _).setCell (by simp; omega) _⟩
    · have RX : Two ((w4.setCell ⟨U.heap.size, 0, none⟩ (.int .u64 ph)).setCell ⟨U.heap.size, 1, none⟩ (.int .u64 pl)) (w.heap.size + 1 + 1) (.int .i64 0) (.int .i64 0) := SU4.2.2.other (by omega)
      have NX : Two ((w4.setCell ⟨U.heap.size, 0, none⟩ (.int .u64 ph)).setCell ⟨U.heap.size, 1, none⟩ (.int .u64 pl)) U.heap.size (.int .u64 ph) (.int .u64 pl) := N4.set
      have BX : Below w.heap.size w ((w4.setCell ⟨U.heap.size, 0, none⟩ (.int .u64 ph)).setCell ⟨U.heap.size, 1, none⟩ (.int .u64 pl)) := ((bup BU B4).setCell (by simp; omega) _).setCell (by simp; omega) _
      have nn : w.heap.size + 1 + 1 < U.heap.size := by omega
      generalize ((w4.setCell ⟨U.heap.size, 0, none⟩ (.int .u64 ph)).setCell ⟨U.heap.size, 1, none⟩ (.int .u64 pl)) = X at *
      go_at_call 87
      refine Calls.mono (HG.out _) ?_
      rintro e w5 ⟨rfl, b5⟩
      have N5 := NX.keep b5
      have R5 := RX.keep b5
      have B5 := bup BX b5
      clear a0 a1 p0 p1 c0 c1 f0 f1 S4 SU4
      obtain ⟨_, n0, n1, g0, g1⟩ := id N5
      go_wp2_with fail
      have R6 := R5.other (S := U.heap.size) (x2 := .int .u64 qh) (y2 := .int .u64 ql) (by omega)
      have B6 : Below w.heap.size w ((w5.setCell ⟨U.heap.size, 0, none⟩ (.int .u64 qh)).setCell ⟨U.heap.size, 1, none⟩ (.int .u64 ql)) := (B5.setCell (by simp; omega) _).setCell (by simp; omega) _
      generalize (w5.setCell ⟨U.heap.size, 0, none⟩ (.int .u64 qh)).setCell ⟨U.heap.size, 1, none⟩ (.int .u64 ql) = Y at *
      go_at_call 88
      refine Calls.mono (HL.out _) ?_
      rintro e w7 ⟨rfl, b7⟩
      obtain ⟨_, k0, k1, k2, k3⟩ := R6.keep b7
      have B7 := bup B6 b7
      go_wp2_with fail
      exact bodyPost_ret (v := .tuple #[.agg #[.int .i64 r.1.N, .int .i64 r.1.D], .int .i64 r.2]) (by simp [results, Tryz.results56, go_sem, k0, k1]) rfl ⟨rfl, (B7.setCell (by simp; omega) _).setCell (by simp; omega) _⟩
end Go.Proofs.YthhhglfcacoejaaGreatDoor

/- The contract of package ratio's Div. -/
namespace Go.Proofs.YthhhglfcacoejaaGreatDoor
open Go.RowKit Go.Shelf
attribute [local go_sem] Oper.semAt_some

theorem low_wide (P Q : Int) (hQ : 2147483648 < Q) (hc : P.natAbs.gcd Q.natAbs = 1) : low (Rat.divInt P Q) = (⟨0, 0⟩, 12) := by
  rw [low_eq P Q _ (by omega) rfl, gcd_rest P Q (by omega), hc, if_neg]
  simp
  omega

/-- All that Div reckons, of two right ratios, the second not 0. -/
theorem div_math (a b : Rt) (ha : rightB a = true) (hb : rightB b = true) (h0 : ¬ b.N = 0) :
    ∃ t u n m x y : Int, t = ((sz a.N).toNat.gcd (sz b.N).toNat : Nat) ∧ u = (a.D.toNat.gcd b.D.toNat : Nat) ∧ 0 < t ∧ t ≤ 4611686018427387904 ∧ 0 < u ∧ u ≤ 2147483648 ∧
      a.D.tdiv u = x ∧ 0 < x ∧ x ≤ 2147483648 ∧ (sz b.N).tdiv t = y ∧ 0 < y ∧ y ≤ 4611686018427387904 ∧ a.N.tdiv t = n ∧ (-4611686018427387904 ≤ n ∧ n ≤ 4611686018427387904) ∧ b.D.tdiv u = m ∧ (0 < m ∧ m ≤ 2147483648) ∧
      (n * m).natAbs.gcd (x * y).natAbs = 1 ∧ (0 < b.N → valQ a / valQ b = Rat.divInt (n * m) (x * y)) ∧ (b.N < 0 → valQ a / valQ b = Rat.divInt (-(n * m)) (x * y)) := by
  obtain ⟨a1, a2, a3, a4, ag⟩ := (right_iff a).1 ha
  obtain ⟨b1, b2, b3, b4, bg⟩ := (right_iff b).1 hb
  obtain ⟨T, hT⟩ : ∃ T, T = a.N.natAbs.gcd b.N.natAbs := ⟨_, rfl⟩
  obtain ⟨U, hU⟩ : ∃ U, U = a.D.natAbs.gcd b.D.natAbs := ⟨_, rfl⟩
  have hT0 : 0 < T := by rw [hT]; exact Nat.gcd_pos_of_pos_right _ (by omega)
  have hU0 : 0 < U := by rw [hU]; exact Nat.gcd_pos_of_pos_right _ (by omega)
  have dTa : T ∣ a.N.natAbs := by rw [hT]; exact Nat.gcd_dvd_left _ _
  have dTb : T ∣ b.N.natAbs := by rw [hT]; exact Nat.gcd_dvd_right _ _
  have dUa : U ∣ a.D.natAbs := by rw [hU]; exact Nat.gcd_dvd_left _ _
  have dUb : U ∣ b.D.natAbs := by rw [hU]; exact Nat.gcd_dvd_right _ _
  have hTle : T ≤ b.N.natAbs := Nat.le_of_dvd (by omega) dTb
  have hUle : U ≤ a.D.natAbs := Nat.le_of_dvd (by omega) dUa
  -- the parts
  obtain ⟨n, hn⟩ : (T : Int) ∣ a.N := Int.ofNat_dvd_left.2 dTa
  obtain ⟨k, hk⟩ : (T : Int) ∣ b.N := Int.ofNat_dvd_left.2 dTb
  obtain ⟨x, hx⟩ : (U : Int) ∣ a.D := Int.ofNat_dvd_left.2 dUa
  obtain ⟨m, hm⟩ : (U : Int) ∣ b.D := Int.ofNat_dvd_left.2 dUb
  have hTi : (0 : Int) < T := by omega
  have hUi : (0 : Int) < U := by omega
  have en : a.N.tdiv T = n := by rw [hn, Int.mul_tdiv_cancel_left _ (by omega)]
  have ex : a.D.tdiv U = x := by rw [hx, Int.mul_tdiv_cancel_left _ (by omega)]
  have em : b.D.tdiv U = m := by rw [hm, Int.mul_tdiv_cancel_left _ (by omega)]
  have es : sz b.N = T * (k.natAbs : Int) := by unfold sz; rw [hk, Int.natAbs_mul, Int.natAbs_natCast]; simp
  have ey : (sz b.N).tdiv T = (k.natAbs : Int) := by rw [es, Int.mul_tdiv_cancel_left _ (by omega)]
  have hk0 : k ≠ 0 := fun e => h0 (by rw [hk, e, Int.mul_zero])
  have hx0 : 0 < x := Int.pos_of_mul_pos_right (by rw [← hx]; omega) (by omega)
  have hm0 : 0 < m := Int.pos_of_mul_pos_right (by rw [← hm]; omega) (by omega)
  have eN : a.N.natAbs = T * n.natAbs := by rw [hn, Int.natAbs_mul, Int.natAbs_natCast]
  have eK : b.N.natAbs = T * k.natAbs := by rw [hk, Int.natAbs_mul, Int.natAbs_natCast]
  have eX : a.D.natAbs = U * x.natAbs := by rw [hx, Int.natAbs_mul, Int.natAbs_natCast]
  have eM : b.D.natAbs = U * m.natAbs := by rw [hm, Int.natAbs_mul, Int.natAbs_natCast]
  have le : ∀ (A B C : Nat), 0 < A → B = A * C → C ≤ B := fun A B C h e => by rw [e]; exact Nat.le_mul_of_pos_left _ h
  have l1 := le _ _ _ hT0 eN
  have l2 := le _ _ _ hT0 eK
  have l3 := le _ _ _ hU0 eX
  have l4 := le _ _ _ hU0 eM
  -- no divisor in common
  have c1 : n.natAbs.gcd k.natAbs = 1 := by
    have : T * (n.natAbs.gcd k.natAbs) = T * 1 := by rw [← Nat.gcd_mul_left, ← eN, ← eK, ← hT, Nat.mul_one]
    exact Nat.eq_of_mul_eq_mul_left hT0 this
  have c2 : m.natAbs.gcd x.natAbs = 1 := by
    have : U * (m.natAbs.gcd x.natAbs) = U * 1 := by rw [← Nat.gcd_mul_left, ← eM, ← eX, Nat.gcd_comm, ← hU, Nat.mul_one]
    exact Nat.eq_of_mul_eq_mul_left hU0 this
  have c3 : n.natAbs.gcd x.natAbs = 1 := by
    apply Nat.eq_one_of_dvd_one
    rw [← ag]
    exact Nat.dvd_gcd (Nat.dvd_trans (Nat.gcd_dvd_left _ _) ⟨T, by rw [eN, Nat.mul_comm]⟩) (Nat.dvd_trans (Nat.gcd_dvd_right _ _) ⟨U, by rw [eX, Nat.mul_comm]⟩)
  have c4 : m.natAbs.gcd k.natAbs = 1 := by
    apply Nat.eq_one_of_dvd_one
    rw [← bg]
    exact Nat.dvd_gcd (Nat.dvd_trans (Nat.gcd_dvd_right _ _) ⟨T, by rw [eK, Nat.mul_comm]⟩) (Nat.dvd_trans (Nat.gcd_dvd_left _ _) ⟨U, by rw [eM, Nat.mul_comm]⟩)
  have ev : valQ a / valQ b = Rat.divInt (n * m) (x * k) := by
    rw [val_div]
    have e1 : a.N * b.D = (T * U) * (n * m) := by rw [hn, hm]; simp only [Int.mul_assoc, Int.mul_left_comm]
    have e2 : a.D * b.N = (T * U) * (x * k) := by rw [hx, hk]; simp only [Int.mul_assoc, Int.mul_left_comm]
    rw [e1, e2, Rat.divInt_mul_left]
    have := Int.mul_pos hTi hUi
    omega
  refine ⟨T, U, n, m, x, (k.natAbs : Int), ?_, ?_, hTi, by omega, hUi, by omega, ex, hx0, by omega, ey, by omega, by omega, en, by omega, em, ⟨hm0, by omega⟩, ?_, ?_, ?_⟩
  · rw [hT]; unfold sz; simp
  · rw [hU]; congr 1; congr 1 <;> omega
  · rw [Int.natAbs_mul, Int.natAbs_mul, Int.natAbs_natCast]
    exact Nat.Coprime.mul_left (Nat.Coprime.mul_right c3 c1) (Nat.Coprime.mul_right c2 c4)
  · intro hp
    have : 0 < k := Int.pos_of_mul_pos_right (by rw [← hk]; omega) (by omega)
    rw [ev, show ((k.natAbs : Nat) : Int) = k by omega]
  · intro hp
    have : k < 0 := by
      apply Int.neg_of_mul_neg_right (a := T) (by rw [← hk]; exact hp) (by omega)
    rw [ev, show ((k.natAbs : Nat) : Int) = -k by omega, Int.mul_neg, Rat.neg_divInt_neg]

set_option maxRecDepth 100000 in
set_option maxHeartbeats 300000 in
theorem div_not (an ad bn bd : Int) (ok : Bool)
    (HA : ∀ w, Calls Tryz.prog 54 #[.agg #[.int .i64 an, .int .i64 ad]] w fun e w' => e = .returned (.bool ok) ∧ Below w.heap.size w w')
    (HB : ok = true → ∀ w, Calls Tryz.prog 54 #[.agg #[.int .i64 bn, .int .i64 bd]] w fun e w' => e = .returned (.bool false) ∧ Below w.heap.size w w') (w : World) :
    Calls Tryz.prog 56 #[.agg #[.int .i64 an, .int .i64 ad], .agg #[.int .i64 bn, .int .i64 bd]] w fun e w' => e = .returned (.tuple #[.agg #[.int .i64 0, .int .i64 0], .int .i64 12]) ∧ Below w.heap.size w w' := by
  have HA := hideR HA
  cases ok
  all_goals (
    go_enter Tryz.func56, Tryz.ntmps56
    go_wp2_with fail
    go_at_call 54
    refine (HA.out _).mono ?_
    rintro e w1 ⟨rfl, b1⟩
    obtain ⟨hc, hf⟩ := bcell b1
    have z1 := b1.size
    simp at z1)
  · go_wp2_with fail
    exact bodyPost_ret (v := .tuple #[.agg #[.int .i64 0, .int .i64 0], .int .i64 12]) (by simp [results, Tryz.results56, go_sem, hc]) rfl ⟨rfl, ((bup (bel3 w _ _ _) b1).setCell (by simp; omega) _).setCell (by simp; omega) _⟩
  · have HB := hideR (HB (by trivial))
    go_wp2_with fail
    go_at_call 54
    refine (HB.out _).mono ?_
    rintro e w2 ⟨rfl, b2⟩
    have B2 := bup b1 b2
    clear hc hf b1 b2 z1
    obtain ⟨hc, hf⟩ := bcell B2
    have z1 := B2.size
    simp at z1
    go_wp2_with fail
    exact bodyPost_ret (v := .tuple #[.agg #[.int .i64 0, .int .i64 0], .int .i64 12]) (by simp [results, Tryz.results56, go_sem, hc]) rfl ⟨rfl, ((bup (bel3 w _ _ _) B2).setCell (by simp; omega) _).setCell (by simp; omega) _⟩


set_option maxRecDepth 100000 in
set_option maxHeartbeats 400000 in
theorem div_zeroR (an ad bd : Int)
    (HA : ∀ w, Calls Tryz.prog 54 #[.agg #[.int .i64 an, .int .i64 ad]] w fun e w' => e = .returned (.bool true) ∧ Below w.heap.size w w')
    (HB : ∀ w, Calls Tryz.prog 54 #[.agg #[.int .i64 0, .int .i64 bd]] w fun e w' => e = .returned (.bool true) ∧ Below w.heap.size w w') (w : World) :
    Calls Tryz.prog 56 #[.agg #[.int .i64 an, .int .i64 ad], .agg #[.int .i64 0, .int .i64 bd]] w fun e w' => e = .returned (.tuple #[.agg #[.int .i64 0, .int .i64 0], .int .i64 11]) ∧ Below w.heap.size w w' := by
  have HA := hideR HA
  have HB := hideR HB
  go_enter Tryz.func56, Tryz.ntmps56
  go_wp2_with fail
  go_at_call 54
  refine Calls.mono (HA.out _) ?_
  rintro e w1 ⟨rfl, b1⟩
  have S1 := (Three.new w an ad 0 bd 0 0 26).keep b1
  have BB1 := bup (bel3 w _ _ _) b1
  clear b1
  obtain ⟨⟨_, a0, a1, _, _⟩, ⟨_, p0, p1, _, _⟩, ⟨_, c0, c1, f0, f1⟩⟩ := id S1
  go_wp2_with fail
  go_at_call 54
  refine Calls.mono (HB.out _) ?_
  rintro e V ⟨rfl, b2⟩
  have SV := S1.keep b2
  have BV := bup BB1 b2
  clear a0 a1 p0 p1 c0 c1 f0 f1 S1 BB1 b2
  obtain ⟨⟨_, a0, a1, _, _⟩, ⟨_, p0, p1, _, _⟩, ⟨_, c0, c1, f0, f1⟩⟩ := id SV
  go_wp2_with fail
  exact bodyPost_ret (v := .tuple #[.agg #[.int .i64 0, .int .i64 0], .int .i64 11]) (by simp [results, Tryz.results56, go_sem, c0, c1]) rfl ⟨rfl, (BV.setCell (by simp; omega) _).setCell (by simp; omega) _⟩

theorem quo_any (a b : Rt) (ha : RtIn a) (hb : RtIn b) (w : World) :
    Calls Tryz.prog 56 #[rtv a, rtv b] w fun e w' => e = .returned (.tuple #[rtv (divA a b).1, .int .i64 (divA a b).2]) ∧ Below w.heap.size w w' := by
  have HA := right_any a ha
  have HB := right_any b hb
  cases h1 : rightB a
  · rw [show divA a b = (⟨0, 0⟩, 12) by unfold divA; rw [if_neg (by simp [h1])]; rfl]
    rw [h1] at HA
    exact div_not a.N a.D b.N b.D false HA (fun h => by cases h) w
  · rw [h1] at HA
    cases h2 : rightB b
    · rw [show divA a b = (⟨0, 0⟩, 12) by unfold divA; rw [if_neg (by simp [h2])]; rfl]
      rw [h2] at HB
      exact div_not a.N a.D b.N b.D true HA (fun _ => HB) w
    · rw [h2] at HB
      by_cases h0 : b.N = 0
      · rw [show divA a b = (⟨0, 0⟩, 11) by unfold divA; rw [if_pos (by simp [h1, h2]), if_pos h0]; rfl]
        simp only [rtv] at *
        rw [h0] at HB ⊢
        exact div_zeroR a.N a.D b.D HA HB w
      · obtain ⟨t, u, n, m, x, y, et, eu, t0, t1, u0, u1, ex, x0, x1, ey, y0, y1, en, n1, em, m1, hc, vp, vn⟩ := div_math a b h1 h2 h0
        have ra := (right_iff a).1 h1
        have rb := (right_iff b).1 h2
        have sa := sz_range a.N ha.1
        have sb := sz_range b.N hb.1
        have hxy0 : 0 < x * y := Int.mul_pos x0 y0
        have hxy1 : x * y ≤ 9903520314283042199192993792 := by
          have := (mul_bounds (x := x) (y := y) (X := 2147483648) (Y := 4611686018427387904) ⟨by omega, by omega⟩ ⟨by omega, by omega⟩).2
          omega
        have hnm := mul_bounds (x := n) (y := m) (X := 4611686018427387904) (Y := 2147483648) n1 ⟨by omega, by omega⟩
        have D1 := divisor_iq (sz a.N) (sz b.N) ⟨sa.1, by omega⟩ ⟨sb.1, by omega⟩
        rw [← et] at D1
        have D2 := divisor_iq a.D b.D ⟨by omega, by omega⟩ ⟨by omega, by omega⟩
        rw [← eu] at D2
        rw [divA_right h1 h2 h0]
        refine div_walk a.N a.D b.N b.D (sz a.N) (sz b.N) t u x y (hiZ (x * y)) (loZ (x * y)) n m (n * m) _ h0 (by omega) ra.2.1 (by omega) rb.2.1 t0 t1 u0 u1 ex (by omega) x1 ey (by omega) y1 en n1 em ⟨by omega, by omega⟩ HA HB (size_i a.N ha.1) (size_i b.N hb.1) D1 D2 (mul_i x y ⟨by omega, by omega⟩ ⟨by omega, by omega⟩) (product_any n m ⟨by omega, by omega⟩ ⟨by omega, by omega⟩) (negative_any (n * m)) ?_ w
        have hh : hiZ (x * y) = x * y / 18446744073709551616 := by unfold hiZ; omega
        by_cases hbig : 18446744073709551616 ≤ x * y
        · refine .inl ⟨by omega, ?_⟩
          rcases (show b.N < 0 ∨ 0 < b.N by omega) with hs | hs
          · rw [vn hs]; exact low_wide _ _ (by omega) (by rw [Int.natAbs_neg]; exact hc)
          · rw [vp hs]; exact low_wide _ _ (by omega) hc
        · have hl : loZ (x * y) = x * y := by unfold loZ; omega
          rw [hl]
          rcases (show b.N < 0 ∨ 0 < b.N by omega) with hs | hs
          · refine .inr (.inr ⟨by omega, hs, ?_⟩)
            rw [vn hs]
            exact lowest_any _ _ (by unfold In128; omega) hxy0 (by omega)
          · refine .inr (.inl ⟨by omega, by omega, ?_⟩)
            rw [vp hs]
            exact lowest_any _ _ (by unfold In128; omega) hxy0 (by omega)
end Go.Proofs.YthhhglfcacoejaaGreatDoor

/- Contracts of cue.Check at a cue from 0 to 1 of a text without spans, of speed.checkText, right, wants, Wants. -/
namespace Go.Proofs.YthhhglfcacoejaaGreatDoor
open Go.RowKit Go.Shelf

set_option maxRecDepth 100000 in
set_option maxHeartbeats 400000 in
theorem checkName_none (w : World) : Calls Tryz.prog 82 #[.string ByteArray.empty] w fun e w' => e = .returned (.int .i64 0) ∧ Below w.heap.size w w' := by
  go_enter Tryz.func82, Tryz.ntmps82
  go_wp2_with (go_at_call 104; refine (name_none _).mono ?_; rintro e w1 ⟨rfl, b1⟩)
  go_ret
  exact ⟨rfl, b1⟩

theorem Below.drew_of {A B : World} (h : Below A.drew.heap.size A.drew B) : Below A.heap.size A B := (Below.refl A.heap.size A).drew.trans h

/-- A cue from 0 to 1 of a text without spans, in a block of its own. -/
def CueAt (w : World) (B : Nat) (s : ByteArray) : Prop := w.heap[B]? = some (.cells #[.int .i64 0, .int .i64 1, .int .i64 1, .int .i64 1, .int .i64 0, .int .i64 0, .string ByteArray.empty, .string s, .slice none 0 0] 59)
theorem CueAt.cells {w : World} {B : Nat} {s : ByteArray} (h : CueAt w B s) :
    (w.cell? ⟨B, 0, none⟩ = some (.int .i64 0) ∧ w.cell? ⟨B, 1, none⟩ = some (.int .i64 1) ∧ w.cell? ⟨B, 2, none⟩ = some (.int .i64 1) ∧ w.cell? ⟨B, 3, none⟩ = some (.int .i64 1)) ∧
    (w.cell? ⟨B, 4, none⟩ = some (.int .i64 0) ∧ w.cell? ⟨B, 5, none⟩ = some (.int .i64 0)) ∧ (w.cell? ⟨B, 6, none⟩ = some (.string ByteArray.empty) ∧ w.cell? ⟨B, 7, none⟩ = some (.string s) ∧ w.cell? ⟨B, 8, none⟩ = some (.slice none 0 0)) := by
  simp [World.cell?, show w.heap[B]? = _ from h]
theorem CueAt.keep {w w' : World} {B : Nat} {s : ByteArray} (h : CueAt w B s) (b : Below w.heap.size w w') : CueAt w' B s := (b.block B (Array.getElem?_eq_some_iff.1 h).1).trans h
theorem CueAt.lt {w : World} {B : Nat} {s : ByteArray} (h : CueAt w B s) : B < w.heap.size := (Array.getElem?_eq_some_iff.1 h).1
theorem time_0 (w : World) : Calls Tryz.prog 55 #[.agg #[.int .i64 0, .int .i64 1]] w fun e w' => e = .returned (.int .i64 0) ∧ Below w.heap.size w w' :=
  (time_any ⟨0, 1⟩ ⟨⟨by simp, by simp⟩, ⟨by simp, by simp⟩⟩ w)
theorem time_1 (w : World) : Calls Tryz.prog 55 #[.agg #[.int .i64 1, .int .i64 1]] w fun e w' => e = .returned (.int .i64 0) ∧ Below w.heap.size w w' :=
  (time_any ⟨1, 1⟩ ⟨⟨by simp, by simp⟩, ⟨by simp, by simp⟩⟩ w)
theorem cmp_01 (w : World) : Calls Tryz.prog 36 #[.agg #[.int .i64 0, .int .i64 1], .agg #[.int .i64 1, .int .i64 1]] w fun e w' => e = .returned (.int .i64 (-1)) ∧ Below w.heap.size w w' :=
  (cmp_any ⟨0, 1⟩ ⟨1, 1⟩ ⟨⟨by simp, by simp⟩, ⟨by simp, by simp⟩⟩ ⟨⟨by simp, by simp⟩, ⟨by simp, by simp⟩⟩ w)
theorem or_zero (B : Nat) (w : World) (h0 : w.cell? ⟨B, 0, none⟩ = some (.int .i64 0)) (h1 : w.cell? ⟨B, 1, none⟩ = some (.int .i64 0)) :
    Calls Tryz.prog 57 #[.slice (some ⟨B, 0, none⟩) 2 2] w fun e w' => e = .returned (.int .i64 0) ∧ Below w.heap.size w w' := or_two 0 0 B w h0 h1

set_option maxRecDepth 100000 in
set_option maxHeartbeats 400000 in
theorem cuecheck_plain (s : ByteArray) (hs : s.size ≤ 4096) (w : World) :
    Calls Tryz.prog 53 #[.agg #[.int .i64 0, .int .i64 1, .int .i64 1, .int .i64 1, .int .i64 0, .int .i64 0, .string ByteArray.empty, .string s, .slice none 0 0]] w fun e w' => e = .returned (.int .i64 0) ∧ Below w.heap.size w w' := by
  go_enter Tryz.func53, Tryz.ntmps53
  go_wp2_with fail
  have Q0 : CueAt (w.alloc (.cells #[.int .i64 0, .int .i64 1, .int .i64 1, .int .i64 1, .int .i64 0, .int .i64 0, .string ByteArray.empty, .string s, .slice none 0 0] 59)) w.heap.size s := World.alloc_heap_new w _
  have B0 : Below w.heap.size w (w.alloc (.cells #[.int .i64 0, .int .i64 1, .int .i64 1, .int .i64 1, .int .i64 0, .int .i64 0, .string ByteArray.empty, .string s, .slice none 0 0] 59)) := (Below.refl _ w).alloc (Nat.le_refl _) _
  generalize w.alloc (.cells #[.int .i64 0, .int .i64 1, .int .i64 1, .int .i64 1, .int .i64 0, .int .i64 0, .string ByteArray.empty, .string s, .slice none 0 0] 59) = V at *
  have B0 := hideC B0
  have ⟨⟨c0, c1, c2, c3⟩, ⟨c4, c5⟩, ⟨c6, c7, c8⟩⟩ := Q0.cells
  have Q0 := hideC Q0
  go_region_held3 (fun w' => w'.cell? ⟨w.heap.size, 0, none⟩ = some (.int .i64 0) ∧ w'.cell? ⟨w.heap.size, 1, none⟩ = some (.int .i64 1) ∧ w'.cell? ⟨w.heap.size, 2, none⟩ = some (.int .i64 1) ∧ w'.cell? ⟨w.heap.size, 3, none⟩ = some (.int .i64 1)) (first | go_keep | assumption) (first
    | (go_at_call 55; (with_reducible refine (time_0 _).mono ?_); rintro e w1 ⟨rfl, b1⟩; have Q1 := hideC (Q0.out.keep (Below.drew_of b1)); have ⟨⟨d0, d1, d2, d3⟩, _⟩ := Q1.out.cells)
    | (go_at_call 55; (with_reducible refine (time_1 _).mono ?_); rintro e w2 ⟨rfl, b2⟩; have Q2 := hideC (Q1.out.keep b2); have ⟨⟨e0, e1, e2, e3⟩, _⟩ := Q2.out.cells)
    | (go_at_call 57; (with_reducible refine (or_zero _ _ (cell_two_newA _ _ _ _) (cell_two_newB _ _ _ _)).mono ?_); rintro e w3 ⟨rfl, b3⟩; have Q3 := hideC ((Q2.out.keep (bel1 _ _)).keep b3); have ⟨⟨f0, f1, f2, f3⟩, _⟩ := Q3.out.cells))
  have B3 := hideC (((B0.out.trans ((Below.drew_of b1).mono (by have := B0.out.size; omega))).trans (b2.mono (Nat.le_trans B0.out.size (Below.drew_of b1).size))).trans ((bel1 _ _).trans (b3.mono (by simp))|>.mono (Nat.le_trans (Nat.le_trans B0.out.size (Below.drew_of b1).size) b2.size)))
  clear b1 b2 b3 Q0 Q1 Q2 B0 c0 c1 c2 c3 c4 c5 c6 c7 c8 d0 d1 d2 d3 e0 e1 e2 e3 f0 f1 f2 f3
  obtain ⟨⟨c0, c1, c2, c3⟩, ⟨c4, c5⟩, ⟨c6, c7, c8⟩⟩ := Q3.out.cells
  go_wp2_with fail
  refine (cmp_01 _).mono ?_
  rintro e w4 ⟨rfl, b4⟩
  have Q4 := hideC (Q3.out.keep b4)
  have B4 := hideC (B3.out.trans (b4.mono B3.out.size))
  clear b4 Q3 B3 c0 c1 c2 c3 c4 c5 c6 c7 c8
  obtain ⟨⟨c0, c1, c2, c3⟩, ⟨c4, c5⟩, ⟨c6, c7, c8⟩⟩ := Q4.out.cells
  go_wp2_with fail
  go_region_held3 (fun w' => w'.cell? ⟨w.heap.size, 6, none⟩ = some (.string ByteArray.empty) ∧ w'.cell? ⟨w.heap.size, 7, none⟩ = some (.string s) ∧ w'.cell? ⟨w.heap.size, 8, none⟩ = some (.slice none 0 0)) (first | go_keep | assumption) (first
    | (go_at_call 82; (with_reducible refine (checkName_none _).mono ?_); rintro e w5 ⟨rfl, b5⟩; have Q5 := hideC (Q4.out.keep (Below.drew_of b5)); have ⟨_, _, ⟨d6, d7, d8⟩⟩ := Q5.out.cells)
    | (go_at_call 83; (with_reducible refine (stcheck_plain s hs _).mono ?_); rintro e w6 ⟨rfl, b6⟩; have Q6 := hideC (Q5.out.keep b6); have ⟨_, _, ⟨e6, e7, e8⟩⟩ := Q6.out.cells)
    | (go_at_call 57; (with_reducible refine (or_zero _ _ (cell_two_newA _ _ _ _) (cell_two_newB _ _ _ _)).mono ?_); rintro e w7 ⟨rfl, b7⟩; have Q7 := hideC ((Q6.out.keep (bel1 _ _)).keep b7); have ⟨_, _, ⟨f6, f7, f8⟩⟩ := Q7.out.cells))
  have B7 := hideC (((B4.out.trans ((Below.drew_of b5).mono B4.out.size)).trans (b6.mono (Nat.le_trans B4.out.size (Below.drew_of b5).size))).trans ((bel1 _ _).trans (b7.mono (by simp))|>.mono (Nat.le_trans (Nat.le_trans B4.out.size (Below.drew_of b5).size) b6.size)))
  clear b5 b6 b7 Q4 Q5 Q6 B4 c0 c1 c2 c3 c4 c5 c6 c7 c8 d6 d7 d8 e6 e7 e8 f6 f7 f8
  go_wp2
  go_ret
  exact ⟨rfl, B7.out⟩

set_option maxRecDepth 100000 in
set_option maxHeartbeats 400000 in
theorem checkText_plain (s : ByteArray) (hs : s.size ≤ 4096) (w : World) :
    Calls Tryz.prog 28 #[.agg #[.string s, .slice none 0 0]] w fun e w' => e = .returned (.int .i64 0) ∧ Below w.heap.size w w' := by
  go_enter Tryz.func28, Tryz.ntmps28
  go_wp2_with (go_at_call 53; refine (cuecheck_plain s hs _).mono ?_; rintro e w1 ⟨rfl, b1⟩)
  go_ret
  exact ⟨rfl, (bel1 _ _).trans (b1.mono (by simp))⟩

end Go.Proofs.YthhhglfcacoejaaGreatDoor

/- cue.Check at every cue, what its parts' checks tell given. -/
namespace Go.Proofs.YthhhglfcacoejaaGreatDoor
open Go.RowKit Go.Shelf

/-- A cue in a block of its own. -/
def CueC (w : World) (B : Nat) (a b c d la sd : Int) (nm s : ByteArray) (v : Value) : Prop := w.heap[B]? = some (.cells #[.int .i64 a, .int .i64 b, .int .i64 c, .int .i64 d, .int .i64 la, .int .i64 sd, .string nm, .string s, v] 59)
theorem CueC.cells {w : World} {B : Nat} {a b c d la sd : Int} {nm s : ByteArray} {v : Value} (h : CueC w B a b c d la sd nm s v) :
    (w.cell? ⟨B, 0, none⟩ = some (.int .i64 a) ∧ w.cell? ⟨B, 1, none⟩ = some (.int .i64 b) ∧ w.cell? ⟨B, 2, none⟩ = some (.int .i64 c) ∧ w.cell? ⟨B, 3, none⟩ = some (.int .i64 d)) ∧
    (w.cell? ⟨B, 4, none⟩ = some (.int .i64 la) ∧ w.cell? ⟨B, 5, none⟩ = some (.int .i64 sd)) ∧ (w.cell? ⟨B, 6, none⟩ = some (.string nm) ∧ w.cell? ⟨B, 7, none⟩ = some (.string s) ∧ w.cell? ⟨B, 8, none⟩ = some v) := by
  simp [World.cell?, show w.heap[B]? = _ from h]
theorem CueC.keep {w w' : World} {B : Nat} {a b c d la sd : Int} {nm s : ByteArray} {v : Value} (h : CueC w B a b c d la sd nm s v) (bb : Below w.heap.size w w') : CueC w' B a b c d la sd nm s v := (bb.block B (Array.getElem?_eq_some_iff.1 h).1).trans h

/-- What cue.Check tells. -/
def chkC (e12 cc la sd e34 : Int) : Int := if ¬ e12 = 0 then e12 else if 0 ≤ cc then 32 else if la < 0 ∨ 8 ≤ la ∨ (¬ sd = 0 ∧ ¬ sd = 1) then 34 else e34

set_option maxRecDepth 100000 in
set_option maxHeartbeats 1000000 in
theorem cuecheck_walk (a b c d la sd : Int) (nm s : ByteArray) (v : Value) (e1 e2 e12 cc en et e34 : Int) (h12 : (if e1 = 0 then e2 else e1) = e12) (h34 : (if en = 0 then et else en) = e34) (w : World)
    (H1 : ∀ W, Calls Tryz.prog 55 #[.agg #[.int .i64 a, .int .i64 b]] W fun e w' => e = .returned (.int .i64 e1) ∧ Below W.heap.size W w')
    (H2 : ∀ W, Calls Tryz.prog 55 #[.agg #[.int .i64 c, .int .i64 d]] W fun e w' => e = .returned (.int .i64 e2) ∧ Below W.heap.size W w')
    (H3 : ∀ W, Calls Tryz.prog 36 #[.agg #[.int .i64 a, .int .i64 b], .agg #[.int .i64 c, .int .i64 d]] W fun e w' => e = .returned (.int .i64 cc) ∧ Below W.heap.size W w')
    (H4 : ∀ W, Calls Tryz.prog 82 #[.string nm] W fun e w' => e = .returned (.int .i64 en) ∧ Below W.heap.size W w')
    (H5 : ∀ W, Below w.heap.size w W → Calls Tryz.prog 83 #[.agg #[.string s, v]] W fun e w' => e = .returned (.int .i64 et) ∧ Below W.heap.size W w') :
    Calls Tryz.prog 53 #[.agg #[.int .i64 a, .int .i64 b, .int .i64 c, .int .i64 d, .int .i64 la, .int .i64 sd, .string nm, .string s, v]] w fun e w' => e = .returned (.int .i64 (chkC e12 cc la sd e34)) ∧ Below w.heap.size w w' := by
  obtain ⟨R, hR⟩ : ∃ R, chkC e12 cc la sd e34 = R := ⟨_, rfl⟩
  rw [hR]
  have HR := hideC hR
  have HO : ∀ B W, World.cell? W ⟨B, 0, none⟩ = some (.int .i64 e1) → World.cell? W ⟨B, 1, none⟩ = some (.int .i64 e2) → Calls Tryz.prog 57 #[.slice (some ⟨B, 0, none⟩) 2 2] W fun e w' => e = .returned (.int .i64 e12) ∧ Below W.heap.size W w' := fun B W g0 g1 => by
    have := or_two e1 e2 B W g0 g1
    rw [h12] at this
    exact this
  have HP : ∀ B W, World.cell? W ⟨B, 0, none⟩ = some (.int .i64 en) → World.cell? W ⟨B, 1, none⟩ = some (.int .i64 et) → Calls Tryz.prog 57 #[.slice (some ⟨B, 0, none⟩) 2 2] W fun e w' => e = .returned (.int .i64 e34) ∧ Below W.heap.size W w' := fun B W g0 g1 => by
    have := or_two en et B W g0 g1
    rw [h34] at this
    exact this
  clear hR h12 h34
  replace HO := hideC HO
  replace HP := hideC HP
  replace H1 := hideC H1
  replace H2 := hideC H2
  replace H3 := hideC H3
  replace H4 := hideC H4
  replace H5 := hideC H5
  go_enter Tryz.func53, Tryz.ntmps53
  go_wp2_with fail
  have Q0 : CueC (w.alloc (.cells #[.int .i64 a, .int .i64 b, .int .i64 c, .int .i64 d, .int .i64 la, .int .i64 sd, .string nm, .string s, v] 59)) w.heap.size a b c d la sd nm s v := World.alloc_heap_new w _
  have B0 : Below w.heap.size w (w.alloc (.cells #[.int .i64 a, .int .i64 b, .int .i64 c, .int .i64 d, .int .i64 la, .int .i64 sd, .string nm, .string s, v] 59)) := (Below.refl _ w).alloc (Nat.le_refl _) _
  generalize w.alloc (.cells #[.int .i64 a, .int .i64 b, .int .i64 c, .int .i64 d, .int .i64 la, .int .i64 sd, .string nm, .string s, v] 59) = V at *
  have B0 := hideC B0
  have ⟨⟨c0, c1, c2, c3⟩, ⟨c4, c5⟩, ⟨c6, c7, c8⟩⟩ := Q0.cells
  have Q0 := hideC Q0
  go_region_held3 (fun w' => w'.cell? ⟨w.heap.size, 0, none⟩ = some (.int .i64 a) ∧ w'.cell? ⟨w.heap.size, 1, none⟩ = some (.int .i64 b) ∧ w'.cell? ⟨w.heap.size, 2, none⟩ = some (.int .i64 c) ∧ w'.cell? ⟨w.heap.size, 3, none⟩ = some (.int .i64 d)) (first | go_keep | assumption) (first
    | (go_at_call 55; (with_reducible refine (H1.out V.drew).mono ?_); rintro e w1 ⟨rfl, b1⟩; have Q1 := hideC (Q0.out.keep (Below.drew_of b1)); have ⟨⟨d0, d1, d2, d3⟩, _⟩ := Q1.out.cells)
    | (go_at_call 55; (with_reducible refine (H2.out _).mono ?_); rintro e w2 ⟨rfl, b2⟩; have Q2 := hideC (Q1.out.keep b2); have ⟨⟨e0, e1', e2', e3⟩, _⟩ := Q2.out.cells)
    | (go_at_call 57; (with_reducible refine (HO.out _ _ (cell_two_newA _ _ _ _) (cell_two_newB _ _ _ _)).mono ?_); rintro e w3 ⟨rfl, b3⟩; have Q3 := hideC ((Q2.out.keep (bel1 _ _)).keep b3); have ⟨⟨f0, f1, f2, f3⟩, _⟩ := Q3.out.cells))
  have B3 := hideC (((B0.out.trans ((Below.drew_of b1).mono (by have := B0.out.size; omega))).trans (b2.mono (Nat.le_trans B0.out.size (Below.drew_of b1).size))).trans ((bel1 _ _).trans (b3.mono (by simp))|>.mono (Nat.le_trans (Nat.le_trans B0.out.size (Below.drew_of b1).size) b2.size)))
  clear b1 b2 b3 Q0 Q1 Q2 B0 c0 c1 c2 c3 c4 c5 c6 c7 c8 d0 d1 d2 d3 e0 e1' e2' e3 f0 f1 f2 f3 H1 H2 HO
  by_cases g1 : e12 = 0
  · subst g1
    obtain ⟨⟨c0, c1, c2, c3⟩, ⟨c4, c5⟩, ⟨c6, c7, c8⟩⟩ := Q3.out.cells
    go_wp2_with fail
    refine (H3.out _).mono ?_
    rintro e w4 ⟨rfl, b4⟩
    have Q4 := hideC (Q3.out.keep b4)
    have B4 := hideC (B3.out.trans (b4.mono B3.out.size))
    clear b4 Q3 B3 c0 c1 c2 c3 c4 c5 c6 c7 c8 H3
    obtain ⟨⟨c0, c1, c2, c3⟩, ⟨c4, c5⟩, ⟨c6, c7, c8⟩⟩ := Q4.out.cells
    by_cases g2 : 0 ≤ cc
    · have hr : R = 32 := by have := HR.out; unfold chkC at this; rw [if_neg (by simp), if_pos g2] at this; exact this.symm
      go_wp2_with fail
      go_ret
      exact ⟨(by rw [hr]; first | done | rfl), B4.out⟩
    have hr := HR.out
    unfold chkC at hr
    rw [if_neg (by simp), if_neg g2] at hr
    by_cases g3 : la < 0
    · rw [if_pos (.inl g3)] at hr
      have HQ := hideC hr.symm
      clear hr HR
      go_wp2_with fail
      go_ret
      exact ⟨(by rw [HQ.out]; first | done | rfl), B4.out⟩
    by_cases g4 : 8 ≤ la
    · rw [if_pos (.inr (.inl g4))] at hr
      have HQ := hideC hr.symm
      clear hr HR
      go_wp2_with fail
      go_ret
      exact ⟨(by rw [HQ.out]; first | done | rfl), B4.out⟩
    by_cases g5 : ¬ sd = 0 ∧ ¬ sd = 1
    · rw [if_pos (.inr (.inr g5))] at hr
      have HQ := hideC hr.symm
      have g6 : (sd != 0) = true := by simpa using g5.1
      have g7 : (sd != 1) = true := by simpa using g5.2
      obtain ⟨g8, g9⟩ := g5
      clear hr HR
      go_wp2_with fail
      go_ret
      exact ⟨(by rw [HQ.out]; first | done | rfl), B4.out⟩
    rw [if_neg (by rintro (h | h | h) <;> contradiction)] at hr
    have HQ := hideC hr.symm
    clear hr HR
    rcases (show sd = 0 ∨ sd = 1 by by_cases h : sd = 0 <;> by_cases k : sd = 1 <;> simp_all) with rfl | rfl
    all_goals
      clear g5
      go_wp2_with fail
      go_region_held3 (fun w' => w'.cell? ⟨w.heap.size, 6, none⟩ = some (.string nm) ∧ w'.cell? ⟨w.heap.size, 7, none⟩ = some (.string s) ∧ w'.cell? ⟨w.heap.size, 8, none⟩ = some v) (first | go_keep | assumption) (first
        | (go_at_call 82; (with_reducible refine (H4.out _).mono ?_); rintro e w5 ⟨rfl, b5⟩; have Q5 := hideC (Q4.out.keep (Below.drew_of b5)); have ⟨_, _, ⟨d6, d7, d8⟩⟩ := Q5.out.cells; have B5 := hideC (B4.out.trans ((Below.drew_of b5).mono B4.out.size)))
        | (go_at_call 83; (with_reducible refine (H5.out _ B5.out).mono ?_); rintro e w6 ⟨rfl, b6⟩; have Q6 := hideC (Q5.out.keep b6); have ⟨_, _, ⟨e6, e7, e8⟩⟩ := Q6.out.cells)
        | (go_at_call 57; (with_reducible refine (HP.out _ _ (cell_two_newA _ _ _ _) (cell_two_newB _ _ _ _)).mono ?_); rintro e w7 ⟨rfl, b7⟩; have Q7 := hideC ((Q6.out.keep (bel1 _ _)).keep b7); have ⟨_, _, ⟨f6, f7, f8⟩⟩ := Q7.out.cells))
      have B7 := hideC (((B4.out.trans ((Below.drew_of b5).mono B4.out.size)).trans (b6.mono (Nat.le_trans B4.out.size (Below.drew_of b5).size))).trans ((bel1 _ _).trans (b7.mono (by simp))|>.mono (Nat.le_trans (Nat.le_trans B4.out.size (Below.drew_of b5).size) b6.size)))
      clear b5 b6 b7 Q4 Q5 Q6 B4 c0 c1 c2 c3 c4 c5 c6 c7 c8 d6 d7 d8 e6 e7 e8 f6 f7 f8
      go_wp2
      go_ret
      exact ⟨(by rw [HQ.out]; first | done | rfl), B7.out⟩
  · have hr : R = e12 := by have := HR.out; unfold chkC at this; rw [if_pos g1] at this; exact this.symm
    have g6 : (e12 != 0) = true := by simpa using g1
    have HQ := hideC hr
    clear hr HR
    go_wp2_with fail
    go_ret
    exact ⟨(by rw [HQ.out]; first | done | rfl), B3.out⟩

end Go.Proofs.YthhhglfcacoejaaGreatDoor

/- speed.checkText at every text. -/
namespace Go.Proofs.YthhhglfcacoejaaGreatDoor
open Go.RowKit Go.Shelf

set_option maxRecDepth 100000 in
set_option maxHeartbeats 400000 in
theorem checkText_any (s : ByteArray) (D : List Sp) (oa : Option Addr) (cap : Nat) (hs : s.size ≤ 140737488355328) (hc : D.length ≤ cap ∧ cap ≤ maxLen) (hn : oa = none → D = [] ∧ cap = 0) (w : World) (hR : SpO w oa D) :
    Calls Tryz.prog 28 #[.agg #[.string s, .slice oa D.length cap]] w fun e w' => e = .returned (.int .i64 (chkT s D)) ∧ Below w.heap.size w w' := by
  have H := hideC (fun W (b : Below w.heap.size w W) => cuecheck_walk 0 1 1 1 0 0 ByteArray.empty s (.slice oa D.length cap) 0 0 0 (-1) 0 (chkT s D) (chkT s D) rfl rfl W time_0 time_1 cmp_01 checkName_none (fun W' b' => check7_any s D oa cap hs hc hn W' (hR.keep (bup b b'))))
  obtain ⟨N, hN⟩ : ∃ N, D.length = N := ⟨_, rfl⟩
  obtain ⟨R, hRR⟩ : ∃ R, chkT s D = R := ⟨_, rfl⟩
  rw [show chkC 0 (-1) 0 0 (chkT s D) = chkT s D from by unfold chkC; simp, hN, hRR] at H
  rw [hN, hRR]
  clear hN hRR hR hn
  go_enter Tryz.func28, Tryz.ntmps28
  go_wp2_with fail
  refine (H.out _ (bel1 w _)).mono ?_
  rintro e w1 ⟨rfl, b1⟩
  have B1 := hideC (bup (bel1 _ _) b1)
  clear b1
  go_wp2_with fail
  go_ret
  exact ⟨rfl, B1.out⟩

end Go.Proofs.YthhhglfcacoejaaGreatDoor

/- The contract of ratio.Sum. -/
namespace Go.Proofs.YthhhglfcacoejaaGreatDoor
open Go.RowKit Go.Shelf
attribute [local go_sem] Oper.semAt_some

end Go.Proofs.YthhhglfcacoejaaGreatDoor

/- The contract of surtitleref3.Sum. -/
namespace Go.Proofs.YthhhglfcacoejaaGreatDoor
open Go.RowKit Go.Shelf
attribute [local go_sem] Oper.semAt_some

theorem RowAt.put {l : List Rt} {a : Addr} {V : World} {S i : Nat} {v : Value} (h : RowAt l a V) (n : S ≠ a.block) : RowAt l a (V.setCell ⟨S, i, none⟩ v) := by
  refine ⟨by simpa using h.1, fun j p hp => ?_⟩
  have ne : ∀ m, (⟨S, i, none⟩ : Addr) ≠ a.add m := fun m e => n ((congrArg Addr.block e).trans (addr_block a m))
  rw [World.cell?_setCell_other _ _ _ _ (ne _), World.cell?_setCell_other _ _ _ _ (ne _)]
  exact h.2 j p hp
theorem RowAt.drew {l : List Rt} {a : Addr} {V : World} (h : RowAt l a V) : RowAt l a V.drew := h
theorem c4 {l : List Rt} {a : Addr} {V : World} {A k : Nat} {x y : Value} {p : Rt} (t : Two V A x y) (h : RowAt l a V) (hp : l[k]? = some p) : V.cell? ⟨A, 0, none⟩ = some x ∧ V.cell? ⟨A, 1, none⟩ = some y ∧ V.cell? (a.add (k * 2)) = some (.int .i64 p.N) ∧ V.cell? ⟨(a.add (k * 2)).block, (a.add (k * 2)).off + 1, none⟩ = some (.int .i64 p.D) := ⟨t.2.1, t.2.2.1, (h.pair hp).1, (h.pair hp).2⟩
theorem two_put {V : World} {R S i : Nat} {x y v : Value} (h : Two V R x y) (n : S ≠ R) : Two (V.setCell ⟨S, i, none⟩ v) R x y := by
  obtain ⟨z, c0, c1, f0, f1⟩ := h
  have n2 : R ≠ S := fun e => n e.symm
  exact ⟨by simpa using z, by go_simp, by go_simp, by go_simp, by go_simp⟩

end Go.Proofs.YthhhglfcacoejaaGreatDoor

/- The contract of surtitleref3.Best. -/
namespace Go.Proofs.YthhhglfcacoejaaGreatDoor
open Go.RowKit Go.Shelf
attribute [local go_sem] Oper.semAt_some

end Go.Proofs.YthhhglfcacoejaaGreatDoor

/- Rows of ratios that are empty; Least, Most. -/
namespace Go.Proofs.YthhhglfcacoejaaGreatDoor
open Go.RowKit Go.Shelf
attribute [local go_sem] Oper.semAt_some

set_option maxRecDepth 100000 in
theorem outer_nil (o : Option Addr) (cap : Nat) (side : Int) (w : World) :
    Calls Tryz.prog 89 #[.slice o 0 cap, .int .i64 side] w fun e w' => e = .returned (.tuple #[.agg #[.int .i64 0, .int .i64 0], .bool false]) ∧ Below w.heap.size w w' := by
  go_enter Tryz.func89, Tryz.ntmps89
  go_wp2_with fail
  exact bodyPost_ret (v := .tuple #[.agg #[.int .i64 0, .int .i64 0], .bool false]) (by simp [results, Tryz.results89, go_sem]) rfl ⟨rfl, bel1 w _⟩

set_option maxRecDepth 100000 in
theorem most_wrap (w : World) (sl : Value) (x y : Int) (ok : Bool)
    (HO : ∀ w0, Below w.heap.size w w0 → Calls Tryz.prog 89 #[sl, .int .i64 1] w0 fun e w' => e = .returned (.tuple #[.agg #[.int .i64 x, .int .i64 y], .bool ok]) ∧ Below w0.heap.size w0 w') :
    Calls Tryz.prog 58 #[sl] w fun e w' => e = .returned (.tuple #[.agg #[.int .i64 x, .int .i64 y], .bool ok]) ∧ Below w.heap.size w w' := by
  have HO := hideR HO
  go_enter Tryz.func58, Tryz.ntmps58
  go_wp2_with fail
  go_at_call 89
  refine Calls.mono (HO.out _ (bel1 w _)) ?_
  rintro e w1 ⟨rfl, b1⟩
  have T1 := (Two.new w (.int .i64 0) (.int .i64 0) 26).keep b1
  have B1 := bup (bel1 w _) b1
  obtain ⟨_, n0, n1, n2, n3⟩ := id T1
  go_wp2_with fail
  exact bodyPost_ret (v := .tuple #[.agg #[.int .i64 x, .int .i64 y], .bool ok]) (by simp [results, Tryz.results58, go_sem, n0, n1]) rfl ⟨rfl, (B1.setCell (by simp) _).setCell (by simp) _⟩
end Go.Proofs.YthhhglfcacoejaaGreatDoor

/- speed.Rules.right, pace.wants, Wants: walks over what their callees tell. -/
namespace Go.Proofs.YthhhglfcacoejaaGreatDoor
open Go.RowKit Go.Shelf

/-- Rules in a block of their own. -/
def SixC (w : World) (B : Nat) (t : TypeId) (a0 a1 a2 a3 a4 a5 : Int) : Prop := w.heap[B]? = some (.cells #[.int .i64 a0, .int .i64 a1, .int .i64 a2, .int .i64 a3, .int .i64 a4, .int .i64 a5] t)
theorem SixC.cells {w : World} {B : Nat} {t : TypeId} {a0 a1 a2 a3 a4 a5 : Int} (h : SixC w B t a0 a1 a2 a3 a4 a5) :
    w.cell? ⟨B, 0, none⟩ = some (.int .i64 a0) ∧ w.cell? ⟨B, 1, none⟩ = some (.int .i64 a1) ∧ w.cell? ⟨B, 2, none⟩ = some (.int .i64 a2) ∧ w.cell? ⟨B, 3, none⟩ = some (.int .i64 a3) ∧ w.cell? ⟨B, 4, none⟩ = some (.int .i64 a4) ∧ w.cell? ⟨B, 5, none⟩ = some (.int .i64 a5) := by
  simp [World.cell?, show w.heap[B]? = _ from h]
theorem SixC.keep {w w' : World} {B : Nat} {t : TypeId} {a0 a1 a2 a3 a4 a5 : Int} (h : SixC w B t a0 a1 a2 a3 a4 a5) (b : Below w.heap.size w w') : SixC w' B t a0 a1 a2 a3 a4 a5 := (b.block B (Array.getElem?_eq_some_iff.1 h).1).trans h
theorem SixC.set {W : World} {B r : Nat} {t : TypeId} {a0 a1 a2 a3 a4 a5 : Int} {a b : Value} (h : SixC W B t a0 a1 a2 a3 a4 a5) (hr : B ≠ r) : SixC ((W.setCell ⟨r, 0, none⟩ a).setCell ⟨r, 1, none⟩ b) B t a0 a1 a2 a3 a4 a5 :=
  ((Below.heap_setCell _ _ _ _ hr).trans (Below.heap_setCell _ _ _ _ hr)).trans h
/-- A text in a block of its own. -/
def TxtV (w : World) (B : Nat) (s : ByteArray) (v : Value) : Prop := w.heap[B]? = some (.cells #[.string s, v] 52)
theorem TxtV.cells {w : World} {B : Nat} {s : ByteArray} {v : Value} (h : TxtV w B s v) : w.cell? ⟨B, 0, none⟩ = some (.string s) ∧ w.cell? ⟨B, 1, none⟩ = some v := by
  simp [World.cell?, show w.heap[B]? = _ from h]
theorem TxtV.keep {w w' : World} {B : Nat} {s : ByteArray} {v : Value} (h : TxtV w B s v) (b : Below w.heap.size w w') : TxtV w' B s v := (b.block B (Array.getElem?_eq_some_iff.1 h).1).trans h
theorem TxtV.set {W : World} {B r : Nat} {s : ByteArray} {v a b : Value} (h : TxtV W B s v) (hr : B ≠ r) : TxtV ((W.setCell ⟨r, 0, none⟩ a).setCell ⟨r, 1, none⟩ b) B s v :=
  ((Below.heap_setCell _ _ _ _ hr).trans (Below.heap_setCell _ _ _ _ hr)).trans h
theorem cell_two_setD {W : World} {k o r : Nat} {a b v : Value} (h : k ≠ r) (hc : W.cell? ⟨k, o, none⟩ = some v) : ((W.setCell ⟨r, 0, none⟩ a).setCell ⟨r, 1, none⟩ b).cell? ⟨k, o, none⟩ = some v :=
  (World.cell?_of_block ((Below.heap_setCell _ _ _ _ h).trans (Below.heap_setCell _ _ _ _ h))).trans hc
theorem cell_old_allocD {W : World} {k o : Nat} {ob : Obj} (h : k < W.heap.size) : (W.alloc ob).cell? ⟨k, o, none⟩ = W.cell? ⟨k, o, none⟩ := World.cell?_of_block (Below.heap_alloc _ _ _ h)
theorem Two.cellsD {V : World} {R : Nat} {x y : Value} (h : Two V R x y) : V.cell? ⟨R, 0, none⟩ = some x ∧ V.cell? ⟨R, 1, none⟩ = some y ∧ V.frozen? ⟨R, 0, none⟩ = false ∧ V.frozen? ⟨R, 1, none⟩ = false := h.2
/-- What lies at the head of pace.wants. -/
structure PcV (w : World) (s : ByteArray) (v : Value) (a0 a1 a2 a3 a4 a5 : Int) (W : World) : Prop where
  below : Below w.heap.size w W
  six : SixC W w.heap.size 67 a0 a1 a2 a3 a4 a5
  txt : TxtV W (w.heap.size + 1) s v
  res : Two W (w.heap.size + 1 + 1) (.int .i64 0) (.int .i64 0)
theorem PcV.keep {w W W' : World} {s : ByteArray} {v : Value} {a0 a1 a2 a3 a4 a5 : Int} (h : PcV w s v a0 a1 a2 a3 a4 a5 W) (b : Below W.heap.size W W') : PcV w s v a0 a1 a2 a3 a4 a5 W' := ⟨bup h.below b, h.six.keep b, h.txt.keep b, h.res.keep b⟩
theorem PcV.set {w W : World} {s : ByteArray} {v : Value} {a0 a1 a2 a3 a4 a5 : Int} {r : Nat} {a b : Value} (h : PcV w s v a0 a1 a2 a3 a4 a5 W) (hr : w.heap.size + 1 + 1 < r) : PcV w s v a0 a1 a2 a3 a4 a5 ((W.setCell ⟨r, 0, none⟩ a).setCell ⟨r, 1, none⟩ b) :=
  ⟨(h.below.setCell (by simp; omega) _).setCell (by simp; omega) _, h.six.set (by omega), h.txt.set (by omega), h.res.other (by omega)⟩
theorem PcV.facts {w W : World} {s : ByteArray} {v : Value} {a0 a1 a2 a3 a4 a5 : Int} (h : PcV w s v a0 a1 a2 a3 a4 a5 W) : (W.cell? ⟨w.heap.size, 0, none⟩ = some (.int .i64 a0) ∧ W.cell? ⟨w.heap.size, 1, none⟩ = some (.int .i64 a1) ∧ W.cell? ⟨w.heap.size, 2, none⟩ = some (.int .i64 a2) ∧ W.cell? ⟨w.heap.size, 3, none⟩ = some (.int .i64 a3)) ∧ (W.cell? ⟨w.heap.size + 1, 0, none⟩ = some (.string s) ∧ W.cell? ⟨w.heap.size + 1, 1, none⟩ = some v) :=
  ⟨⟨h.six.cells.1, h.six.cells.2.1, h.six.cells.2.2.1, h.six.cells.2.2.2.1⟩, h.txt.cells⟩

theorem row_two_newD (w : World) (a b c d : Int) (t : TypeId) : RowAt [⟨a, b⟩, ⟨c, d⟩] ⟨w.heap.size, 0, none⟩ (w.alloc (.cells #[.int .i64 a, .int .i64 b, .int .i64 c, .int .i64 d] t)) := by
  have h : (w.alloc (.cells #[.int .i64 a, .int .i64 b, .int .i64 c, .int .i64 d] t)).heap[w.heap.size]? = some (.cells #[.int .i64 a, .int .i64 b, .int .i64 c, .int .i64 d] t) := World.alloc_heap_new w _
  have hz : w.heap.size < (w.alloc (.cells #[.int .i64 a, .int .i64 b, .int .i64 c, .int .i64 d] t)).heap.size := by simp
  generalize w.alloc (.cells #[.int .i64 a, .int .i64 b, .int .i64 c, .int .i64 d] t) = W at *
  have c0 : W.cell? ⟨w.heap.size, 0, none⟩ = some (.int .i64 a) := by unfold World.cell?; rw [h]; rfl
  have c1 : W.cell? ⟨w.heap.size, 1, none⟩ = some (.int .i64 b) := by unfold World.cell?; rw [h]; rfl
  have c2 : W.cell? ⟨w.heap.size, 2, none⟩ = some (.int .i64 c) := by unfold World.cell?; rw [h]; rfl
  have c3 : W.cell? ⟨w.heap.size, 3, none⟩ = some (.int .i64 d) := by unfold World.cell?; rw [h]; rfl
  refine ⟨hz, fun i p hp => ?_⟩
  match i, hp with
  | 0, hp => simp at hp; subst hp; exact ⟨c0, c1⟩
  | 1, hp => simp at hp; subst hp; exact ⟨c2, c3⟩
theorem most_pair (x y : Rt) (hx : RtIn x) (hy : RtIn y) (B : Nat) (w : World) (hR : RowAt [x, y] ⟨B, 0, none⟩ w) :
    Calls Tryz.prog 58 #[.slice (some ⟨B, 0, none⟩) 2 2] w fun e w' => e = .returned (.tuple #[.agg #[.int .i64 (if cmpI y x = 1 then y else x).N, .int .i64 (if cmpI y x = 1 then y else x).D], .bool true]) ∧ Below w.heap.size w w' :=
  most_wrap w _ _ _ true fun w0 b0 => outer_walk [x, y] [y] (by intro p hp; simp at hp; rcases hp with rfl | rfl <;> assumption) x rfl rfl 1 ⟨B, 0, none⟩ 2 ⟨by simp, by decide⟩ (by decide) w0 (hR.old b0)

/-- What Rules.right tells. -/
def rulB (S L G : Rt) : Bool := rightB S && decide (0 < S.N) && decide (timeA L = 0) && decide (timeA G = 0)
set_option maxRecDepth 100000 in
set_option maxHeartbeats 800000 in
theorem rulesRight_walk (a0 a1 a2 a3 a4 a5 : Int) (rb : Bool) (e1 e2 : Int) (w : World)
    (H1 : ∀ W, Calls Tryz.prog 54 #[.agg #[.int .i64 a0, .int .i64 a1]] W fun e w' => e = .returned (.bool rb) ∧ Below W.heap.size W w')
    (H2 : ∀ W, Calls Tryz.prog 55 #[.agg #[.int .i64 a2, .int .i64 a3]] W fun e w' => e = .returned (.int .i64 e1) ∧ Below W.heap.size W w')
    (H3 : ∀ W, Calls Tryz.prog 55 #[.agg #[.int .i64 a4, .int .i64 a5]] W fun e w' => e = .returned (.int .i64 e2) ∧ Below W.heap.size W w') :
    Calls Tryz.prog 29 #[.agg #[.int .i64 a0, .int .i64 a1, .int .i64 a2, .int .i64 a3, .int .i64 a4, .int .i64 a5]] w fun e w' => e = .returned (.bool (rb && decide (0 < a0) && decide (e1 = 0) && decide (e2 = 0))) ∧ Below w.heap.size w w' := by
  obtain ⟨R, hR⟩ : ∃ R, (rb && decide (0 < a0) && decide (e1 = 0) && decide (e2 = 0)) = R := ⟨_, rfl⟩
  rw [hR]
  have HR := hideC hR
  clear hR
  replace H1 := hideC H1
  replace H2 := hideC H2
  replace H3 := hideC H3
  go_enter Tryz.func29, Tryz.ntmps29
  go_wp2_with fail
  refine (H1.out _).mono ?_
  rintro e w1 ⟨rfl, b1⟩
  have Q1 : SixC w1 w.heap.size 37 a0 a1 a2 a3 a4 a5 := (show SixC _ w.heap.size 37 a0 a1 a2 a3 a4 a5 from World.alloc_heap_new w _).keep b1
  have B1 := hideC (bup (bel1 w _) b1)
  clear b1
  have ⟨c0, c1, c2, c3, c4, c5⟩ := Q1.cells
  have Q1 := hideC Q1
  cases rb with
  | false =>
    have hr : R = false := by have := HR.out; simp at this; first | exact this | exact this.symm
    subst hr
    go_wp2_with fail
    go_ret
    exact ⟨rfl, B1.out⟩
  | true =>
    by_cases g1 : 0 < a0
    · have g1' : decide (0 < a0) = true := by simpa using g1
      go_wp2_with fail
      refine (H2.out _).mono ?_
      rintro e w2 ⟨rfl, b2⟩
      have Q2 := Q1.out.keep b2
      have B2 := hideC (bup B1.out b2)
      clear b2 B1 c0 c1 c2 c3 c4 c5
      have ⟨c0, c1, c2, c3, c4, c5⟩ := Q2.cells
      have Q2 := hideC Q2
      by_cases g2 : e1 = 0
      · subst g2
        go_wp2_with fail
        refine (H3.out _).mono ?_
        rintro e w3 ⟨rfl, b3⟩
        have B3 := hideC (bup B2.out b3)
        clear b3 B2 c0 c1 c2 c3 c4 c5
        by_cases g3 : e2 = 0
        · subst g3
          have hr : R = true := by have := HR.out; simp [g1] at this; first | exact this | exact this.symm
          subst hr
          go_wp2
          go_ret
          exact ⟨rfl, B3.out⟩
        · have hr : R = false := by have := HR.out; simp [g1, g3] at this; first | exact this | exact this.symm
          subst hr
          have g3' : (e2 == 0) = false := by simpa using g3
          go_wp2
          go_ret
          exact ⟨rfl, B3.out⟩
      · have hr : R = false := by have := HR.out; simp [g2] at this; first | exact this | exact this.symm
        subst hr
        have g2' : (e1 == 0) = false := by simpa using g2
        go_wp2_with fail
        go_ret
        exact ⟨rfl, B2.out⟩
    · have hr : R = false := by have := HR.out; simp [g1] at this; first | exact this | exact this.symm
      subst hr
      have g1' : decide (0 < a0) = false := by simpa using g1
      go_wp2_with fail
      go_ret
      exact ⟨rfl, B1.out⟩

set_option maxRecDepth 100000 in
set_option maxHeartbeats 2000000 in
theorem paceWants_walk (s : ByteArray) (v : Value) (a0 a1 a2 a3 a4 a5 : Int) (n : Nat) (q0 q1 e1 e2 e12 m0 m1 : Int) (hn : n < 9223372036854775808) (h12 : (if e1 = 0 then e2 else e1) = e12) (w : World)
    (H1 : ∀ W, Below w.heap.size w W → Calls Tryz.prog 16 #[.agg #[.string s, v]] W fun e w' => e = .returned (.int .i64 n) ∧ Below W.heap.size W w')
    (H2 : ∀ W, Calls Tryz.prog 56 #[.agg #[.int .i64 n, .int .i64 1], .agg #[.int .i64 a0, .int .i64 a1]] W fun e w' => e = .returned (.tuple #[.agg #[.int .i64 q0, .int .i64 q1], .int .i64 e1]) ∧ Below W.heap.size W w')
    (H3 : ∀ W, Calls Tryz.prog 55 #[.agg #[.int .i64 q0, .int .i64 q1]] W fun e w' => e = .returned (.int .i64 e2) ∧ Below W.heap.size W w')
    (H4 : ∀ B W, RowAt [⟨a2, a3⟩, ⟨q0, q1⟩] ⟨B, 0, none⟩ W → Calls Tryz.prog 58 #[.slice (some ⟨B, 0, none⟩) 2 2] W fun e w' => e = .returned (.tuple #[.agg #[.int .i64 m0, .int .i64 m1], .bool true]) ∧ Below W.heap.size W w')
    (r0 r1 r2 : Int) (hr : (¬ e12 = 0 ∧ r0 = 0 ∧ r1 = 0 ∧ r2 = e12) ∨ (e12 = 0 ∧ r0 = m0 ∧ r1 = m1 ∧ r2 = 0)) :
    Calls Tryz.prog 30 #[.agg #[.int .i64 a0, .int .i64 a1, .int .i64 a2, .int .i64 a3, .int .i64 a4, .int .i64 a5], .agg #[.string s, v]] w fun e w' => e = .returned (.tuple #[.agg #[.int .i64 r0, .int .i64 r1], .int .i64 r2]) ∧ Below w.heap.size w w' := by
  have HO : ∀ B W, World.cell? W ⟨B, 0, none⟩ = some (.int .i64 e1) → World.cell? W ⟨B, 1, none⟩ = some (.int .i64 e2) → Calls Tryz.prog 57 #[.slice (some ⟨B, 0, none⟩) 2 2] W fun e w' => e = .returned (.int .i64 e12) ∧ Below W.heap.size W w' := fun B W g0 g1 => by
    have := or_two e1 e2 B W g0 g1
    rw [h12] at this
    exact this
  have HQ := hideC hr
  replace HO := hideC HO
  replace H1 := hideC H1
  replace H2 := hideC H2
  replace H3 := hideC H3
  replace H4 := hideC H4
  have wn : IntKind.i64.wrap (n : Int) = (n : Int) := IntWalk.i64_in _ ⟨by omega, by omega⟩
  clear hr h12
  go_enter Tryz.func30, Tryz.ntmps30
  go_wp2_with fail
  have BB : Below w.heap.size w (((w.alloc (.cells #[.int .i64 a0, .int .i64 a1, .int .i64 a2, .int .i64 a3, .int .i64 a4, .int .i64 a5] 67)).alloc (.cells #[.string s, v] 52)).alloc (.cells #[.int .i64 0, .int .i64 0] 26)) := ((bel1 w _).trans ((bel1 _ _).mono (by simp))).trans ((bel1 _ _).mono (by simp; omega))
  have P0 : SixC (((w.alloc (.cells #[.int .i64 a0, .int .i64 a1, .int .i64 a2, .int .i64 a3, .int .i64 a4, .int .i64 a5] 67)).alloc (.cells #[.string s, v] 52)).alloc (.cells #[.int .i64 0, .int .i64 0] 26)) w.heap.size 67 a0 a1 a2 a3 a4 a5 := (((show SixC _ w.heap.size 67 a0 a1 a2 a3 a4 a5 from World.alloc_heap_new w _).keep (bel1 _ _))).keep (bel1 _ _)
  have X0 : TxtV (((w.alloc (.cells #[.int .i64 a0, .int .i64 a1, .int .i64 a2, .int .i64 a3, .int .i64 a4, .int .i64 a5] 67)).alloc (.cells #[.string s, v] 52)).alloc (.cells #[.int .i64 0, .int .i64 0] 26)) (w.heap.size + 1) s v := by
    have : TxtV ((w.alloc (.cells #[.int .i64 a0, .int .i64 a1, .int .i64 a2, .int .i64 a3, .int .i64 a4, .int .i64 a5] 67)).alloc (.cells #[.string s, v] 52)) (w.heap.size + 1) s v := by
      have := World.alloc_heap_new (w.alloc (.cells #[.int .i64 a0, .int .i64 a1, .int .i64 a2, .int .i64 a3, .int .i64 a4, .int .i64 a5] 67)) (.cells #[.string s, v] 52)
      rwa [World.size_alloc] at this
    exact this.keep (bel1 _ _)
  have R0 : Two (((w.alloc (.cells #[.int .i64 a0, .int .i64 a1, .int .i64 a2, .int .i64 a3, .int .i64 a4, .int .i64 a5] 67)).alloc (.cells #[.string s, v] 52)).alloc (.cells #[.int .i64 0, .int .i64 0] 26)) (w.heap.size + 1 + 1) (.int .i64 0) (.int .i64 0) := by
    have := Two.new ((w.alloc (.cells #[.int .i64 a0, .int .i64 a1, .int .i64 a2, .int .i64 a3, .int .i64 a4, .int .i64 a5] 67)).alloc (.cells #[.string s, v] 52)) (.int .i64 0) (.int .i64 0) 26
    simpa only [World.size_alloc] using this
  generalize (((w.alloc (.cells #[.int .i64 a0, .int .i64 a1, .int .i64 a2, .int .i64 a3, .int .i64 a4, .int .i64 a5] 67)).alloc (.cells #[.string s, v] 52)).alloc (.cells #[.int .i64 0, .int .i64 0] 26)) = V at *
  have ⟨p0, p1, p2, p3, p4, p5⟩ := P0.cells
  have ⟨x0, x1⟩ := X0.cells
  have HH := hideC (show PcV w s v a0 a1 a2 a3 a4 a5 V from ⟨BB, P0, X0, R0⟩)
  clear BB P0 X0 R0
  have z0 : w.heap.size + 1 + 1 < V.heap.size := HH.out.res.1
  go_cut [6, 7] (fun p e wx => ∃ r, p = .pointer (some ⟨r, 0, none⟩) ∧ e = .int .i64 e1 ∧ PcV w s v a0 a1 a2 a3 a4 a5 wx ∧ Two wx r (.int .i64 q0) (.int .i64 q1) ∧ w.heap.size + 1 + 1 < r)
  case first =>
    go_region_held3 (fun w' => (w'.cell? ⟨w.heap.size + 1, 0, none⟩ = some (.string s) ∧ w'.cell? ⟨w.heap.size + 1, 1, none⟩ = some v) ∧ w'.cell? ⟨w.heap.size, 0, none⟩ = some (.int .i64 a0) ∧ w'.cell? ⟨w.heap.size, 1, none⟩ = some (.int .i64 a1)) (first | go_keep | assumption | exact ⟨⟨cell_two_setD (by omega) (by first | assumption | (rw [cell_old_allocD (by simp; omega)]; assumption)), cell_two_setD (by omega) (by first | assumption | (rw [cell_old_allocD (by simp; omega)]; assumption))⟩, cell_two_setD (by omega) (by first | assumption | (rw [cell_old_allocD (by simp; omega)]; assumption)), cell_two_setD (by omega) (by first | assumption | (rw [cell_old_allocD (by simp; omega)]; assumption))⟩) (first
      | (go_at_call 56; (with_reducible refine (H2.out _).mono ?_); rintro e w2 ⟨rfl, b2⟩; (first | (have F2 := hideC (F1.out.keep b2); have ⟨h0, h1, h2, h3⟩ := F2.out.cellsD; have K2 := hideC (K1.out.keep b2)) | (have F2 := hideC ((Two.new w1 (.int .i64 0) (.int .i64 0) 26).keep b2); have ⟨h0, h1, h2, h3⟩ := F2.out.cellsD; have b2 := bup (bel1 w1 _) b2; have K2 := hideC (K1.out.keep b2)) | (have K2 := hideC (K1.out.keep b2))); have ⟨⟨r0, r1, r2, r3⟩, ⟨x0, x1⟩⟩ := K2.out.facts; have zz2 : w.heap.size + 1 + 1 < w2.heap.size := K2.out.res.1)
      | (go_at_call 16; (with_reducible refine Calls.mono (H1.out _ (by first | exact bup HH.out.below (Below.refl _ V).drew | exact bup HH.out.below (bup (Below.refl _ V).drew (bel1 V.drew _)) | exact bup HH.out.below (bel1 V _).drew)) ?_); rintro e w1 ⟨rfl, b1⟩; (first
          | (have b1 := Below.drew_of b1; have K1 := hideC (HH.out.keep b1))
          | (have F1 : Hid (Two w1 V.heap.size (.int .i64 0) (.int .i64 0)) := hideC ((Two.new V.drew (.int .i64 0) (.int .i64 0) 26).keep b1); have ⟨g0, g1, g2, g3⟩ := F1.out.cellsD; have b1 := bup (bup (Below.refl _ V).drew (bel1 V.drew _)) b1; have K1 := hideC (HH.out.keep b1))
          | (have F1 : Hid (Two w1 V.heap.size (.int .i64 0) (.int .i64 0)) := hideC ((Two.new V (.int .i64 0) (.int .i64 0) 26).drew.keep b1); have ⟨g0, g1, g2, g3⟩ := F1.out.cellsD; have b1 := bup (bel1 V _).drew b1; have K1 := hideC (HH.out.keep b1))); have ⟨⟨q0', q1', q2, q3⟩, ⟨y0, y1⟩⟩ := K1.out.facts; have zz1 : w.heap.size + 1 + 1 < w1.heap.size := K1.out.res.1))
    all_goals first | go_wp2_with fail | skip
    all_goals go_meet
    · exact ⟨_, rfl, rfl, K2.out.keep (bel1 _ _), Two.new w2 _ _ _, zz2⟩
    · exact ⟨_, rfl, rfl, K2.out.set (by omega), F2.out.set, zz1⟩
    · exact ⟨_, rfl, rfl, K2.out.set (by omega), F2.out.set, z0⟩
  case rest =>
    obtain ⟨r, rfl, rfl, K, F, hrr⟩ := hcut
    generalize wc = X at *
    have ⟨⟨k0, k1, k2, k3⟩, ⟨y0, y1⟩⟩ := K.facts
    have ⟨f0, f1, f2, f3⟩ := F.cellsD
    have KF := hideC (And.intro K F)
    clear K F HH p0 p1 p2 p3 p4 p5 x0 x1
    go_wp2_with fail
    refine (H3.out _).mono ?_
    rintro e w3 ⟨rfl, b3⟩
    have KF3 := hideC (And.intro (KF.out.1.keep b3) (KF.out.2.keep b3))
    clear b3 KF k0 k1 k2 k3 y0 y1 f0 f1 f2 f3
    go_wp2_with fail
    refine (HO.out _ _ (cell_two_newA _ _ _ _) (cell_two_newB _ _ _ _)).mono ?_
    rintro e w4 ⟨rfl, b4⟩
    have KF4 := hideC (And.intro (KF3.out.1.keep (bup (bel1 _ _) b4)) (KF3.out.2.keep (bup (bel1 _ _) b4)))
    clear b4 KF3
    have ⟨⟨k0, k1, k2, k3⟩, ⟨y0, y1⟩⟩ := KF4.out.1.facts
    have ⟨f0, f1, f2, f3⟩ := KF4.out.2.cellsD
    have ⟨e0, e1', e2', e3⟩ := KF4.out.1.res.cellsD
    have zz4 : w.heap.size + 1 + 1 < w4.heap.size := KF4.out.1.res.1
    by_cases g : e12 = 0
    · have hq : r0 = m0 ∧ r1 = m1 ∧ r2 = 0 := by rcases HQ.out with h | h; exact absurd g h.1; exact h.2
      obtain ⟨rfl, rfl, rfl⟩ := hq
      subst g
      clear e0 e1' e2' e3
      go_wp2_with fail
      refine (H4.out _ _ (row_two_newD _ _ _ _ _ _)).mono ?_
      rintro e w5 ⟨rfl, b5⟩
      have KF5 := hideC (KF4.out.1.keep (bup (bel1 _ _) b5))
      clear b5 KF4 k0 k1 k2 k3 y0 y1 f0 f1 f2 f3
      have ⟨e0, e1', e2', e3⟩ := KF5.out.res.cellsD
      have zz5 : w.heap.size + 1 + 1 < w5.heap.size := KF5.out.res.1
      go_wp2_with fail
      have ⟨t0, t1, _⟩ := ((KF5.out.res.set (x2 := .int .i64 r0) (y2 := .int .i64 r1)).alloc (.cells #[.int .i64 r0, .int .i64 r1] 26)).cellsD
      exact bodyPost_ret (v := .tuple #[.agg #[.int .i64 r0, .int .i64 r1], .int .i64 0]) (by simp [results, Tryz.results30, go_sem, t0, t1]) rfl ⟨rfl, bup ((KF5.out.below.setCell (by simp; omega) _).setCell (by simp; omega) _) (bel1 _ _)⟩
    · have hq : r0 = 0 ∧ r1 = 0 ∧ r2 = e12 := by rcases HQ.out with h | h; exact h.2; exact absurd h.1 g
      obtain ⟨rfl, rfl, rfl⟩ := hq
      have g' : (r2 != 0) = true := by simpa using g
      clear k0 k1 k2 k3 y0 y1 f0 f1 f2 f3
      go_wp2_with fail
      have ⟨t0, t1, _⟩ := (KF4.out.1.res.set (x2 := .int .i64 0) (y2 := .int .i64 0)).cellsD
      exact bodyPost_ret (v := .tuple #[.agg #[.int .i64 0, .int .i64 0], .int .i64 r2]) (by simp [results, Tryz.results30, go_sem, t0, t1]) rfl ⟨rfl, (KF4.out.1.below.setCell (by simp; omega) _).setCell (by simp; omega) _⟩

set_option maxRecDepth 100000 in
set_option maxHeartbeats 1000000 in
theorem wants_walk (s : ByteArray) (v : Value) (a0 a1 a2 a3 a4 a5 : Int) (ec : Int) (rb : Bool) (p0 p1 p2 : Int) (w : World)
    (H1 : ∀ W, Below w.heap.size w W → Calls Tryz.prog 28 #[.agg #[.string s, v]] W fun e w' => e = .returned (.int .i64 ec) ∧ Below W.heap.size W w')
    (H2 : ∀ W, Calls Tryz.prog 29 #[.agg #[.int .i64 a0, .int .i64 a1, .int .i64 a2, .int .i64 a3, .int .i64 a4, .int .i64 a5]] W fun e w' => e = .returned (.bool rb) ∧ Below W.heap.size W w')
    (H3 : ∀ W, Below w.heap.size w W → Calls Tryz.prog 30 #[.agg #[.int .i64 a0, .int .i64 a1, .int .i64 a2, .int .i64 a3, .int .i64 a4, .int .i64 a5], .agg #[.string s, v]] W fun e w' => e = .returned (.tuple #[.agg #[.int .i64 p0, .int .i64 p1], .int .i64 p2]) ∧ Below W.heap.size W w')
    (r0 r1 r2 : Int) (hr : (¬ ec = 0 ∧ r0 = 0 ∧ r1 = 0 ∧ r2 = ec) ∨ (ec = 0 ∧ rb = false ∧ r0 = 0 ∧ r1 = 0 ∧ r2 = 1) ∨ (ec = 0 ∧ rb = true ∧ r0 = p0 ∧ r1 = p1 ∧ r2 = p2)) :
    Calls Tryz.prog 14 #[.agg #[.string s, v], .agg #[.int .i64 a0, .int .i64 a1, .int .i64 a2, .int .i64 a3, .int .i64 a4, .int .i64 a5]] w fun e w' => e = .returned (.tuple #[.agg #[.int .i64 r0, .int .i64 r1], .int .i64 r2]) ∧ Below w.heap.size w w' := by
  replace H1 := hideC H1
  replace H2 := hideC H2
  replace H3 := hideC H3
  have HQ := hideC hr
  clear hr
  go_enter Tryz.func14, Tryz.ntmps14
  go_wp2_with fail
  have BB : Below w.heap.size w (((w.alloc (.cells #[.string s, v] 52)).alloc (.cells #[.int .i64 a0, .int .i64 a1, .int .i64 a2, .int .i64 a3, .int .i64 a4, .int .i64 a5] 37)).alloc (.cells #[.int .i64 0, .int .i64 0] 26)) := ((bel1 w _).trans ((bel1 _ _).mono (by simp))).trans ((bel1 _ _).mono (by simp; omega))
  have X0 : TxtV (((w.alloc (.cells #[.string s, v] 52)).alloc (.cells #[.int .i64 a0, .int .i64 a1, .int .i64 a2, .int .i64 a3, .int .i64 a4, .int .i64 a5] 37)).alloc (.cells #[.int .i64 0, .int .i64 0] 26)) w.heap.size s v := (((show TxtV _ w.heap.size s v from World.alloc_heap_new w _).keep (bel1 _ _))).keep (bel1 _ _)
  have P0 : SixC (((w.alloc (.cells #[.string s, v] 52)).alloc (.cells #[.int .i64 a0, .int .i64 a1, .int .i64 a2, .int .i64 a3, .int .i64 a4, .int .i64 a5] 37)).alloc (.cells #[.int .i64 0, .int .i64 0] 26)) (w.heap.size + 1) 37 a0 a1 a2 a3 a4 a5 := by
    have : SixC ((w.alloc (.cells #[.string s, v] 52)).alloc (.cells #[.int .i64 a0, .int .i64 a1, .int .i64 a2, .int .i64 a3, .int .i64 a4, .int .i64 a5] 37)) (w.heap.size + 1) 37 a0 a1 a2 a3 a4 a5 := by
      have := World.alloc_heap_new (w.alloc (.cells #[.string s, v] 52)) (.cells #[.int .i64 a0, .int .i64 a1, .int .i64 a2, .int .i64 a3, .int .i64 a4, .int .i64 a5] 37)
      rwa [World.size_alloc] at this
    exact this.keep (bel1 _ _)
  have R0 : Two (((w.alloc (.cells #[.string s, v] 52)).alloc (.cells #[.int .i64 a0, .int .i64 a1, .int .i64 a2, .int .i64 a3, .int .i64 a4, .int .i64 a5] 37)).alloc (.cells #[.int .i64 0, .int .i64 0] 26)) (w.heap.size + 1 + 1) (.int .i64 0) (.int .i64 0) := by
    have := Two.new ((w.alloc (.cells #[.string s, v] 52)).alloc (.cells #[.int .i64 a0, .int .i64 a1, .int .i64 a2, .int .i64 a3, .int .i64 a4, .int .i64 a5] 37)) (.int .i64 0) (.int .i64 0) 26
    simpa only [World.size_alloc] using this
  generalize (((w.alloc (.cells #[.string s, v] 52)).alloc (.cells #[.int .i64 a0, .int .i64 a1, .int .i64 a2, .int .i64 a3, .int .i64 a4, .int .i64 a5] 37)).alloc (.cells #[.int .i64 0, .int .i64 0] 26)) = V at *
  have HH := hideC (And.intro BB (And.intro X0 (And.intro P0 R0)))
  clear BB X0 P0 R0
  refine (H1.out _ HH.out.1).mono ?_
  rintro e w1 ⟨rfl, b1⟩
  have H1' := hideC (And.intro (bup HH.out.1 b1) (And.intro (HH.out.2.1.keep b1) (And.intro (HH.out.2.2.1.keep b1) (HH.out.2.2.2.keep b1))))
  clear HH b1
  have zz1 : w.heap.size + 1 + 1 < w1.heap.size := H1'.out.2.2.2.1
  by_cases g : ec = 0
  · subst g
    have ⟨x0, x1⟩ := H1'.out.2.1.cells
    have ⟨c0, c1, c2, c3, c4, c5⟩ := H1'.out.2.2.1.cells
    go_wp2_with fail
    refine (H2.out _).mono ?_
    rintro e w2 ⟨rfl, b2⟩
    have H2' := hideC (And.intro (bup H1'.out.1 b2) (And.intro (H1'.out.2.1.keep b2) (And.intro (H1'.out.2.2.1.keep b2) (H1'.out.2.2.2.keep b2))))
    clear H1' b2 x0 x1 c0 c1 c2 c3 c4 c5
    have zz2 : w.heap.size + 1 + 1 < w2.heap.size := H2'.out.2.2.2.1
    cases rb with
    | true =>
      have hq : r0 = p0 ∧ r1 = p1 ∧ r2 = p2 := by rcases HQ.out with h | h | h; (first | exact absurd rfl h.1 | exact absurd trivial h.1); cases h.2.1; exact h.2.2
      obtain ⟨rfl, rfl, rfl⟩ := hq
      have ⟨x0, x1⟩ := H2'.out.2.1.cells
      have ⟨c0, c1, c2, c3, c4, c5⟩ := H2'.out.2.2.1.cells
      go_wp2_with fail
      refine (H3.out _ H2'.out.1).mono ?_
      rintro e w3 ⟨rfl, b3⟩
      have H3' := hideC (And.intro (bup H2'.out.1 b3) (H2'.out.2.2.2.keep b3))
      clear H2' b3 x0 x1 c0 c1 c2 c3 c4 c5
      have ⟨d0, d1, d2, d3⟩ := H3'.out.2.cellsD
      go_wp2_with fail
      have ⟨t0, t1, _⟩ := (H3'.out.2.set (x2 := .int .i64 r0) (y2 := .int .i64 r1)).cellsD
      exact bodyPost_ret (v := .tuple #[.agg #[.int .i64 r0, .int .i64 r1], .int .i64 r2]) (by simp [results, Tryz.results14, go_sem, t0, t1]) rfl ⟨rfl, (H3'.out.1.setCell (by simp; omega) _).setCell (by simp; omega) _⟩
    | false =>
      have hq : r0 = 0 ∧ r1 = 0 ∧ r2 = 1 := by rcases HQ.out with h | h | h; (first | exact absurd rfl h.1 | exact absurd trivial h.1); exact h.2.2; cases h.2.1
      obtain ⟨rfl, rfl, rfl⟩ := hq
      have ⟨d0, d1, d2, d3⟩ := H2'.out.2.2.2.cellsD
      go_wp2_with fail
      have ⟨t0, t1, _⟩ := (H2'.out.2.2.2.set (x2 := .int .i64 0) (y2 := .int .i64 0)).cellsD
      exact bodyPost_ret (v := .tuple #[.agg #[.int .i64 0, .int .i64 0], .int .i64 1]) (by simp [results, Tryz.results14, go_sem, t0, t1]) rfl ⟨rfl, (H2'.out.1.setCell (by simp; omega) _).setCell (by simp; omega) _⟩
  · have hq : r0 = 0 ∧ r1 = 0 ∧ r2 = ec := by rcases HQ.out with h | h | h; exact h.2; exact absurd h.1 g; exact absurd h.1 g
    obtain ⟨rfl, rfl, rfl⟩ := hq
    have g' : (r2 != 0) = true := by simpa using g
    have ⟨d0, d1, d2, d3⟩ := H1'.out.2.2.2.cellsD
    go_wp2_with fail
    have ⟨t0, t1, _⟩ := (H1'.out.2.2.2.set (x2 := .int .i64 0) (y2 := .int .i64 0)).cellsD
    exact bodyPost_ret (v := .tuple #[.agg #[.int .i64 0, .int .i64 0], .int .i64 r2]) (by simp [results, Tryz.results14, go_sem, t0, t1]) rfl ⟨rfl, (H1'.out.1.setCell (by simp; omega) _).setCell (by simp; omega) _⟩

end Go.Proofs.YthhhglfcacoejaaGreatDoor

/- Contracts of speed.Rules.right, pace.wants, Wants at the rules of the statements' head. -/
namespace Go.Proofs.YthhhglfcacoejaaGreatDoor
open Go.RowKit Go.Shelf

/-- The rules ten signs a second, a fifth, no gap, in a block of their own. -/
def SixR (w : World) (B : Nat) (t : TypeId) : Prop := w.heap[B]? = some (.cells #[.int .i64 10, .int .i64 1, .int .i64 1, .int .i64 5, .int .i64 0, .int .i64 1] t)
theorem SixR.cells {w : World} {B : Nat} {t : TypeId} (h : SixR w B t) :
    w.cell? ⟨B, 0, none⟩ = some (.int .i64 10) ∧ w.cell? ⟨B, 1, none⟩ = some (.int .i64 1) ∧ w.cell? ⟨B, 2, none⟩ = some (.int .i64 1) ∧ w.cell? ⟨B, 3, none⟩ = some (.int .i64 5) ∧ w.cell? ⟨B, 4, none⟩ = some (.int .i64 0) ∧ w.cell? ⟨B, 5, none⟩ = some (.int .i64 1) := by
  simp [World.cell?, show w.heap[B]? = _ from h]
theorem SixR.keep {w w' : World} {B : Nat} {t : TypeId} (h : SixR w B t) (b : Below w.heap.size w w') : SixR w' B t := (b.block B (Array.getElem?_eq_some_iff.1 h).1).trans h
theorem SixR.set {W : World} {B r : Nat} {t : TypeId} {a b : Value} (h : SixR W B t) (hr : B ≠ r) : SixR ((W.setCell ⟨r, 0, none⟩ a).setCell ⟨r, 1, none⟩ b) B t :=
  ((Below.heap_setCell _ _ _ _ hr).trans (Below.heap_setCell _ _ _ _ hr)).trans h
/-- A text without spans in a block of its own. -/
def TxtP (w : World) (B : Nat) (s : ByteArray) : Prop := w.heap[B]? = some (.cells #[.string s, .slice none 0 0] 52)
theorem TxtP.cells {w : World} {B : Nat} {s : ByteArray} (h : TxtP w B s) : w.cell? ⟨B, 0, none⟩ = some (.string s) ∧ w.cell? ⟨B, 1, none⟩ = some (.slice none 0 0) := by
  simp [World.cell?, show w.heap[B]? = _ from h]
theorem TxtP.keep {w w' : World} {B : Nat} {s : ByteArray} (h : TxtP w B s) (b : Below w.heap.size w w') : TxtP w' B s := (b.block B (Array.getElem?_eq_some_iff.1 h).1).trans h
theorem cell_two_set {W : World} {k o r : Nat} {a b v : Value} (h : k ≠ r) (hc : W.cell? ⟨k, o, none⟩ = some v) : ((W.setCell ⟨r, 0, none⟩ a).setCell ⟨r, 1, none⟩ b).cell? ⟨k, o, none⟩ = some v :=
  (World.cell?_of_block ((Below.heap_setCell _ _ _ _ h).trans (Below.heap_setCell _ _ _ _ h))).trans hc
theorem cell_old_alloc {W : World} {k o : Nat} {ob : Obj} (h : k < W.heap.size) : (W.alloc ob).cell? ⟨k, o, none⟩ = W.cell? ⟨k, o, none⟩ := World.cell?_of_block (Below.heap_alloc _ _ _ h)
theorem Two.cells {V : World} {R : Nat} {x y : Value} (h : Two V R x y) : V.cell? ⟨R, 0, none⟩ = some x ∧ V.cell? ⟨R, 1, none⟩ = some y ∧ V.frozen? ⟨R, 0, none⟩ = false ∧ V.frozen? ⟨R, 1, none⟩ = false := h.2
theorem TxtP.set {W : World} {B r : Nat} {s : ByteArray} {a b : Value} (h : TxtP W B s) (hr : B ≠ r) : TxtP ((W.setCell ⟨r, 0, none⟩ a).setCell ⟨r, 1, none⟩ b) B s :=
  ((Below.heap_setCell _ _ _ _ hr).trans (Below.heap_setCell _ _ _ _ hr)).trans h
/-- What lies at the head of pace.wants. -/
def PcW (w : World) (s : ByteArray) (W : World) : Prop := Below w.heap.size w W ∧ SixR W w.heap.size 67 ∧ TxtP W (w.heap.size + 1) s ∧ Two W (w.heap.size + 1 + 1) (.int .i64 0) (.int .i64 0)
theorem PcW.keep {w W W' : World} {s : ByteArray} (h : PcW w s W) (b : Below W.heap.size W W') : PcW w s W' := ⟨h.1.trans (b.mono h.1.size), h.2.1.keep b, h.2.2.1.keep b, h.2.2.2.keep b⟩
theorem PcW.set {w W : World} {s : ByteArray} {r : Nat} {a b : Value} (h : PcW w s W) (hr : w.heap.size + 1 + 1 < r) : PcW w s ((W.setCell ⟨r, 0, none⟩ a).setCell ⟨r, 1, none⟩ b) :=
  ⟨(h.1.setCell (by simp; omega) _).setCell (by simp; omega) _, h.2.1.set (by omega), h.2.2.1.set (by omega), h.2.2.2.other (by omega)⟩
theorem PcW.facts {w W : World} {s : ByteArray} (h : PcW w s W) : (W.cell? ⟨w.heap.size, 0, none⟩ = some (.int .i64 10) ∧ W.cell? ⟨w.heap.size, 1, none⟩ = some (.int .i64 1) ∧ W.cell? ⟨w.heap.size, 2, none⟩ = some (.int .i64 1) ∧ W.cell? ⟨w.heap.size, 3, none⟩ = some (.int .i64 5)) ∧ (W.cell? ⟨w.heap.size + 1, 0, none⟩ = some (.string s) ∧ W.cell? ⟨w.heap.size + 1, 1, none⟩ = some (.slice none 0 0)) :=
  ⟨⟨h.2.1.cells.1, h.2.1.cells.2.1, h.2.1.cells.2.2.1, h.2.1.cells.2.2.2.1⟩, h.2.2.1.cells⟩
theorem PcW.below {w W : World} {s : ByteArray} (h : PcW w s W) : Below w.heap.size w W := h.1
theorem PcW.res {w W : World} {s : ByteArray} (h : PcW w s W) : Two W (w.heap.size + 1 + 1) (.int .i64 0) (.int .i64 0) := h.2.2.2
theorem scount_4 (s : ByteArray) (hs : s.size ≤ 4096) (hr : readN (signs s) = 4) (N : Nat) (w : World) (hT : Tabs N w) :
    Calls Tryz.prog 16 #[.agg #[.string s, .slice none 0 0]] w fun e w' => e = .returned (.int .i64 4) ∧ Below w.heap.size w w' := by
  have := scount_any s (by omega) (.slice none 0 0) N w hT
  rw [hr] at this
  exact this
theorem right_10 (w : World) : Calls Tryz.prog 54 #[.agg #[.int .i64 10, .int .i64 1]] w fun e w' => e = .returned (.bool true) ∧ Below w.heap.size w w' :=
  (right_any ⟨10, 1⟩ ⟨⟨by simp, by simp⟩, ⟨by simp, by simp⟩⟩ w)
theorem time_15 (w : World) : Calls Tryz.prog 55 #[.agg #[.int .i64 1, .int .i64 5]] w fun e w' => e = .returned (.int .i64 0) ∧ Below w.heap.size w w' :=
  (time_any ⟨1, 5⟩ ⟨⟨by simp, by simp⟩, ⟨by simp, by simp⟩⟩ w)
theorem time_25 (w : World) : Calls Tryz.prog 55 #[.agg #[.int .i64 2, .int .i64 5]] w fun e w' => e = .returned (.int .i64 0) ∧ Below w.heap.size w w' :=
  (time_any ⟨2, 5⟩ ⟨⟨by simp, by simp⟩, ⟨by simp, by simp⟩⟩ w)
theorem div_4_10 (w : World) : Calls Tryz.prog 56 #[.agg #[.int .i64 4, .int .i64 1], .agg #[.int .i64 10, .int .i64 1]] w fun e w' => e = .returned (.tuple #[.agg #[.int .i64 2, .int .i64 5], .int .i64 0]) ∧ Below w.heap.size w w' := by
  have h : divA ⟨4, 1⟩ ⟨10, 1⟩ = (⟨2, 5⟩, 0) := by
    unfold divA
    rw [if_pos (by decide), if_neg (by decide)]
    have h : valQ ⟨4, 1⟩ / valQ ⟨10, 1⟩ = valQ ⟨2, 5⟩ := by
      unfold valQ
      rw [Rat.div_def, Rat.inv_divInt, Rat.divInt_mul_divInt]
      decide
    rw [h]
    exact low_right ⟨2, 5⟩ (by decide)
  have := quo_any ⟨4, 1⟩ ⟨10, 1⟩ ⟨⟨by simp, by simp⟩, ⟨by simp, by simp⟩⟩ ⟨⟨by simp, by simp⟩, ⟨by simp, by simp⟩⟩ w
  rw [h] at this
  exact this

theorem row_two_new (w : World) (a b c d : Int) (t : TypeId) : RowAt [⟨a, b⟩, ⟨c, d⟩] ⟨w.heap.size, 0, none⟩ (w.alloc (.cells #[.int .i64 a, .int .i64 b, .int .i64 c, .int .i64 d] t)) := by
  have h : (w.alloc (.cells #[.int .i64 a, .int .i64 b, .int .i64 c, .int .i64 d] t)).heap[w.heap.size]? = some (.cells #[.int .i64 a, .int .i64 b, .int .i64 c, .int .i64 d] t) := World.alloc_heap_new w _
  have hz : w.heap.size < (w.alloc (.cells #[.int .i64 a, .int .i64 b, .int .i64 c, .int .i64 d] t)).heap.size := by simp
  generalize w.alloc (.cells #[.int .i64 a, .int .i64 b, .int .i64 c, .int .i64 d] t) = W at *
  have c0 : W.cell? ⟨w.heap.size, 0, none⟩ = some (.int .i64 a) := by unfold World.cell?; rw [h]; rfl
  have c1 : W.cell? ⟨w.heap.size, 1, none⟩ = some (.int .i64 b) := by unfold World.cell?; rw [h]; rfl
  have c2 : W.cell? ⟨w.heap.size, 2, none⟩ = some (.int .i64 c) := by unfold World.cell?; rw [h]; rfl
  have c3 : W.cell? ⟨w.heap.size, 3, none⟩ = some (.int .i64 d) := by unfold World.cell?; rw [h]; rfl
  refine ⟨hz, fun i p hp => ?_⟩
  match i, hp with
  | 0, hp => simp at hp; subst hp; exact ⟨c0, c1⟩
  | 1, hp => simp at hp; subst hp; exact ⟨c2, c3⟩
theorem most_two (B : Nat) (w : World) (hR : RowAt [⟨1, 5⟩, ⟨2, 5⟩] ⟨B, 0, none⟩ w) :
    Calls Tryz.prog 58 #[.slice (some ⟨B, 0, none⟩) 2 2] w fun e w' => e = .returned (.tuple #[.agg #[.int .i64 2, .int .i64 5], .bool true]) ∧ Below w.heap.size w w' :=
  most_wrap w _ 2 5 true fun w0 b0 => outer_walk [⟨1, 5⟩, ⟨2, 5⟩] [⟨2, 5⟩] (by intro p hp; simp at hp; rcases hp with rfl | rfl <;> exact ⟨⟨by simp, by simp⟩, ⟨by simp, by simp⟩⟩) ⟨1, 5⟩ rfl rfl 1 ⟨B, 0, none⟩ 2 (by decide) (by decide) w0 (hR.old b0)

set_option maxRecDepth 100000 in
set_option maxHeartbeats 400000 in
theorem rulesRight (w : World) :
    Calls Tryz.prog 29 #[.agg #[.int .i64 10, .int .i64 1, .int .i64 1, .int .i64 5, .int .i64 0, .int .i64 1]] w fun e w' => e = .returned (.bool true) ∧ Below w.heap.size w w' := by
  go_enter Tryz.func29, Tryz.ntmps29
  go_wp2_with fail
  refine (right_10 _).mono ?_
  rintro e w1 ⟨rfl, b1⟩
  have Q1 : SixR w1 w.heap.size 37 := (show SixR _ w.heap.size 37 from World.alloc_heap_new w _).keep b1
  have B1 := hideC ((bel1 w _).trans (b1.mono (by simp)))
  clear b1
  have ⟨c0, c1, c2, c3, c4, c5⟩ := Q1.cells
  have Q1 := hideC Q1
  go_wp2_with fail
  refine (time_15 _).mono ?_
  rintro e w2 ⟨rfl, b2⟩
  have Q2 := Q1.out.keep b2
  have B2 := hideC (B1.out.trans (b2.mono B1.out.size))
  clear b2 B1 c0 c1 c2 c3 c4 c5
  have ⟨c0, c1, c2, c3, c4, c5⟩ := Q2.cells
  have Q2 := hideC Q2
  go_wp2_with fail
  refine (time_0 _).mono ?_
  rintro e w3 ⟨rfl, b3⟩
  have B3 := hideC (B2.out.trans (b3.mono B2.out.size))
  clear b3 B2 c0 c1 c2 c3 c4 c5
  go_wp2
  go_ret
  exact ⟨rfl, B3.out⟩

set_option maxRecDepth 100000 in
set_option maxHeartbeats 400000 in
theorem paceWants (s : ByteArray) (hs : s.size ≤ 4096) (hr : readN (signs s) = 4) (N : Nat) (w : World) (hT : Tabs N w) :
    Calls Tryz.prog 30 #[.agg #[.int .i64 10, .int .i64 1, .int .i64 1, .int .i64 5, .int .i64 0, .int .i64 1], .agg #[.string s, .slice none 0 0]] w fun e w' => e = .returned (.tuple #[.agg #[.int .i64 2, .int .i64 5], .int .i64 0]) ∧ Below w.heap.size w w' := by
  go_enter Tryz.func30, Tryz.ntmps30
  go_wp2_with fail
  have BB : Below w.heap.size w (((w.alloc (.cells #[.int .i64 10, .int .i64 1, .int .i64 1, .int .i64 5, .int .i64 0, .int .i64 1] 67)).alloc (.cells #[.string s, .slice none 0 0] 52)).alloc (.cells #[.int .i64 0, .int .i64 0] 26)) := ((bel1 w _).trans ((bel1 _ _).mono (by simp))).trans ((bel1 _ _).mono (by simp; omega))
  have P0 : SixR (((w.alloc (.cells #[.int .i64 10, .int .i64 1, .int .i64 1, .int .i64 5, .int .i64 0, .int .i64 1] 67)).alloc (.cells #[.string s, .slice none 0 0] 52)).alloc (.cells #[.int .i64 0, .int .i64 0] 26)) w.heap.size 67 := (((show SixR _ w.heap.size 67 from World.alloc_heap_new w _).keep (bel1 _ _))).keep (bel1 _ _)
  have X0 : TxtP (((w.alloc (.cells #[.int .i64 10, .int .i64 1, .int .i64 1, .int .i64 5, .int .i64 0, .int .i64 1] 67)).alloc (.cells #[.string s, .slice none 0 0] 52)).alloc (.cells #[.int .i64 0, .int .i64 0] 26)) (w.heap.size + 1) s := by
    have : TxtP ((w.alloc (.cells #[.int .i64 10, .int .i64 1, .int .i64 1, .int .i64 5, .int .i64 0, .int .i64 1] 67)).alloc (.cells #[.string s, .slice none 0 0] 52)) (w.heap.size + 1) s := by
      have := World.alloc_heap_new (w.alloc (.cells #[.int .i64 10, .int .i64 1, .int .i64 1, .int .i64 5, .int .i64 0, .int .i64 1] 67)) (.cells #[.string s, .slice none 0 0] 52)
      rwa [World.size_alloc] at this
    exact this.keep (bel1 _ _)
  have R0 : Two (((w.alloc (.cells #[.int .i64 10, .int .i64 1, .int .i64 1, .int .i64 5, .int .i64 0, .int .i64 1] 67)).alloc (.cells #[.string s, .slice none 0 0] 52)).alloc (.cells #[.int .i64 0, .int .i64 0] 26)) (w.heap.size + 1 + 1) (.int .i64 0) (.int .i64 0) := by
    have := Two.new ((w.alloc (.cells #[.int .i64 10, .int .i64 1, .int .i64 1, .int .i64 5, .int .i64 0, .int .i64 1] 67)).alloc (.cells #[.string s, .slice none 0 0] 52)) (.int .i64 0) (.int .i64 0) 26
    simpa only [World.size_alloc] using this
  have T0 := hT.below BB
  generalize (((w.alloc (.cells #[.int .i64 10, .int .i64 1, .int .i64 1, .int .i64 5, .int .i64 0, .int .i64 1] 67)).alloc (.cells #[.string s, .slice none 0 0] 52)).alloc (.cells #[.int .i64 0, .int .i64 0] 26)) = V at *
  have ⟨p0, p1, p2, p3, p4, p5⟩ := P0.cells
  have ⟨x0, x1⟩ := X0.cells
  have HH := hideC (And.intro (show PcW w s V from ⟨BB, P0, X0, R0⟩) T0)
  clear BB P0 X0 R0 T0 hT
  have z0 : w.heap.size + 1 + 1 < V.heap.size := HH.out.1.res.1
  go_cut [6, 7] (fun p e wx => ∃ r, p = .pointer (some ⟨r, 0, none⟩) ∧ e = .int .i64 0 ∧ PcW w s wx ∧ Two wx r (.int .i64 2) (.int .i64 5) ∧ w.heap.size + 1 + 1 < r)
  case first =>
    go_region_held3 (fun w' => (w'.cell? ⟨w.heap.size + 1, 0, none⟩ = some (.string s) ∧ w'.cell? ⟨w.heap.size + 1, 1, none⟩ = some (.slice none 0 0)) ∧ w'.cell? ⟨w.heap.size, 0, none⟩ = some (.int .i64 10) ∧ w'.cell? ⟨w.heap.size, 1, none⟩ = some (.int .i64 1)) (first | go_keep | assumption | exact ⟨⟨cell_two_set (by omega) (by first | assumption | (rw [cell_old_alloc (by simp; omega)]; assumption)), cell_two_set (by omega) (by first | assumption | (rw [cell_old_alloc (by simp; omega)]; assumption))⟩, cell_two_set (by omega) (by first | assumption | (rw [cell_old_alloc (by simp; omega)]; assumption)), cell_two_set (by omega) (by first | assumption | (rw [cell_old_alloc (by simp; omega)]; assumption))⟩) (first
      | (go_at_call 56; (with_reducible refine (div_4_10 _).mono ?_); rintro e w2 ⟨rfl, b2⟩; (first | (have F2 := hideC (F1.out.keep b2); have ⟨h0, h1, h2, h3⟩ := F2.out.cells; have K2 := hideC (K1.out.keep b2)) | (have F2 := hideC ((Two.new w1 (.int .i64 0) (.int .i64 0) 26).keep b2); have ⟨h0, h1, h2, h3⟩ := F2.out.cells; have b2 := bup (bel1 w1 _) b2; have K2 := hideC (K1.out.keep b2)) | (have K2 := hideC (K1.out.keep b2))); have ⟨⟨r0, r1, r2, r3⟩, ⟨x0, x1⟩⟩ := K2.out.facts; have zz2 : w.heap.size + 1 + 1 < w2.heap.size := K2.out.res.1)
      | (go_at_call 16; (with_reducible refine Calls.mono (scount_4 s hs hr N _ (by first | exact HH.out.2.below (Below.refl _ V).drew | exact HH.out.2.below (bup (Below.refl _ V).drew (bel1 V.drew _)) | exact HH.out.2.below (bel1 V _).drew)) ?_); rintro e w1 ⟨rfl, b1⟩; (first
          | (have b1 := Below.drew_of b1; have K1 := hideC (HH.out.1.keep b1))
          | (have F1 : Hid (Two w1 V.heap.size (.int .i64 0) (.int .i64 0)) := hideC ((Two.new V.drew (.int .i64 0) (.int .i64 0) 26).keep b1); have ⟨g0, g1, g2, g3⟩ := F1.out.cells; have b1 := bup (bup (Below.refl _ V).drew (bel1 V.drew _)) b1; have K1 := hideC (HH.out.1.keep b1))
          | (have F1 : Hid (Two w1 V.heap.size (.int .i64 0) (.int .i64 0)) := hideC ((Two.new V (.int .i64 0) (.int .i64 0) 26).drew.keep b1); have ⟨g0, g1, g2, g3⟩ := F1.out.cells; have b1 := bup (bel1 V _).drew b1; have K1 := hideC (HH.out.1.keep b1))); have ⟨⟨q0, q1, q2, q3⟩, ⟨y0, y1⟩⟩ := K1.out.facts; have zz1 : w.heap.size + 1 + 1 < w1.heap.size := K1.out.res.1))
    all_goals first | go_wp2_with fail | skip
    all_goals go_meet
    · exact ⟨_, rfl, rfl, K2.out.keep (bel1 _ _), Two.new w2 _ _ _, zz2⟩
    · exact ⟨_, rfl, rfl, K2.out.set (by omega), F2.out.set, zz1⟩
    · exact ⟨_, rfl, rfl, K2.out.set (by omega), F2.out.set, z0⟩
  case rest =>
    obtain ⟨r, rfl, rfl, K, F, hrr⟩ := hcut
    generalize wc = X at *
    have ⟨⟨q0, q1, q2, q3⟩, ⟨y0, y1⟩⟩ := K.facts
    have ⟨f0, f1, f2, f3⟩ := F.cells
    have KF := hideC (And.intro K F)
    clear K F HH p0 p1 p2 p3 p4 p5 x0 x1
    go_wp2_with fail
    refine (time_25 _).mono ?_
    rintro e w3 ⟨rfl, b3⟩
    have KF3 := hideC (And.intro (KF.out.1.keep b3) (KF.out.2.keep b3))
    clear b3 KF q0 q1 q2 q3 y0 y1 f0 f1 f2 f3
    go_wp2_with fail
    refine (or_zero _ _ (cell_two_newA _ _ _ _) (cell_two_newB _ _ _ _)).mono ?_
    rintro e w4 ⟨rfl, b4⟩
    have KF4 := hideC (And.intro (KF3.out.1.keep (bup (bel1 _ _) b4)) (KF3.out.2.keep (bup (bel1 _ _) b4)))
    clear b4 KF3
    have ⟨⟨q0, q1, q2, q3⟩, ⟨y0, y1⟩⟩ := KF4.out.1.facts
    have ⟨f0, f1, f2, f3⟩ := KF4.out.2.cells
    go_wp2_with fail
    refine (most_two _ _ (row_two_new _ _ _ _ _ _)).mono ?_
    rintro e w5 ⟨rfl, b5⟩
    have KF5 := hideC (KF4.out.1.keep (bup (bel1 _ _) b5))
    clear b5 KF4 q0 q1 q2 q3 y0 y1 f0 f1 f2 f3
    have ⟨e0, e1, e2, e3⟩ := KF5.out.res.cells
    have zz5 : w.heap.size + 1 + 1 < w5.heap.size := KF5.out.res.1
    go_wp2_with fail
    have ⟨t0, t1, _⟩ := ((KF5.out.res.set (x2 := .int .i64 2) (y2 := .int .i64 5)).alloc (.cells #[.int .i64 2, .int .i64 5] 26)).cells
    exact bodyPost_ret (v := .tuple #[.agg #[.int .i64 2, .int .i64 5], .int .i64 0]) (by simp [results, Tryz.results30, go_sem, t0, t1]) rfl ⟨rfl, bup ((KF5.out.below.setCell (by simp; omega) _).setCell (by simp; omega) _) (bel1 _ _)⟩

set_option maxRecDepth 100000 in
set_option maxHeartbeats 400000 in
theorem wants_plain (s : ByteArray) (hs : s.size ≤ 4096) (hr : readN (signs s) = 4) (N : Nat) (w : World) (hT : Tabs N w) :
    Calls Tryz.prog 14 #[.agg #[.string s, .slice none 0 0], .agg #[.int .i64 10, .int .i64 1, .int .i64 1, .int .i64 5, .int .i64 0, .int .i64 1]] w fun e w' => e = .returned (.tuple #[.agg #[.int .i64 2, .int .i64 5], .int .i64 0]) ∧ Below w.heap.size w w' := by
  go_enter Tryz.func14, Tryz.ntmps14
  go_wp2_with fail
  have BB : Below w.heap.size w (((w.alloc (.cells #[.string s, .slice none 0 0] 52)).alloc (.cells #[.int .i64 10, .int .i64 1, .int .i64 1, .int .i64 5, .int .i64 0, .int .i64 1] 37)).alloc (.cells #[.int .i64 0, .int .i64 0] 26)) := ((bel1 w _).trans ((bel1 _ _).mono (by simp))).trans ((bel1 _ _).mono (by simp; omega))
  have X0 : TxtP (((w.alloc (.cells #[.string s, .slice none 0 0] 52)).alloc (.cells #[.int .i64 10, .int .i64 1, .int .i64 1, .int .i64 5, .int .i64 0, .int .i64 1] 37)).alloc (.cells #[.int .i64 0, .int .i64 0] 26)) w.heap.size s := (((show TxtP _ w.heap.size s from World.alloc_heap_new w _).keep (bel1 _ _))).keep (bel1 _ _)
  have P0 : SixR (((w.alloc (.cells #[.string s, .slice none 0 0] 52)).alloc (.cells #[.int .i64 10, .int .i64 1, .int .i64 1, .int .i64 5, .int .i64 0, .int .i64 1] 37)).alloc (.cells #[.int .i64 0, .int .i64 0] 26)) (w.heap.size + 1) 37 := by
    have : SixR ((w.alloc (.cells #[.string s, .slice none 0 0] 52)).alloc (.cells #[.int .i64 10, .int .i64 1, .int .i64 1, .int .i64 5, .int .i64 0, .int .i64 1] 37)) (w.heap.size + 1) 37 := by
      have := World.alloc_heap_new (w.alloc (.cells #[.string s, .slice none 0 0] 52)) (.cells #[.int .i64 10, .int .i64 1, .int .i64 1, .int .i64 5, .int .i64 0, .int .i64 1] 37)
      rwa [World.size_alloc] at this
    exact this.keep (bel1 _ _)
  have R0 : Two (((w.alloc (.cells #[.string s, .slice none 0 0] 52)).alloc (.cells #[.int .i64 10, .int .i64 1, .int .i64 1, .int .i64 5, .int .i64 0, .int .i64 1] 37)).alloc (.cells #[.int .i64 0, .int .i64 0] 26)) (w.heap.size + 1 + 1) (.int .i64 0) (.int .i64 0) := by
    have := Two.new ((w.alloc (.cells #[.string s, .slice none 0 0] 52)).alloc (.cells #[.int .i64 10, .int .i64 1, .int .i64 1, .int .i64 5, .int .i64 0, .int .i64 1] 37)) (.int .i64 0) (.int .i64 0) 26
    simpa only [World.size_alloc] using this
  generalize (((w.alloc (.cells #[.string s, .slice none 0 0] 52)).alloc (.cells #[.int .i64 10, .int .i64 1, .int .i64 1, .int .i64 5, .int .i64 0, .int .i64 1] 37)).alloc (.cells #[.int .i64 0, .int .i64 0] 26)) = V at *
  have HH := hideC (And.intro BB (And.intro X0 (And.intro P0 R0)))
  clear BB X0 P0 R0
  refine (checkText_plain s hs _).mono ?_
  rintro e w1 ⟨rfl, b1⟩
  have H1 := hideC (And.intro (bup HH.out.1 b1) (And.intro (HH.out.2.1.keep b1) (And.intro (HH.out.2.2.1.keep b1) (HH.out.2.2.2.keep b1))))
  clear HH b1
  have ⟨x0, x1⟩ := H1.out.2.1.cells
  have ⟨p0, p1, p2, p3, p4, p5⟩ := H1.out.2.2.1.cells
  have ⟨r0, r1, r2, r3⟩ := H1.out.2.2.2.cells
  go_wp2_with fail
  refine (rulesRight _).mono ?_
  rintro e w2 ⟨rfl, b2⟩
  have H2 := hideC (And.intro (bup H1.out.1 b2) (And.intro (H1.out.2.1.keep b2) (And.intro (H1.out.2.2.1.keep b2) (H1.out.2.2.2.keep b2))))
  clear H1 b2 x0 x1 p0 p1 p2 p3 p4 p5 r0 r1 r2 r3
  have ⟨x0, x1⟩ := H2.out.2.1.cells
  have ⟨p0, p1, p2, p3, p4, p5⟩ := H2.out.2.2.1.cells
  have ⟨r0, r1, r2, r3⟩ := H2.out.2.2.2.cells
  go_wp2_with fail
  refine (paceWants s hs hr N _ (hT.below H2.out.1)).mono ?_
  rintro e w3 ⟨rfl, b3⟩
  have H3 := hideC (And.intro (bup H2.out.1 b3) (H2.out.2.2.2.keep b3))
  clear H2 b3 x0 x1 p0 p1 p2 p3 p4 p5 r0 r1 r2 r3
  have ⟨r0, r1, r2, r3⟩ := H3.out.2.cells
  go_wp2_with fail
  have ⟨t0, t1, _⟩ := (H3.out.2.set (x2 := .int .i64 2) (y2 := .int .i64 5)).cells
  exact bodyPost_ret (v := .tuple #[.agg #[.int .i64 2, .int .i64 5], .int .i64 0]) (by simp [results, Tryz.results14, go_sem, t0, t1]) rfl ⟨rfl, (H3.out.1.setCell (by simp; omega) _).setCell (by simp; omega) _⟩

set_option maxHeartbeats 400000 in
theorem whole11 (n : Int) (w : World) : Calls Tryz.prog 15 #[.int .i64 n] w fun e w' => e = .returned (.agg #[.int .i64 n, .int .i64 1]) ∧ Below w.heap.size w w' := by
  go_enter Tryz.func15, Tryz.ntmps15
  go_wp2
  exact bodyPost_ret (v := .agg #[.int .i64 n, .int .i64 1]) (by simp [results, Tryz.results15, go_sem]) rfl ⟨rfl, bel1 _ _⟩
end Go.Proofs.YthhhglfcacoejaaGreatDoor

/- The head of the statements on speed. -/
namespace Go.Proofs.YthhhglfcacoejaaGreatDoor
open Go.RowKit Go.Shelf

/-- The text of the head. -/
def kS : ByteArray := ⟨#[97, 32, 98, 204, 129, 228, 184, 173, 255]⟩
theorem kS_read : readN (signs kS) = 4 := by kernel_rfl
theorem TxtP.lt {w : World} {B : Nat} {s : ByteArray} (h : TxtP w B s) : B < w.heap.size := (Array.getElem?_eq_some_iff.1 h).1

/-- What lies in known(). -/
structure KnW (w : World) (s : ByteArray) (N : Nat) (W : World) : Prop where
  below : Below w.heap.size w W
  txt : TxtP W w.heap.size s
  tabs : Tabs N W
theorem KnW.keep {w W W' : World} {s : ByteArray} {N : Nat} (h : KnW w s N W) (b : Below W.heap.size W W') : KnW w s N W' := ⟨bup h.below b, h.txt.keep b, h.tabs.below b⟩
theorem KnW.set {w W : World} {s : ByteArray} {N r : Nat} {a b : Value} (h : KnW w s N W) (hr : w.heap.size < r) (hN : N ≤ w.heap.size) : KnW w s N ((W.setCell ⟨r, 0, none⟩ a).setCell ⟨r, 1, none⟩ b) :=
  ⟨(h.below.setCell (by simp; omega) _).setCell (by simp; omega) _, h.txt.set (by omega), h.tabs.but (((But.refl (fun k => k = r) W).setCell rfl _).setCell rfl _) (fun k hk => by omega)⟩

set_option maxRecDepth 100000 in
set_option maxHeartbeats 1000000 in
theorem known11 (N : Nat) (w : World) (hT : Tabs N w) :
    Calls Tryz.prog 4 #[] w fun e w' => e = .returned (.bool true) ∧ Below w.heap.size w w' := by
  have hks : kS.size ≤ 4096 := by decide
  have hkr := kS_read
  have hNw : N ≤ w.heap.size := hT.room
  go_enter Tryz.func4, Tryz.ntmps4
  go_wp2_with fail
  rw [show (⟨#[97, 32, 98, 204, 129, 228, 184, 173, 255]⟩ : ByteArray) = kS from rfl]
  have K0 : KnW w kS N (w.alloc (.cells #[.string kS, .slice none 0 0] 52)) := ⟨bel1 w _, World.alloc_heap_new w _, hT.below (bel1 w _)⟩
  generalize kS = s at *
  generalize w.alloc (.cells #[.string s, .slice none 0 0] 52) = V at *
  have z0 : w.heap.size < V.heap.size := K0.txt.lt
  have ⟨y0a, y0b⟩ := K0.txt.cells
  have K0 := hideC K0
  go_cut [2, 3] (fun p e wx => ∃ r, p = .pointer (some ⟨r, 0, none⟩) ∧ e = .int .i64 0 ∧ KnW w s N wx ∧ Two wx r (.int .i64 2) (.int .i64 5))
  case first =>
    go_region_held3 (fun w' => w'.cell? ⟨w.heap.size, 0, none⟩ = some (.string s) ∧ w'.cell? ⟨w.heap.size, 1, none⟩ = some (.slice none 0 0)) (first | go_keep | assumption | exact ⟨cell_two_set (by omega) (by first | assumption | (rw [cell_old_alloc (by simp; omega)]; assumption)), cell_two_set (by omega) (by first | assumption | (rw [cell_old_alloc (by simp; omega)]; assumption))⟩) (first
      | (go_at_call 14; (with_reducible refine Calls.mono (wants_plain s hks hkr N _ (by first | exact (KnW.keep K2.out (Below.refl _ _)).tabs | exact (KnW.keep K2.out (bel1 _ _)).tabs)) ?_); rintro e w3 ⟨rfl, b3⟩; (first | (have F3 := hideC (F2.out.keep b3); have ⟨h3a, h3b, h3c, h3d⟩ := F3.out.cells; have K3 := hideC (KnW.keep K2.out b3)) | (have F3 : Hid (Two w3 w2.heap.size (.int .i64 0) (.int .i64 0)) := hideC ((Two.new w2 (.int .i64 0) (.int .i64 0) 26).keep b3); have ⟨h3a, h3b, h3c, h3d⟩ := F3.out.cells; have b3 := bup (bel1 w2 _) b3; have K3 := hideC (KnW.keep K2.out b3)) | (have K3 := hideC (KnW.keep K2.out b3))); have ⟨y3a, y3b⟩ := K3.out.txt.cells; have zz3 : w.heap.size < w3.heap.size := K3.out.txt.lt)
      | (go_at_call 15; (with_reducible refine Calls.mono (whole11 0 _) ?_); rintro e w2 ⟨rfl, b2⟩; (first | (have F2 := hideC (F1.out.keep b2); have ⟨h2a, h2b, h2c, h2d⟩ := F2.out.cells; have K2 := hideC (KnW.keep K1.out b2)) | (have F2 : Hid (Two w2 w1.heap.size (.int .i64 0) (.int .i64 0)) := hideC ((Two.new w1 (.int .i64 0) (.int .i64 0) 26).keep b2); have ⟨h2a, h2b, h2c, h2d⟩ := F2.out.cells; have b2 := bup (bel1 w1 _) b2; have K2 := hideC (KnW.keep K1.out b2)) | (have K2 := hideC (KnW.keep K1.out b2))); have ⟨y2a, y2b⟩ := K2.out.txt.cells; have zz2 : w.heap.size < w2.heap.size := K2.out.txt.lt)
      | (go_at_call 15; (with_reducible refine Calls.mono (whole11 10 _) ?_); rintro e w1 ⟨rfl, b1⟩; (first | (have b1 := Below.drew_of b1; have K1 := hideC (KnW.keep K0.out b1)) | (have F1 : Hid (Two w1 V.heap.size (.int .i64 0) (.int .i64 0)) := hideC ((Two.new V.drew (.int .i64 0) (.int .i64 0) 26).keep b1); have ⟨g0, g1, g2, g3⟩ := F1.out.cells; have b1 := bup (bup (Below.refl _ V).drew (bel1 V.drew _)) b1; have K1 := hideC (KnW.keep K0.out b1)) | (have F1 : Hid (Two w1 V.heap.size (.int .i64 0) (.int .i64 0)) := hideC ((Two.new V (.int .i64 0) (.int .i64 0) 26).drew.keep b1); have ⟨g0, g1, g2, g3⟩ := F1.out.cells; have b1 := bup (bel1 V _).drew b1; have K1 := hideC (KnW.keep K0.out b1))); have ⟨y1a, y1b⟩ := K1.out.txt.cells; have zz1 : w.heap.size < w1.heap.size := K1.out.txt.lt))
    all_goals first | go_wp2_with fail | skip
    all_goals go_meet
    · exact ⟨_, rfl, rfl, K3.out.keep (bel1 _ _), Two.new w3 _ _ _⟩
    all_goals exact ⟨_, rfl, rfl, K3.out.set (by omega) hNw, F3.out.set⟩
  case rest =>
    obtain ⟨r, rfl, rfl, K, F⟩ := hcut
    generalize wc = X at *
    have ⟨y0, y1⟩ := K.txt.cells
    have ⟨f0, f1, f2, f3⟩ := F.cells
    have KF := hideC (And.intro K F)
    clear K F K0 y0a y0b
    go_wp2_with fail
    refine (scount_4 s hks hkr N _ KF.out.1.tabs).mono ?_
    rintro e w1 ⟨rfl, b1⟩
    have H1 := hideC (KF.out.1.keep b1)
    have ⟨g0, g1, g2, g3⟩ := (KF.out.2.keep b1).cells
    clear b1 KF y0 y1 f0 f1 f2 f3
    go_wp2
    go_ret
    exact ⟨rfl, H1.out.below⟩

end Go.Proofs.YthhhglfcacoejaaGreatDoor
