/- Several texts, one behind the other. -/
import Derived.Maps.AppendAt
import Derived.Test.YteignefcijmmeaaDoorCloneW
import Derived.Test.YteignefcijmmeaaDoorGS
import Derived.Test.YteignefcijmmeaaDoorW4
/- The contract of the document's own Signs (surtitleref1): the signs of a text, as a list. -/
namespace Go.Proofs.YteignefcijmmeaaDoor
open Go.RowKit

/-- Signs as the cells of the document's list. -/
def flatR (l : List Sg) : List Value := l.flatMap fun x => [.int .i64 x.loc, .int .i64 x.len, .int .i64 x.rune, .bool x.bad]
theorem flatR_snoc (l : List Sg) (x : Sg) : flatR (l ++ [x]) = flatR l ++ [.int .i64 x.loc, .int .i64 x.len, .int .i64 x.rune, .bool x.bad] := by simp [flatR]
theorem infoRSign : (Tryd.prog.info? 141).map (fun i => (i.zero, i.size, i.bytes)) = some (some (.agg #[.int .i64 0, .int .i64 0, .int .i64 0, .bool false]), 4, 32) := by kernel_rfl
theorem info_parts2 {t : TypeId} {z : Value} {n b : Nat} (h : (Tryd.prog.info? t).map (fun i => (i.zero, i.size, i.bytes)) = some (some z, n, b)) : ∃ i, Tryd.prog.info? t = some i ∧ i.zero = some z ∧ i.size = n ∧ i.bytes = b := by
  cases hi : Tryd.prog.info? t with
  | none => rw [hi] at h; cases h
  | some i => rw [hi] at h; simp at h; exact ⟨i, rfl, h⟩
theorem cell_four2 (w : World) (a b c d : Value) (t : TypeId) : ∀ j u, [a, b, c, d][j]? = some u → (w.alloc (.cells #[a, b, c, d] t)).cell? ((⟨w.heap.size, 0, none⟩ : Addr).add j) = some u := by
  intro j u hj
  match j, hj with
  | 0, hj => simp at hj; subst hj; simp [Addr.add]
  | 1, hj => simp at hj; subst hj; simp [Addr.add]
  | 2, hj => simp at hj; subst hj; simp [Addr.add]
  | 3, hj => simp at hj; subst hj; simp [Addr.add]
  | j + 4, hj => simp at hj
/-- The document's sign at a place is the program's. -/
theorem one_val (s : ByteArray) (p : Nat) (hp : p < s.size) : (oneR s p).val p = .agg #[.int .i64 (sgn s p).loc, .int .i64 (sgn s p).len, .int .i64 (sgn s p).rune, .bool (sgn s p).bad] := by
  obtain ⟨a, b, c, d, _, _⟩ := sgn_dec s p hp
  rw [one_dec s p hp, a, b, c, d]
  cases h : badAt s p
  · rfl
  · have := (sgn_bad s p h).2.2.2.2.2
    rw [this]
    rfl
theorem bytes_row (w : World) (s : ByteArray) (cap : Nat) (t : TypeId) (k : Nat × Nat) : BytesAt (w.drew.alloc (.cells (bytesRow s cap) t k)) w.heap.size s := by
  intro j hj
  have h1 := World.alloc_heap_new w.drew (.cells (bytesRow s cap) t k)
  have e : (bytesRow s cap)[j]? = some (.int .u8 s[j].toNat) := by
    unfold bytesRow
    rw [Array.getElem?_append_left (by simpa using hj)]
    simp [ByteArray.getElem_eq_getElem_data]
    exact ⟨s.data[j]'hj, Array.getElem?_eq_getElem hj, rfl⟩
  show World.cell? (w.drew.alloc _) ⟨w.drew.heap.size, j, none⟩ = _
  simp only [World.cell?, h1]
  exact e
theorem BytesAt.below {w w' : World} {B : Nat} {s : ByteArray} {n : Nat} (h : BytesAt w B s) (hb : Below n w w') (hB : B < n) : BytesAt w' B s := fun k hk => (hb.cell (p := ⟨B, k, none⟩) hB).trans (h k hk)
theorem BytesAt.grown {w w' : World} {B : Nat} {s : ByteArray} {row : Option Nat} (h : BytesAt w B s) (hg : w.grownBy w' row) (hB : B < w.heap.size) (hr : row ≠ some B) : BytesAt w' B s := fun k hk => (World.cell?_of_block (hg.block B hB (fun e => hr e.symm))).trans (h k hk)

theorem row_below {A B : World} {base e size k : Nat} {v : Value} {xs : List Value} (h : A.ownsRow base e size v k xs) (hb : Below A.heap.size A B) : B.ownsRow base e size v k xs := by
  refine ⟨h.1, ?_⟩
  rcases h.2 with hn | ⟨g, cap, cur, rfl, hg, hgg, rest⟩
  · exact .inl hn
  · exact .inr ⟨g, cap, cur, rfl, hg, (hb.block g (Array.getElem?_eq_some_iff.1 hgg).1).trans hgg, rest⟩
theorem row_low {A : World} {m base e size k : Nat} {v : Value} {xs : List Value} (h : A.ownsRow base e size v k xs) (hm : m ≤ base) : A.ownsRow m e size v k xs := by
  refine ⟨h.1, ?_⟩
  rcases h.2 with hn | ⟨g, cap, cur, rfl, hb, rest⟩
  · exact .inl hn
  · exact .inr ⟨g, cap, cur, rfl, by omega, rest⟩

set_option maxRecDepth 100000 in
set_option maxHeartbeats 4000000 in
theorem rsigns_any (s : ByteArray) (hs : s.size ≤ 1048576) (w : World) :
    Calls Tryd.prog 73 #[.string s] w fun e w' => ∃ v, e = .returned v ∧ w'.ownsRow w.heap.size 141 4 v (signs s).length (flatR (signs s)) ∧ Below w.heap.size w w' := by
  obtain ⟨i0, hi, hz0, hz1, hz2⟩ := info_parts2 infoRSign
  have hcv := run_bytes_of_string (P := Tryd.prog) w 9 147 5 s Tryd.underlying9 Tryd.underlying147 Tryd.underlying5
  have hby := bytes_row w s (grownCap w s.size 0 5) 5 ((bytesRow s (grownCap w s.size 0 5)).size, (bytesRow s (grownCap w s.size 0 5)).size + 1)
  have hB0 := ((Below.refl w.heap.size w).drew).alloc (Nat.le_refl _) (.cells (bytesRow s (grownCap w s.size 0 5)) 5 ((bytesRow s (grownCap w s.size 0 5)).size, (bytesRow s (grownCap w s.size 0 5)).size + 1))
  have hz3 : w.heap.size + 1 ≤ (w.drew.alloc (.cells (bytesRow s (grownCap w s.size 0 5)) 5 ((bytesRow s (grownCap w s.size 0 5)).size, (bytesRow s (grownCap w s.size 0 5)).size + 1))).heap.size := by rw [World.size_alloc]; exact Nat.le_refl _
  generalize w.drew.alloc (.cells (bytesRow s (grownCap w s.size 0 5)) 5 ((bytesRow s (grownCap w s.size 0 5)).size, (bytesRow s (grownCap w s.size 0 5)).size + 1)) = W1 at *
  generalize grownCap w s.size 0 5 = cap at *
  have HBY := hideO hby
  clear hby
  go_enter Tryd.func73, Tryd.ntmps73
  go_wp2
  clear hcv
  go_loopw [4, 5, 6] (fun v i _ wr => ∃ (pre : List Sg) (pos : Nat), i = .int .i64 pos ∧ Hid (BytesAt wr w.heap.size s) ∧ Hid (Lies s 0 pre pos) ∧ pos ≤ s.size ∧ pre.length ≤ pos ∧ wr.ownsRow (w.heap.size + 1) 141 4 v pre.length (flatR pre) ∧ Below w.heap.size w wr ∧ w.heap.size + 1 ≤ wr.heap.size) (fun _ i _ _ => s.size - (intOf i).toNat)
  case atStart => exact ⟨[], 0, rfl, HBY, hideO rfl, by omega, by simp, World.ownsRow_nil _ _ _ _, hB0, hz3⟩
  case round =>
    obtain ⟨pre, pos, rfl, HB, HL, hps, hlen, hown, hB, hz⟩ := hrel
    clear HBY hB0 hz3
    by_cases hp : pos < s.size
    · have ho := one_val s pos hp
      obtain ⟨d1, d2, d3, d4, d5, d6⟩ := sgn_dec s pos hp
      have HL2 : Hid (Lies s 0 (pre ++ [sgn s pos]) (pos + (sgn s pos).len)) := lies_append HL.out ⟨hp, rfl, rfl⟩
      have hl1 : 1 ≤ (sgn s pos).len := by omega
      have hl2 : pos + (sgn s pos).len ≤ s.size := by omega
      clear d1 d2 d3 d4 d5 d6
      generalize sgn s pos = x at *
      go_wp2_with (first
        | (go_at_call 92; refine (one_any wr w.heap.size cap s pos hp hs HB.out).mono ?_; rintro e w2 ⟨rfl, hb2⟩; rw [ho]; have HB2 := hideO (HB.out.below hb2 (by omega)); have hown2 := row_below hown hb2; have hB2 := hB.trans (hb2.mono hB.size); have hzw := hb2.size; clear hb2)
        | (at_builtin; refine wpList_append_own _ rfl _ _ 138 rfl (w.heap.size + 1) 141 i0 (.agg #[.int .i64 0, .int .i64 0, .int .i64 0, .bool false]) 4 32 Tryd.underlying138 hi hz0 hz1 hz2 rfl (by decide) _ _ _ rfl ((hown2.alloc _).alloc _) ⟨w2.heap.size + 1, 0, none⟩ 1 1 [.int .i64 x.loc, .int .i64 x.len, .int .i64 x.rune, .bool x.bad] rfl rfl (by have := cell_four2 (w2.alloc (.cells #[.int .i64 x.loc, .int .i64 x.len, .int .i64 x.rune, .bool x.bad] 141)) (.int .i64 x.loc) (.int .i64 x.len) (.int .i64 x.rune) (.bool x.bad) 141; rwa [World.size_alloc] at this) (fun u hu => by simp at hu; rcases hu with rfl | rfl | rfl | rfl <;> rfl) (by unfold maxLen; omega) (by omega) (by simp; omega) ?_; intro v' w3 hown' hgrow _; have x0 : w3.cell? ⟨w2.heap.size, 1, none⟩ = some (.int .i64 x.len) := (World.cell?_of_block (hgrow.block w2.heap.size (by simp; omega) (fun e => by have := (hown2.lt _ e.symm).2; omega))).trans (by simp)))
      have hB3 := Below.grown ((hB2.alloc hB2.size (.cells #[.int .i64 x.loc, .int .i64 x.len, .int .i64 x.rune, .bool x.bad] 141)).alloc (by simp; omega) (.cells #[.int .i64 x.loc, .int .i64 x.len, .int .i64 x.rune, .bool x.bad] 141)) hgrow (by simp; omega) (fun j hj => by have := (hown2.lt j hj).1; omega)
      have HB3 := hideO (((HB2.out.alloc (by omega) (.cells #[.int .i64 x.loc, .int .i64 x.len, .int .i64 x.rune, .bool x.bad] 141)).alloc (by simp; omega) (.cells #[.int .i64 x.loc, .int .i64 x.len, .int .i64 x.rune, .bool x.bad] 141)).grown hgrow (by simp; omega) (fun e => by have := (hown2.lt _ e).1; omega))
      have hz3 := hgrow.size
      simp only [World.size_alloc] at hz3
      go_roundw
      case rel => exact ⟨pre ++ [x], pos + x.len, by go_num, HB3, HL2, hl2, by simp; omega, by rw [List.length_append, flatR_snoc]; exact hown', hB3, by omega⟩
      case measure => simp [intOf]; omega
    · go_wp2
      go_ret
      have e := lies_uniq (s := s) HL.out (by have := signs_lies s; rwa [show s.size = pos by omega] at this)
      rw [← e]
      exact ⟨_, rfl, row_low hown (by omega), hB⟩
end Go.Proofs.YteignefcijmmeaaDoor

/- Contracts of the document's own units, size, unit, Count, Pairs and Place (surtitleref1). -/
namespace Go.Proofs.YteignefcijmmeaaDoor
open Go.RowKit

set_option maxHeartbeats 400000 in
theorem runits_any (a b r : Int) (c : Bool) (w : World) : Calls Tryd.prog 100 #[.agg #[.int .i64 a, .int .i64 b, .int .i64 r, .bool c]] w fun e w' => e = .returned (.int .i64 (pairsI r)) ∧ Below w.heap.size w w' := by
  by_cases h : 65536 ≤ r
  · rw [show pairsI r = 2 from if_pos h]
    go_enter Tryd.func100, Tryd.ntmps100
    go_wp2
    go_ret
    exact ⟨rfl, (Below.refl _ w).alloc (Nat.le_refl _) _⟩
  · rw [show pairsI r = 1 from if_neg h]
    go_enter Tryd.func100, Tryd.ntmps100
    go_wp2
    go_ret
    exact ⟨rfl, (Below.refl _ w).alloc (Nat.le_refl _) _⟩

/-- How many of a unit a sign has. -/
def sizeU (u : Int) (x : Sg) : Int := if u = 1 then x.len else if u = 3 then pairsI x.rune else 1
theorem step_get (p : Spot) (x : Sg) (u : Int) (hu : u = 1 ∨ u = 2 ∨ u = 3) : (p.step x).get u = p.get u + sizeU u x := by
  rcases hu with rfl | rfl | rfl <;> rfl
theorem sizeU_bd (u : Int) (x : Sg) : 0 ≤ sizeU u x ∧ sizeU u x ≤ 4 := by
  have := x.small
  have := pairsI_bd x.rune
  unfold sizeU
  repeat' split
  all_goals omega

set_option maxHeartbeats 400000 in
theorem rsize_any (x : Sg) (u : Int) (hu : u = 1 ∨ u = 2 ∨ u = 3) (w : World) : Calls Tryd.prog 81 #[.agg #[.int .i64 x.loc, .int .i64 x.len, .int .i64 x.rune, .bool x.bad], .int .i64 u] w fun e w' => e = .returned (.int .i64 (sizeU u x)) ∧ Below w.heap.size w w' := by
  rcases hu with rfl | rfl | rfl
  · rw [show sizeU 1 x = x.len from rfl]
    go_enter Tryd.func81, Tryd.ntmps81
    go_wp2
    go_ret
    exact ⟨rfl, (Below.refl _ w).alloc (Nat.le_refl _) _⟩
  · rw [show sizeU 2 x = 1 from rfl]
    go_enter Tryd.func81, Tryd.ntmps81
    go_wp2
    go_ret
    exact ⟨rfl, (Below.refl _ w).alloc (Nat.le_refl _) _⟩
  · rw [show sizeU 3 x = pairsI x.rune from rfl]
    go_enter Tryd.func81, Tryd.ntmps81
    go_wp2_with (go_at_call 100; refine (runits_any _ _ _ _ _).mono ?_; rintro e w2 ⟨rfl, hb2⟩)
    go_ret
    exact ⟨rfl, ((Below.refl _ w).alloc (Nat.le_refl _) _).trans (hb2.mono (by simp))⟩

set_option maxHeartbeats 400000 in
theorem runit_yes (u : Int) (w : World) (h : u = 1 ∨ u = 2 ∨ u = 3) : Calls Tryd.prog 59 #[.int .i64 u] w fun e w' => e = .returned (.bool true) ∧ w' = w := by
  rcases h with rfl | rfl | rfl
  all_goals
    go_enter Tryd.func59, Tryd.ntmps59
    go_wp2
    go_ret
    exact ⟨rfl, rfl⟩
set_option maxHeartbeats 400000 in
theorem runit_no (u : Int) (w : World) (h : ¬ (u = 1 ∨ u = 2 ∨ u = 3)) : Calls Tryd.prog 59 #[.int .i64 u] w fun e w' => e = .returned (.bool false) ∧ w' = w := by
  have h1 : (u == 1) = false := beq_eq_false_iff_ne.2 (by omega)
  have h2 : (u == 2) = false := beq_eq_false_iff_ne.2 (by omega)
  have h3 : (u == 3) = false := beq_eq_false_iff_ne.2 (by omega)
  go_enter Tryd.func59, Tryd.ntmps59
  go_wp2
  go_ret
  exact ⟨rfl, rfl⟩

theorem flatR_get : ∀ (l : List Sg) (n : Nat) (h : n < l.length), (flatR l)[n * 4]? = some (.int .i64 l[n].loc) ∧ (flatR l)[n * 4 + 1]? = some (.int .i64 l[n].len) ∧ (flatR l)[n * 4 + 2]? = some (.int .i64 l[n].rune) ∧ (flatR l)[n * 4 + 3]? = some (.bool l[n].bad)
  | [], _, h => by simp at h
  | x :: r, 0, _ => by simp [flatR]
  | x :: r, n + 1, h => by
    have := flatR_get r n (by simpa using h)
    have e : flatR (x :: r) = .int .i64 x.loc :: .int .i64 x.len :: .int .i64 x.rune :: .bool x.bad :: flatR r := by simp [flatR]
    rw [e, show (n + 1) * 4 = n * 4 + 1 + 1 + 1 + 1 by omega]
    simpa using this
/-- The four cells of a sign of a list. -/
def RAt (W : World) (g n : Nat) (x : Sg) : Prop := W.cell? ⟨g, n * 4, none⟩ = some (.int .i64 x.loc) ∧ W.cell? ⟨g, n * 4 + 1, none⟩ = some (.int .i64 x.len) ∧ W.cell? ⟨g, n * 4 + 2, none⟩ = some (.int .i64 x.rune) ∧ W.cell? ⟨g, n * 4 + 3, none⟩ = some (.bool x.bad)
theorem RAt.below {W W' : World} {g n m : Nat} {x : Sg} (h : RAt W g n x) (hb : Below m W W') (hg : g < m) : RAt W' g n x :=
  ⟨(hb.cell (p := ⟨g, n * 4, none⟩) hg).trans h.1, (hb.cell (p := ⟨g, n * 4 + 1, none⟩) hg).trans h.2.1, (hb.cell (p := ⟨g, n * 4 + 2, none⟩) hg).trans h.2.2.1, (hb.cell (p := ⟨g, n * 4 + 3, none⟩) hg).trans h.2.2.2⟩
theorem rows_at {W : World} {base e : Nat} {v : Value} {l : List Sg} (h : W.ownsRow base e 4 v l.length (flatR l)) :
    ∃ oa cap, v = .slice oa l.length cap ∧ ∀ n (hn : n < l.length), ∃ g, oa = some ⟨g, 0, none⟩ ∧ g < W.heap.size ∧ base ≤ g ∧ RAt W g n l[n] := by
  obtain ⟨h1, ⟨rfl, h0⟩ | ⟨g, cap, cur, rfl, hg, hh, hn, hcap, hsz, htake⟩⟩ := h
  · exact ⟨none, 0, by rw [h0], fun n hn => by omega⟩
  · refine ⟨some ⟨g, 0, none⟩, cap, rfl, fun n hn => ⟨g, rfl, (Array.getElem?_eq_some_iff.1 hh).1, hg, ?_⟩⟩
    obtain ⟨f0, f1, f2, f3⟩ := flatR_get l n hn
    rw [← htake, List.getElem?_take, if_pos (by omega), Array.getElem?_toList] at f0 f1 f2 f3
    exact ⟨by simpa [World.cell?, hh] using f0, by simpa [World.cell?, hh] using f1, by simpa [World.cell?, hh] using f2, by simpa [World.cell?, hh] using f3⟩

/-- The places from the k-th sign on. -/
def restS (s : ByteArray) (k : Nat) : List Spot := spotsF (spotAt s k) ((signs s).drop k)
theorem restS_zero (s : ByteArray) : restS s 0 = spotsL s := by rw [spots_eq]; rfl
theorem spotAt_succ (s : ByteArray) (k : Nat) (hk : k < (signs s).length) : spotAt s (k + 1) = (spotAt s k).step (signs s)[k] := by
  unfold spotAt
  rw [List.take_succ_eq_append_getElem hk, stepsF_snoc]
theorem restS_cons (s : ByteArray) (k : Nat) (hk : k < (signs s).length) : restS s k = spotAt s k :: restS s (k + 1) := by
  unfold restS
  rw [List.drop_eq_getElem_cons hk, spotsF, spotAt_succ s k hk]
theorem restS_head (s : ByteArray) (k : Nat) : ∃ r, restS s k = spotAt s k :: r := by
  unfold restS
  cases (signs s).drop k with
  | nil => exact ⟨[], rfl⟩
  | cons x r => exact ⟨_, rfl⟩
theorem restS_end (s : ByteArray) : restS s (signs s).length = [spotAt s (signs s).length] := by
  unfold restS
  rw [List.drop_length]
  rfl
theorem spotAt_bd (s : ByteArray) (k : Nat) (u : Int) : 0 ≤ (spotAt s k).get u ∧ (spotAt s k).get u ≤ 4 * s.size := by
  refine ⟨first_least s u (spotAt_mem s k), ?_⟩
  have h1 := last_most s u (spotAt_mem s k)
  have h2 := trail_bd (signs s)
  have h3 : (signs s).length ≤ s.size := sgns_length s _ _
  rw [trail_end] at h2
  have h4 : (lastS s).get u ≤ 4 * s.size := by
    have h5 : lastS s = stepsF ⟨0, 0, 0⟩ (signs s) := rfl
    rw [← h5] at h2
    unfold Spot.get
    repeat' split
    all_goals omega
  omega

set_option maxRecDepth 100000 in
set_option maxHeartbeats 2000000 in
theorem rplace_any (s : ByteArray) (hs : s.size ≤ 1048576) (loc u v : Int) (hu : u = 1 ∨ u = 2 ∨ u = 3) (hv : v = 1 ∨ v = 2 ∨ v = 3) (w : World) :
    Calls Tryd.prog 61 #[.string s, .int .i64 loc, .int .i64 u, .int .i64 v] w fun e w' => e = .returned (.tuple #[.int .i64 ((findS s u loc).1.get v), .int .i64 (findS s u loc).2]) ∧ Below w.heap.size w w' := by
  by_cases hneg : loc < 0
  · have hz : zeroSpot.get v = 0 := by rcases hv with rfl | rfl | rfl <;> rfl
    rw [show findS s u loc = (zeroSpot, 1) from if_pos hneg, hz]
    go_enter Tryd.func61, Tryd.ntmps61
    go_wp2_with fail
    refine (runit_yes u _ hu).mono ?_
    rintro e w' ⟨rfl, rfl⟩
    go_wp2_with fail
    refine (runit_yes v _ hv).mono ?_
    rintro e w' ⟨rfl, rfl⟩
    go_wp2
    go_ret2
    exact ⟨rfl, Below.refl _ _⟩
  · have FS : findS s u loc = findL u loc (restS s 0) := by rw [restS_zero]; exact if_neg hneg
    have hdn : decide (loc < 0) = false := decide_eq_false hneg
    rw [FS]
    clear FS
    go_enter Tryd.func61, Tryd.ntmps61
    go_wp2_with fail
    refine (runit_yes u _ hu).mono ?_
    rintro e w' ⟨rfl, rfl⟩
    go_wp2_with fail
    refine (runit_yes v _ hv).mono ?_
    rintro e w' ⟨rfl, rfl⟩
    go_wp2_with fail
    refine (rsigns_any s hs _).mono ?_
    rintro e w1 ⟨lv, rfl, hown, hB1⟩
    obtain ⟨oa, cap, rfl, hcell⟩ := rows_at hown
    have HC := hideO hcell
    have hln : (signs s).length ≤ 1048576 := Nat.le_trans (sgns_length s _ _) hs
    clear hcell hown
    go_wp2
    go_loopw [11, 12, 13] (fun h t i wr => ∃ k : Nat, i = .int .i64 k ∧ k ≤ (signs s).length ∧ h = .int .i64 ((spotAt s k).get u) ∧ t = .int .i64 ((spotAt s k).get v) ∧ ¬ loc < (spotAt s k).get u ∧ Hid (findL u loc (restS s 0) = findL u loc (restS s k)) ∧ Below w'.heap.size w' wr ∧ Below w1.heap.size w1 wr) (fun _ _ i _ => (signs s).length - (intOf i).toNat)
    case atStart => exact ⟨0, rfl, by omega, by rcases hu with rfl | rfl | rfl <;> rfl, by rcases hv with rfl | rfl | rfl <;> rfl, by rcases hu with rfl | rfl | rfl <;> exact (show ¬ loc < 0 by omega), hideO rfl, hB1, Below.refl _ _⟩
    case round =>
      obtain ⟨k, rfl, hk, rfl, rfl, hle, HF, hB, hBw⟩ := hrel
      have hb1 := spotAt_bd s k u
      have hb2 := spotAt_bd s k v
      by_cases hkl : k < (signs s).length
      · by_cases he : (spotAt s k).get u = loc
        · have HR : Hid (findL u loc (restS s 0) = (spotAt s k, 0)) := by
            show _ = _
            rw [HF.out, restS_cons s k hkl, findL, if_pos he]
          have te : ((spotAt s k).get u == loc) = true := beq_iff_eq.2 he
          clear HF
          generalize (spotAt s k).get u = hh at *
          go_wp2
          go_ret2
          exact ⟨by rw [HR.out]; rfl, hB⟩
        · have te : ((spotAt s k).get u == loc) = false := beq_eq_false_iff_ne.2 he
          have HR : Hid (findL u loc (restS s 0) = findL u loc (restS s (k + 1))) := by
            show _ = _
            rw [HF.out, restS_cons s k hkl, findL, if_neg he, if_neg hle]
          have hs1 := spotAt_succ s k hkl
          have hg1 : (spotAt s (k + 1)).get u = (spotAt s k).get u + sizeU u (signs s)[k] := by rw [hs1, step_get _ _ u hu]
          have hg2 : (spotAt s (k + 1)).get v = (spotAt s k).get v + sizeU v (signs s)[k] := by rw [hs1, step_get _ _ v hv]
          have hb3 := spotAt_bd s (k + 1) u
          have hb4 := spotAt_bd s (k + 1) v
          obtain ⟨g, rfl, hgz, _, hcells⟩ := HC.out k hkl
          have hx := hcells.below hBw hgz
          have HX := hideO hx
          obtain ⟨c0, c1, c2, c3⟩ := hx
          clear HF hcells hs1
          rw [hg1] at hb3
          rw [hg2] at hb4
          have hq1 := sizeU_bd u (signs s)[k]
          have hq2 := sizeU_bd v (signs s)[k]
          have hsx : ∀ z, (z = 1 ∨ z = 2 ∨ z = 3) → ∀ W, Calls Tryd.prog 81 #[.agg #[.int .i64 (signs s)[k].loc, .int .i64 (signs s)[k].len, .int .i64 (signs s)[k].rune, .bool (signs s)[k].bad], .int .i64 z] W fun e w' => e = .returned (.int .i64 (sizeU z (signs s)[k])) ∧ Below W.heap.size W w' := fun z hz W => rsize_any _ z hz W
          have HSX := hideO hsx
          clear hsx
          generalize (signs s)[k] = x at *
          generalize (spotAt s k).get u = p at *
          generalize (spotAt s k).get v = q at *
          generalize hye : sizeU u x = y at *
          generalize hze : sizeU v x = z at *
          have HY := hideO hye
          have HZ := hideO hze
          clear hye hze
          by_cases hgt : loc < p + y
          · have HE : Hid (findL u loc (restS s 0) = (zeroSpot, 21)) := by
              show _ = _
              obtain ⟨r, hr⟩ := restS_head s (k + 1)
              rw [HR.out, hr, findL, if_neg (by omega), if_pos (by omega)]
            have hz : zeroSpot.get v = 0 := by rcases hv with rfl | rfl | rfl <;> rfl
            have HZ0 := hideO hz
            clear HR hg1 hg2 hz
            go_wp2_with fail
            refine (HSX.out u hu _).mono ?_
            rintro e w2 ⟨rfl, hb5⟩
            rw [HY.out]
            obtain ⟨c0, c1, c2, c3⟩ := HX.out.below hb5 (by have := hBw.size; omega)
            have hbw2 := hb5.size
            have hgz2 := hBw.size
            have hX2 := hideO (HX.out.below hb5 (by omega))
            go_wp2_with fail
            refine (HSX.out v hv _).mono ?_
            rintro e w3 ⟨rfl, hb6⟩
            rw [HZ.out]
            go_wp2
            go_ret2
            exact ⟨by rw [HE.out]; dsimp only; rw [HZ0.out]; rfl, hB.trans ((hb5.mono hB.size).trans (hb6.mono (by have := hB.size; omega)))⟩
          · have HG1 := hideO hg1
            have HG2 := hideO hg2
            clear hg1 hg2
            go_wp2_with fail
            refine (HSX.out u hu _).mono ?_
            rintro e w2 ⟨rfl, hb5⟩
            rw [HY.out]
            obtain ⟨c0, c1, c2, c3⟩ := HX.out.below hb5 (by have := hBw.size; omega)
            have hbw2 := hb5.size
            have hgz2 := hBw.size
            go_wp2_with fail
            refine (HSX.out v hv _).mono ?_
            rintro e w3 ⟨rfl, hb6⟩
            rw [HZ.out]
            go_wp2
            go_roundw
            case rel => exact ⟨k + 1, by go_num, by omega, by rw [HG1.out], by rw [HG2.out], by rw [HG1.out]; omega, HR, hB.trans ((hb5.mono hB.size).trans (hb6.mono (by have := hB.size; omega))), hBw.trans ((hb5.mono hBw.size).trans (hb6.mono (by omega)))⟩
            case measure => simp [intOf]; omega
      · obtain rfl : k = (signs s).length := by omega
        by_cases he : (spotAt s (signs s).length).get u = loc
        · have HR : Hid (findL u loc (restS s 0) = (spotAt s (signs s).length, 0)) := by
            show _ = _
            rw [HF.out, restS_end, findL, if_pos he]
          have te : ((spotAt s (signs s).length).get u == loc) = true := beq_iff_eq.2 he
          clear HF
          generalize (spotAt s (signs s).length).get u = hh at *
          go_wp2
          go_ret2
          exact ⟨by rw [HR.out]; rfl, hB⟩
        · have te : ((spotAt s (signs s).length).get u == loc) = false := beq_eq_false_iff_ne.2 he
          have HE : Hid (findL u loc (restS s 0) = (zeroSpot, 1)) := by
            show _ = _
            rw [HF.out, restS_end, findL, if_neg he, if_neg hle, findL]
          have hz : zeroSpot.get v = 0 := by rcases hv with rfl | rfl | rfl <;> rfl
          have HZ0 := hideO hz
          clear HF hz
          generalize (spotAt s (signs s).length).get u = hh at *
          go_wp2
          go_ret2
          exact ⟨by rw [HE.out]; dsimp only; rw [HZ0.out]; rfl, hB⟩
end Go.Proofs.YteignefcijmmeaaDoor

/- The contract of the document's own Cut (surtitleref1) by signs, from one to another. -/
namespace Go.Proofs.YteignefcijmmeaaDoor
open Go.RowKit

set_option maxHeartbeats 400000 in
theorem rcountR (s : ByteArray) (hs : s.size ≤ 1048576) (w : World) :
    Calls Tryd.prog 80 #[.string s] w fun e w' => e = .returned (.int .i64 (signs s).length) ∧ Below w.heap.size w w' := by
  go_enter Tryd.func80, Tryd.ntmps80
  go_wp2_with fail
  refine (rsigns_any s hs _).mono ?_
  rintro e w1 ⟨lv, rfl, hown, hB1⟩
  obtain ⟨oa, cap, rfl, hcell⟩ := rows_at hown
  clear hcell hown
  go_wp2
  go_ret
  exact ⟨rfl, hB1⟩
set_option maxRecDepth 100000 in
set_option maxHeartbeats 400000 in
theorem rallR (s : ByteArray) (hs : s.size ≤ 1048576) (w : World) :
    Calls Tryd.prog 60 #[.string s, .int .i64 2] w fun e w' => e = .returned (.int .i64 (signs s).length) ∧ Below w.heap.size w w' := by
  go_enter Tryd.func60, Tryd.ntmps60
  go_wp2_with fail
  refine (rcountR s hs _).mono ?_
  rintro e w1 ⟨rfl, b1⟩
  go_wp2
  go_ret
  exact ⟨rfl, b1⟩
theorem find_spot (s : ByteArray) (k : Nat) (hk : k ≤ (signs s).length) : findS s 2 (k : Int) = (spotAt s k, 0) := by
  unfold findS
  rw [if_neg (by omega)]
  have h := findL_mem 2 (spots_rise s) (spotAt_mem s k)
  have hc : (spotAt s k).get 2 = (k : Int) := spotAt_c s k hk
  rw [hc] at h
  exact h
set_option maxRecDepth 100000 in
set_option maxHeartbeats 1000000 in
theorem rcutR (s : ByteArray) (hs : s.size ≤ 1048576) (fr tt A B : Nat) (h1 : fr ≤ tt) (h2 : tt ≤ (signs s).length) (hA : (spotAt s fr).b = A) (hB : (spotAt s tt).b = B) (hAB : A ≤ B) (hBs : B ≤ s.size) (w : World) :
    Calls Tryd.prog 36 #[.string s, .int .i64 2, .int .i64 fr, .int .i64 tt] w fun e w' => e = .returned (.tuple #[.string (s.extract A B), .int .i64 0]) ∧ Below w.heap.size w w' := by
  have HA := hideO (fun W => rallR s hs W)
  have HP := hideO (fun W => rplace_any s hs fr 2 1 (.inr (.inl rfl)) (.inl rfl) W)
  have HQ := hideO (fun W => rplace_any s hs tt 2 1 (.inr (.inl rfl)) (.inl rfl) W)
  rw [find_spot s fr (by omega), show ((spotAt s fr, (0 : Int)).1).get 1 = (spotAt s fr).b from rfl, hA] at HP
  rw [find_spot s tt h2, show ((spotAt s tt, (0 : Int)).1).get 1 = (spotAt s tt).b from rfl, hB] at HQ
  have g1 : (fr : Int) ≤ ((signs s).length : Int) := by omega
  have g2 : (tt : Int) ≤ ((signs s).length : Int) := by omega
  have g3 : (fr : Int) ≤ (tt : Int) := by omega
  generalize (signs s).length = n at *
  clear hA hB
  go_enter Tryd.func36, Tryd.ntmps36
  go_wp2_with fail
  refine (runit_yes 2 _ (.inr (.inl rfl))).mono ?_
  rintro e w' ⟨rfl, rfl⟩
  go_wp2_with fail
  refine (HA.out _).mono ?_
  rintro e w1 ⟨rfl, b1⟩
  have s1 := b1.size
  go_wp2_with fail
  refine (HP.out _).mono ?_
  rintro e w2 ⟨rfl, b2⟩
  have s2 := b2.size
  go_wp2_with fail
  refine (HQ.out _).mono ?_
  rintro e w3 ⟨rfl, b3⟩
  go_wp2
  go_ret2
  exact ⟨rfl, (b1.trans (b2.mono s1)).trans (b3.mono (by omega))⟩
end Go.Proofs.YteignefcijmmeaaDoor

/- The contract of utf.Cut by signs, from one to another. -/
namespace Go.Proofs.YteignefcijmmeaaDoor
open Go.RowKit

set_option maxRecDepth 100000 in
set_option maxHeartbeats 1000000 in
theorem cutS_any (s : ByteArray) (hs : s.size ≤ 140737488355328) (fr tt A B : Nat) (h1 : fr ≤ tt) (h2 : tt ≤ (signs s).length) (hA : (spotAt s fr).b = A) (hB : (spotAt s tt).b = B) (hAB : A ≤ B) (hBs : B ≤ s.size) (w : World) :
    Calls Tryd.prog 20 #[.string s, .int .i64 2, .int .i64 (fr : Nat), .int .i64 (tt : Nat)] w fun e w' => e = .returned (.tuple #[.string (s.extract A B), .int .i64 0]) ∧ Below w.heap.size w w' := by
  have HP := hideO (fun W => find_any s hs 2 fr (.inr (.inl rfl)) W)
  have HQ := hideO (fun W => find_any s hs 2 tt (.inr (.inl rfl)) W)
  rw [find_spot s fr (by omega)] at HP
  rw [find_spot s tt h2] at HQ
  obtain ⟨⟨pb, pc, pd⟩, hp⟩ : ∃ p, spotAt s fr = p := ⟨_, rfl⟩
  obtain ⟨⟨qb, qc, qd⟩, hq⟩ : ∃ q, spotAt s tt = q := ⟨_, rfl⟩
  rw [hp] at HP hA
  rw [hq] at HQ hB
  have hA : pb = (A : Int) := hA
  have hB : qb = (B : Int) := hB
  subst hA hB
  clear hp hq
  simp only [Spot.val] at HP HQ
  have hto : ¬ (tt : Int) < (fr : Int) := by omega
  have hsz : (s.extract A B).size ≤ 140737488355328 := by rw [ByteArray.size_extract]; omega
  have HCl := hideO (fun W => clone_any (s.extract A B) W hsz)
  clear hsz
  go_enter Tryd.func20, Tryd.ntmps20
  go_wp2_with fail
  refine (isUnit_yes 2 _ (.inr (.inl rfl))).mono ?_
  rintro e w' ⟨rfl, rfl⟩
  go_wp2_with fail
  refine (HP.out _).mono ?_
  rintro e w1 ⟨rfl, b1⟩
  have s1 := b1.size
  go_wp2_with fail
  refine (HQ.out _).mono ?_
  rintro e w2 ⟨rfl, b2⟩
  have s2 := b2.size
  rw [World.size_alloc] at s2
  have c1 : w2.cell? ⟨w1.heap.size, 1, none⟩ = some (.int .i64 A) := (b2.cell (p := ⟨w1.heap.size, 1, none⟩) (by simp)).trans (by simp)
  have b12 := ((b1.alloc s1 (.cells #[.int .i64 0, .int .i64 A, .int .i64 pc, .int .i64 pd] 89)).trans (b2.mono (by simp; omega))).alloc (by omega) (.cells #[.int .i64 0, .int .i64 B, .int .i64 qc, .int .i64 qd] 89)
  have c2 := (Below.heap_alloc w2 (.cells #[.int .i64 0, .int .i64 B, .int .i64 qc, .int .i64 qd] 89) w1.heap.size (by omega))
  have c3 : (w2.alloc (.cells #[.int .i64 0, .int .i64 B, .int .i64 qc, .int .i64 qd] 89)).cell? ⟨w1.heap.size, 1, none⟩ = some (.int .i64 A) := (World.cell?_of_block c2).trans c1
  clear c2
  have hl1 : (A : Int) ≤ (B : Int) := by omega
  have hl2 : (B : Int) ≤ (s.size : Int) := by omega
  go_wp2_with fail
  refine (HCl.out _).mono ?_
  rintro e w3 ⟨rfl, b3⟩
  go_wp2
  go_ret2
  exact ⟨rfl, b12.trans (b3.mono (by simp; omega))⟩
end Go.Proofs.YteignefcijmmeaaDoor
