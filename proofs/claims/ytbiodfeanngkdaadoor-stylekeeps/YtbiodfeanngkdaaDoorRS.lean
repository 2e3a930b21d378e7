/- Several texts, one behind the other. -/
import Derived.Maps.AppendAt
import Derived.Test.YtbiodfeanngkdaaDoorSpM
/- The contract of the document's own Signs (surtitleref1): the signs of a text, as a list. -/
namespace Go.Proofs.YtbiodfeanngkdaaDoor
open Go.RowKit

/-- Signs as the cells of the document's list. -/
def flatR (l : List Sg) : List Value := l.flatMap fun x => [.int .i64 x.loc, .int .i64 x.len, .int .i64 x.rune, .bool x.bad]
theorem flatR_snoc (l : List Sg) (x : Sg) : flatR (l ++ [x]) = flatR l ++ [.int .i64 x.loc, .int .i64 x.len, .int .i64 x.rune, .bool x.bad] := by simp [flatR]
theorem info_parts2 {t : TypeId} {z : Value} {n b : Nat} (h : (Tryd.prog.info? t).map (fun i => (i.zero, i.size, i.bytes)) = some (some z, n, b)) : ∃ i, Tryd.prog.info? t = some i ∧ i.zero = some z ∧ i.size = n ∧ i.bytes = b := by
  cases hi : Tryd.prog.info? t with
  | none => rw [hi] at h; cases h
  | some i => rw [hi] at h; simp at h; exact ⟨i, rfl, h⟩
theorem cell_four2 (w : World) (a b c d : Value) (t : TypeId) : ∀ j u, [a, b, c, d][j]? = some u → (w.alloc (.cells #[a, b, c, d] t)).cell? ((⟨w.heap.size, 0, none⟩ : Addr).add j) = some u := by
  intro j u hj
  match j, hj with
  | 0, hj => simp at hj; subst hj; simp [Addr.add]
  | 1, hj => simp at hj; subst hj; simp [Addr.add]
  | 2, hj => simp at hj; subst hj; simp [Addr.add]
  | 3, hj => simp at hj; subst hj; simp [Addr.add]
  | j + 4, hj => simp at hj
/-- The document's sign at a place is the program's. -/
theorem one_val (s : ByteArray) (p : Nat) (hp : p < s.size) : (oneR s p).val p = .agg #[.int .i64 (sgn s p).loc, .int .i64 (sgn s p).len, .int .i64 (sgn s p).rune, .bool (sgn s p).bad] := by
  obtain ⟨a, b, c, d, _, _⟩ := sgn_dec s p hp
  rw [one_dec s p hp, a, b, c, d]
  cases h : badAt s p
  · rfl
  · have := (sgn_bad s p h).2.2.2.2.2
    rw [this]
    rfl
theorem bytes_row (w : World) (s : ByteArray) (cap : Nat) (t : TypeId) (k : Nat × Nat) : BytesAt (w.drew.alloc (.cells (bytesRow s cap) t k)) w.heap.size s := by
  intro j hj
  have h1 := World.alloc_heap_new w.drew (.cells (bytesRow s cap) t k)
  have e : (bytesRow s cap)[j]? = some (.int .u8 s[j].toNat) := by
    unfold bytesRow
    rw [Array.getElem?_append_left (by simpa using hj)]
    simp [ByteArray.getElem_eq_getElem_data]
    exact ⟨s.data[j]'hj, Array.getElem?_eq_getElem hj, rfl⟩
  show World.cell? (w.drew.alloc _) ⟨w.drew.heap.size, j, none⟩ = _
  simp only [World.cell?, h1]
  exact e
theorem BytesAt.below {w w' : World} {B : Nat} {s : ByteArray} {n : Nat} (h : BytesAt w B s) (hb : Below n w w') (hB : B < n) : BytesAt w' B s := fun k hk => (hb.cell (p := ⟨B, k, none⟩) hB).trans (h k hk)
theorem BytesAt.grown {w w' : World} {B : Nat} {s : ByteArray} {row : Option Nat} (h : BytesAt w B s) (hg : w.grownBy w' row) (hB : B < w.heap.size) (hr : row ≠ some B) : BytesAt w' B s := fun k hk => (World.cell?_of_block (hg.block B hB (fun e => hr e.symm))).trans (h k hk)

theorem row_below {A B : World} {base e size k : Nat} {v : Value} {xs : List Value} (h : A.ownsRow base e size v k xs) (hb : Below A.heap.size A B) : B.ownsRow base e size v k xs := by
  refine ⟨h.1, ?_⟩
  rcases h.2 with hn | ⟨g, cap, cur, rfl, hg, hgg, rest⟩
  · exact .inl hn
  · exact .inr ⟨g, cap, cur, rfl, hg, (hb.block g (Array.getElem?_eq_some_iff.1 hgg).1).trans hgg, rest⟩
theorem row_low {A : World} {m base e size k : Nat} {v : Value} {xs : List Value} (h : A.ownsRow base e size v k xs) (hm : m ≤ base) : A.ownsRow m e size v k xs := by
  refine ⟨h.1, ?_⟩
  rcases h.2 with hn | ⟨g, cap, cur, rfl, hb, rest⟩
  · exact .inl hn
  · exact .inr ⟨g, cap, cur, rfl, by omega, rest⟩

end Go.Proofs.YtbiodfeanngkdaaDoor

/- Contracts of the document's own units, size, unit, Count, Pairs and Place (surtitleref1). -/
namespace Go.Proofs.YtbiodfeanngkdaaDoor
open Go.RowKit

/-- How many of a unit a sign has. -/
def sizeU (u : Int) (x : Sg) : Int := if u = 1 then x.len else if u = 3 then pairsI x.rune else 1
theorem step_get (p : Spot) (x : Sg) (u : Int) (hu : u = 1 ∨ u = 2 ∨ u = 3) : (p.step x).get u = p.get u + sizeU u x := by
  rcases hu with rfl | rfl | rfl <;> rfl
theorem sizeU_bd (u : Int) (x : Sg) : 0 ≤ sizeU u x ∧ sizeU u x ≤ 4 := by
  have := x.small
  have := pairsI_bd x.rune
  unfold sizeU
  repeat' split
  all_goals omega

theorem flatR_get : ∀ (l : List Sg) (n : Nat) (h : n < l.length), (flatR l)[n * 4]? = some (.int .i64 l[n].loc) ∧ (flatR l)[n * 4 + 1]? = some (.int .i64 l[n].len) ∧ (flatR l)[n * 4 + 2]? = some (.int .i64 l[n].rune) ∧ (flatR l)[n * 4 + 3]? = some (.bool l[n].bad)
  | [], _, h => by simp at h
  | x :: r, 0, _ => by simp [flatR]
  | x :: r, n + 1, h => by
    have := flatR_get r n (by simpa using h)
    have e : flatR (x :: r) = .int .i64 x.loc :: .int .i64 x.len :: .int .i64 x.rune :: .bool x.bad :: flatR r := by simp [flatR]
    rw [e, show (n + 1) * 4 = n * 4 + 1 + 1 + 1 + 1 by omega]
    simpa using this
/-- The four cells of a sign of a list. -/
def RAt (W : World) (g n : Nat) (x : Sg) : Prop := W.cell? ⟨g, n * 4, none⟩ = some (.int .i64 x.loc) ∧ W.cell? ⟨g, n * 4 + 1, none⟩ = some (.int .i64 x.len) ∧ W.cell? ⟨g, n * 4 + 2, none⟩ = some (.int .i64 x.rune) ∧ W.cell? ⟨g, n * 4 + 3, none⟩ = some (.bool x.bad)
theorem RAt.below {W W' : World} {g n m : Nat} {x : Sg} (h : RAt W g n x) (hb : Below m W W') (hg : g < m) : RAt W' g n x :=
  ⟨(hb.cell (p := ⟨g, n * 4, none⟩) hg).trans h.1, (hb.cell (p := ⟨g, n * 4 + 1, none⟩) hg).trans h.2.1, (hb.cell (p := ⟨g, n * 4 + 2, none⟩) hg).trans h.2.2.1, (hb.cell (p := ⟨g, n * 4 + 3, none⟩) hg).trans h.2.2.2⟩
theorem rows_at {W : World} {base e : Nat} {v : Value} {l : List Sg} (h : W.ownsRow base e 4 v l.length (flatR l)) :
    ∃ oa cap, v = .slice oa l.length cap ∧ ∀ n (hn : n < l.length), ∃ g, oa = some ⟨g, 0, none⟩ ∧ g < W.heap.size ∧ base ≤ g ∧ RAt W g n l[n] := by
  obtain ⟨h1, ⟨rfl, h0⟩ | ⟨g, cap, cur, rfl, hg, hh, hn, hcap, hsz, htake⟩⟩ := h
  · exact ⟨none, 0, by rw [h0], fun n hn => by omega⟩
  · refine ⟨some ⟨g, 0, none⟩, cap, rfl, fun n hn => ⟨g, rfl, (Array.getElem?_eq_some_iff.1 hh).1, hg, ?_⟩⟩
    obtain ⟨f0, f1, f2, f3⟩ := flatR_get l n hn
    rw [← htake, List.getElem?_take, if_pos (by omega), Array.getElem?_toList] at f0 f1 f2 f3
    exact ⟨by simpa [World.cell?, hh] using f0, by simpa [World.cell?, hh] using f1, by simpa [World.cell?, hh] using f2, by simpa [World.cell?, hh] using f3⟩

/-- The places from the k-th sign on. -/
def restS (s : ByteArray) (k : Nat) : List Spot := spotsF (spotAt s k) ((signs s).drop k)
theorem restS_zero (s : ByteArray) : restS s 0 = spotsL s := by rw [spots_eq]; rfl
theorem spotAt_succ (s : ByteArray) (k : Nat) (hk : k < (signs s).length) : spotAt s (k + 1) = (spotAt s k).step (signs s)[k] := by
  unfold spotAt
  rw [List.take_succ_eq_append_getElem hk, stepsF_snoc]
theorem restS_cons (s : ByteArray) (k : Nat) (hk : k < (signs s).length) : restS s k = spotAt s k :: restS s (k + 1) := by
  unfold restS
  rw [List.drop_eq_getElem_cons hk, spotsF, spotAt_succ s k hk]
theorem restS_head (s : ByteArray) (k : Nat) : ∃ r, restS s k = spotAt s k :: r := by
  unfold restS
  cases (signs s).drop k with
  | nil => exact ⟨[], rfl⟩
  | cons x r => exact ⟨_, rfl⟩
theorem restS_end (s : ByteArray) : restS s (signs s).length = [spotAt s (signs s).length] := by
  unfold restS
  rw [List.drop_length]
  rfl
theorem spotAt_bd (s : ByteArray) (k : Nat) (u : Int) : 0 ≤ (spotAt s k).get u ∧ (spotAt s k).get u ≤ 4 * s.size := by
  refine ⟨first_least s u (spotAt_mem s k), ?_⟩
  have h1 := last_most s u (spotAt_mem s k)
  have h2 := trail_bd (signs s)
  have h3 : (signs s).length ≤ s.size := sgns_length s _ _
  rw [trail_end] at h2
  have h4 : (lastS s).get u ≤ 4 * s.size := by
    have h5 : lastS s = stepsF ⟨0, 0, 0⟩ (signs s) := rfl
    rw [← h5] at h2
    unfold Spot.get
    repeat' split
    all_goals omega
  omega

end Go.Proofs.YtbiodfeanngkdaaDoor

/- The contract of the document's own Cut (surtitleref1) by signs, from one to another. -/
namespace Go.Proofs.YtbiodfeanngkdaaDoor
open Go.RowKit

theorem find_spot (s : ByteArray) (k : Nat) (hk : k ≤ (signs s).length) : findS s 2 (k : Int) = (spotAt s k, 0) := by
  unfold findS
  rw [if_neg (by omega)]
  have h := findL_mem 2 (spots_rise s) (spotAt_mem s k)
  have hc : (spotAt s k).get 2 = (k : Int) := spotAt_c s k hk
  rw [hc] at h
  exact h
end Go.Proofs.YtbiodfeanngkdaaDoor
