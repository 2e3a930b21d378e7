/- The contract of the document's own Signs (surtitleref1): the signs of a text, as a list. -/
import Derived.Test.YtdikfcnbkckinaaGreatDoorSpM
import Derived.Maps.AppendAt
namespace Go.Proofs.YtdikfcnbkckinaaGreatDoor
open Go.RowKit

/-- Signs as the cells of the document's list. -/
def flatR (l : List Sg) : List Value := l.flatMap fun x => [.int .i64 x.loc, .int .i64 x.len, .int .i64 x.rune, .bool x.bad]
theorem flatR_snoc (l : List Sg) (x : Sg) : flatR (l ++ [x]) = flatR l ++ [.int .i64 x.loc, .int .i64 x.len, .int .i64 x.rune, .bool x.bad] := by simp [flatR]
theorem infoRSign : (Tryz.prog.info? 140).map (fun i => (i.zero, i.size, i.bytes)) = some (some (.agg #[.int .i64 0, .int .i64 0, .int .i64 0, .bool false]), 4, 32) := by kernel_rfl
theorem info_parts2 {t : TypeId} {z : Value} {n b : Nat} (h : (Tryz.prog.info? t).map (fun i => (i.zero, i.size, i.bytes)) = some (some z, n, b)) : ∃ i, Tryz.prog.info? t = some i ∧ i.zero = some z ∧ i.size = n ∧ i.bytes = b := by
  cases hi : Tryz.prog.info? t with
  | none => rw [hi] at h; cases h
  | some i => rw [hi] at h; simp at h; exact ⟨i, rfl, h⟩
theorem cell_four2 (w : World) (a b c d : Value) (t : TypeId) : ∀ j u, [a, b, c, d][j]? = some u → (w.alloc (.cells #[a, b, c, d] t)).cell? ((⟨w.heap.size, 0, none⟩ : Addr).add j) = some u := by
  intro j u hj
  match j, hj with
  | 0, hj => simp at hj; subst hj; simp [Addr.add]
  | 1, hj => simp at hj; subst hj; simp [Addr.add]
  | 2, hj => simp at hj; subst hj; simp [Addr.add]
  | 3, hj => simp at hj; subst hj; simp [Addr.add]
  | j + 4, hj => simp at hj
/-- The document's sign at a place is the program's. -/
theorem one_val (s : ByteArray) (p : Nat) (hp : p < s.size) : (oneR s p).val p = .agg #[.int .i64 (sgn s p).loc, .int .i64 (sgn s p).len, .int .i64 (sgn s p).rune, .bool (sgn s p).bad] := by
  obtain ⟨a, b, c, d, _, _⟩ := sgn_dec s p hp
  rw [one_dec s p hp, a, b, c, d]
  cases h : badAt s p
  · rfl
  · have := (sgn_bad s p h).2.2.2.2.2
    rw [this]
    rfl
theorem bytes_row (w : World) (s : ByteArray) (cap : Nat) (t : TypeId) (k : Nat × Nat) : BytesAt (w.drew.alloc (.cells (bytesRow s cap) t k)) w.heap.size s := by
  intro j hj
  have h1 := World.alloc_heap_new w.drew (.cells (bytesRow s cap) t k)
  have e : (bytesRow s cap)[j]? = some (.int .u8 s[j].toNat) := by
    unfold bytesRow
    rw [Array.getElem?_append_left (by simpa using hj)]
    simp [ByteArray.getElem_eq_getElem_data]
    exact ⟨s.data[j]'hj, Array.getElem?_eq_getElem hj, rfl⟩
  show World.cell? (w.drew.alloc _) ⟨w.drew.heap.size, j, none⟩ = _
  simp only [World.cell?, h1]
  exact e
theorem BytesAt.below {w w' : World} {B : Nat} {s : ByteArray} {n : Nat} (h : BytesAt w B s) (hb : Below n w w') (hB : B < n) : BytesAt w' B s := fun k hk => (hb.cell (p := ⟨B, k, none⟩) hB).trans (h k hk)
theorem BytesAt.grown {w w' : World} {B : Nat} {s : ByteArray} {row : Option Nat} (h : BytesAt w B s) (hg : w.grownBy w' row) (hB : B < w.heap.size) (hr : row ≠ some B) : BytesAt w' B s := fun k hk => (World.cell?_of_block (hg.block B hB (fun e => hr e.symm))).trans (h k hk)

theorem row_below {A B : World} {base e size k : Nat} {v : Value} {xs : List Value} (h : A.ownsRow base e size v k xs) (hb : Below A.heap.size A B) : B.ownsRow base e size v k xs := by
  refine ⟨h.1, ?_⟩
  rcases h.2 with hn | ⟨g, cap, cur, rfl, hg, hgg, rest⟩
  · exact .inl hn
  · exact .inr ⟨g, cap, cur, rfl, hg, (hb.block g (Array.getElem?_eq_some_iff.1 hgg).1).trans hgg, rest⟩
theorem row_low {A : World} {m base e size k : Nat} {v : Value} {xs : List Value} (h : A.ownsRow base e size v k xs) (hm : m ≤ base) : A.ownsRow m e size v k xs := by
  refine ⟨h.1, ?_⟩
  rcases h.2 with hn | ⟨g, cap, cur, rfl, hb, rest⟩
  · exact .inl hn
  · exact .inr ⟨g, cap, cur, rfl, by omega, rest⟩

set_option maxRecDepth 100000 in
set_option maxHeartbeats 4000000 in
theorem rsigns_any (s : ByteArray) (hs : s.size ≤ 1048576) (w : World) :
    Calls Tryz.prog 71 #[.string s] w fun e w' => ∃ v, e = .returned v ∧ w'.ownsRow w.heap.size 140 4 v (signs s).length (flatR (signs s)) ∧ Below w.heap.size w w' := by
  obtain ⟨i0, hi, hz0, hz1, hz2⟩ := info_parts2 infoRSign
  have hcv := run_bytes_of_string (P := Tryz.prog) w 9 127 5 s Tryz.underlying9 Tryz.underlying127 Tryz.underlying5
  have hby := bytes_row w s (grownCap w s.size 0 5) 5 ((bytesRow s (grownCap w s.size 0 5)).size, (bytesRow s (grownCap w s.size 0 5)).size + 1)
  have hB0 := ((Below.refl w.heap.size w).drew).alloc (Nat.le_refl _) (.cells (bytesRow s (grownCap w s.size 0 5)) 5 ((bytesRow s (grownCap w s.size 0 5)).size, (bytesRow s (grownCap w s.size 0 5)).size + 1))
  have hz3 : w.heap.size + 1 ≤ (w.drew.alloc (.cells (bytesRow s (grownCap w s.size 0 5)) 5 ((bytesRow s (grownCap w s.size 0 5)).size, (bytesRow s (grownCap w s.size 0 5)).size + 1))).heap.size := by rw [World.size_alloc]; exact Nat.le_refl _
  generalize w.drew.alloc (.cells (bytesRow s (grownCap w s.size 0 5)) 5 ((bytesRow s (grownCap w s.size 0 5)).size, (bytesRow s (grownCap w s.size 0 5)).size + 1)) = W1 at *
  generalize grownCap w s.size 0 5 = cap at *
  have HBY := hideO hby
  clear hby
  go_enter Tryz.func71, Tryz.ntmps71
  go_wp2
  clear hcv
  go_loopw [4, 5, 6] (fun v i _ wr => ∃ (pre : List Sg) (pos : Nat), i = .int .i64 pos ∧ Hid (BytesAt wr w.heap.size s) ∧ Hid (Lies s 0 pre pos) ∧ pos ≤ s.size ∧ pre.length ≤ pos ∧ wr.ownsRow (w.heap.size + 1) 140 4 v pre.length (flatR pre) ∧ Below w.heap.size w wr ∧ w.heap.size + 1 ≤ wr.heap.size) (fun _ i _ _ => s.size - (intOf i).toNat)
  case atStart => exact ⟨[], 0, rfl, HBY, hideO rfl, by omega, by simp, World.ownsRow_nil _ _ _ _, hB0, hz3⟩
  case round =>
    obtain ⟨pre, pos, rfl, HB, HL, hps, hlen, hown, hB, hz⟩ := hrel
    clear HBY hB0 hz3
    by_cases hp : pos < s.size
    · have ho := one_val s pos hp
      obtain ⟨d1, d2, d3, d4, d5, d6⟩ := sgn_dec s pos hp
      have HL2 : Hid (Lies s 0 (pre ++ [sgn s pos]) (pos + (sgn s pos).len)) := lies_append HL.out ⟨hp, rfl, rfl⟩
      have hl1 : 1 ≤ (sgn s pos).len := by omega
      have hl2 : pos + (sgn s pos).len ≤ s.size := by omega
      clear d1 d2 d3 d4 d5 d6
      generalize sgn s pos = x at *
      go_wp2_with (first
        | (go_at_call 83; refine (one_any wr w.heap.size cap s pos hp hs HB.out).mono ?_; rintro e w2 ⟨rfl, hb2⟩; rw [ho]; have HB2 := hideO (HB.out.below hb2 (by omega)); have hown2 := row_below hown hb2; have hB2 := hB.trans (hb2.mono hB.size); have hzw := hb2.size; clear hb2)
        | (at_builtin; refine wpList_append_own _ rfl _ _ 130 rfl (w.heap.size + 1) 140 i0 (.agg #[.int .i64 0, .int .i64 0, .int .i64 0, .bool false]) 4 32 Tryz.underlying130 hi hz0 hz1 hz2 rfl (by decide) _ _ _ rfl ((hown2.alloc _).alloc _) ⟨w2.heap.size + 1, 0, none⟩ 1 1 [.int .i64 x.loc, .int .i64 x.len, .int .i64 x.rune, .bool x.bad] rfl rfl (by have := cell_four2 (w2.alloc (.cells #[.int .i64 x.loc, .int .i64 x.len, .int .i64 x.rune, .bool x.bad] 140)) (.int .i64 x.loc) (.int .i64 x.len) (.int .i64 x.rune) (.bool x.bad) 140; rwa [World.size_alloc] at this) (fun u hu => by simp at hu; rcases hu with rfl | rfl | rfl | rfl <;> rfl) (by unfold maxLen; omega) (by omega) (by simp; omega) ?_; intro v' w3 hown' hgrow _; have x0 : w3.cell? ⟨w2.heap.size, 1, none⟩ = some (.int .i64 x.len) := (World.cell?_of_block (hgrow.block w2.heap.size (by simp; omega) (fun e => by have := (hown2.lt _ e.symm).2; omega))).trans (by simp)))
      have hB3 := Below.grown ((hB2.alloc hB2.size (.cells #[.int .i64 x.loc, .int .i64 x.len, .int .i64 x.rune, .bool x.bad] 140)).alloc (by simp; omega) (.cells #[.int .i64 x.loc, .int .i64 x.len, .int .i64 x.rune, .bool x.bad] 140)) hgrow (by simp; omega) (fun j hj => by have := (hown2.lt j hj).1; omega)
      have HB3 := hideO (((HB2.out.alloc (by omega) (.cells #[.int .i64 x.loc, .int .i64 x.len, .int .i64 x.rune, .bool x.bad] 140)).alloc (by simp; omega) (.cells #[.int .i64 x.loc, .int .i64 x.len, .int .i64 x.rune, .bool x.bad] 140)).grown hgrow (by simp; omega) (fun e => by have := (hown2.lt _ e).1; omega))
      have hz3 := hgrow.size
      simp only [World.size_alloc] at hz3
      go_roundw
      case rel => exact ⟨pre ++ [x], pos + x.len, by go_num, HB3, HL2, hl2, by simp; omega, by rw [List.length_append, flatR_snoc]; exact hown', hB3, by omega⟩
      case measure => simp [intOf]; omega
    · go_wp2
      go_ret
      have e := lies_uniq (s := s) HL.out (by have := signs_lies s; rwa [show s.size = pos by omega] at this)
      rw [← e]
      exact ⟨_, rfl, row_low hown (by omega), hB⟩
end Go.Proofs.YtdikfcnbkckinaaGreatDoor
