/- The contract of the document's own signs (surtitleref2): the runes of a text and their places, as two lists. -/
import Derived.Test.YtgjkholmoamblaaDoorRefC
import Derived.Test.YtgjkholmoamblaaDoorCellA
import Derived.Test.YtgjkholmoamblaaDoorCellM3
import Derived.Maps.AppendAt
namespace Go.Proofs.YtgjkholmoamblaaDoor
open Go.RowKit

/-- The places and the runes of a text's signs from a place on. -/
def sgF2 (s : ByteArray) : Nat → Nat → List (Nat × Nat)
  | 0, _ => []
  | b + 1, pos => if pos < s.size then (pos, (Utf8.decode s pos).1) :: sgF2 s b (pos + (Utf8.decode s pos).2) else []
def sgs (s : ByteArray) : List (Nat × Nat) := sgF2 s s.size 0
theorem sgF2_length (s : ByteArray) : ∀ b pos, (sgF2 s b pos).length = cntF s b pos
  | 0, _ => rfl
  | b + 1, pos => by
    unfold sgF2 cntF
    split
    · rw [List.length_cons, sgF2_length s b]
    · rfl
def runeV (l : List (Nat × Nat)) : List Value := l.map fun x => .int .i32 x.2
def placeV (l : List (Nat × Nat)) : List Value := l.map fun x => .int .i64 x.1
theorem infoI32 : (Tryd.prog.info? 21).map (fun i => (i.zero, i.size, i.bytes)) = some (some (.int .i32 0), 1, 4) := by kernel_rfl
theorem infoI64 : (Tryd.prog.info? 3).map (fun i => (i.zero, i.size, i.bytes)) = some (some (.int .i64 0), 1, 8) := by kernel_rfl
theorem rows_apart {W : World} {b1 b2 : Nat} {e1 e2 : TypeId} {s1 s2 n1 n2 : Nat} {v1 v2 : Value} {x1 x2 : List Value} (h1 : W.ownsRow b1 e1 s1 v1 n1 x1) (h2 : W.ownsRow b2 e2 s2 v2 n2 x2) (hne : e1 ≠ e2) : v1.ownBlock = none ∨ v1.ownBlock ≠ v2.ownBlock := by
  rcases h1.2 with ⟨rfl, _⟩ | ⟨g1, c1, u1, rfl, _, hg1, _⟩
  · exact .inl rfl
  · right
    rcases h2.2 with ⟨rfl, _⟩ | ⟨g2, c2, u2, rfl, _, hg2, _⟩
    · simp [Value.ownBlock]
    · intro e
      simp [Value.ownBlock] at e
      subst e
      rw [hg1] at hg2
      cases hg2
      exact hne rfl

theorem grownBy_iterC (W : World) (k : Nat) (s : ByteArray) (p : Nat) : W.grownBy (W.iterAt k s p) (some k) :=
  ⟨rfl, rfl, rfl, by rw [Lib.iterAt_size]; exact Nat.le_refl _, fun i _ hi => Lib.iterAt_other W k i s p (fun e => hi (by rw [e]))⟩
theorem not_block {W : World} {b e n k sz : Nat} {v : Value} {xs : List Value} (h : W.ownsRow b e sz v n xs) (hk : k < b) : v.ownBlock ≠ some k := fun q => by have := (h.lt k q).1; omega

set_option maxRecDepth 100000 in
set_option maxHeartbeats 4000000 in
theorem refSigns_any (s : ByteArray) (hs : s.size ≤ 1048576) (w : World) :
    Calls Tryd.prog 29 #[.string s] w fun e w' => ∃ v u, e = .returned (.tuple #[v, u]) ∧ w'.ownsRow w.heap.size 21 1 v (sgs s).length (runeV (sgs s)) ∧ w'.ownsRow w.heap.size 3 1 u ((sgs s).length + 1) (placeV (sgs s) ++ [.int .i64 s.size]) ∧ Below w.heap.size w w' := by
  obtain ⟨i0, hi, hz0, hz1, hz2⟩ := info_partsC infoI32
  obtain ⟨j0, hj, hy0, hy1, hy2⟩ := info_partsC infoI64
  go_enter Tryd.func29, Tryd.ntmps29
  go_wp2
  go_loopw [4, 5] (fun v u wr => ∃ (pre : List (Nat × Nat)) (pos b : Nat), Hid (pre ++ sgF2 s b pos = sgs s) ∧ s.size ≤ pos + b ∧ pre.length ≤ pos ∧ pos ≤ s.size ∧ wr.heap[w.heap.size]? = some (.stringIter s pos) ∧ wr.ownsRow (w.heap.size + 1) 21 1 v pre.length (runeV pre) ∧ wr.ownsRow (w.heap.size + 1) 3 1 u pre.length (placeV pre) ∧ Below w.heap.size w wr ∧ w.heap.size + 1 ≤ wr.heap.size)
    (fun _ _ wr => s.size - wr.iterPos w.heap.size)
  case atStart => exact ⟨[], 0, s.size, rfl, by omega, by simp, by omega, World.alloc_heap_new w _, World.ownsRow_nil _ _ _ _, World.ownsRow_nil _ _ _ _, (Below.refl _ w).alloc (Nat.le_refl _) _, by show w.heap.size + 1 ≤ (w.alloc _).heap.size; simp⟩
  case round =>
    obtain ⟨pre, pos, b, HS, hb, hlen, hps, hit, hv, hu, hB, hz⟩ := hrel
    by_cases hp : pos < s.size
    · have hnx : ∀ ty, (Instr.next (.pointer (some ⟨w.heap.size, 0, none⟩)) true ty).run Tryd.prog wr = _ := fun ty => Lib.run_next_any_at wr w.heap.size s pos ty hit hp
      have hwd := Lib.decode_width_pos s pos hp
      have hfit := decode_fit s pos hp
      have hit2 := Lib.iterAt_heap wr w.heap.size s pos (pos + (Utf8.decode s pos).2) hit
      have hib := iterAt_below wr w.heap.size s (pos + (Utf8.decode s pos).2) w.heap.size (Nat.le_refl _)
      have hv2 := hv.kept (grownBy_iterC wr w.heap.size s (pos + (Utf8.decode s pos).2)) (.inr (not_block hv (by omega)))
      have hu2 := hu.kept (grownBy_iterC wr w.heap.size s (pos + (Utf8.decode s pos).2)) (.inr (not_block hu (by omega)))
      have hzz : w.heap.size + 1 ≤ (wr.iterAt w.heap.size s (pos + (Utf8.decode s pos).2)).heap.size := by rw [Lib.iterAt_size]; exact hz
      have hB2 := hB.trans hib
      have hms : s.size - (wr.iterAt w.heap.size s (pos + (Utf8.decode s pos).2)).iterPos w.heap.size < s.size - wr.iterPos w.heap.size := by rw [iterPos_of hit, iterPos_of hit2]; omega
      have NX : Hid (∃ b', (pre ++ [(pos, (Utf8.decode s pos).1)]) ++ sgF2 s b' (pos + (Utf8.decode s pos).2) = sgs s ∧ s.size ≤ pos + (Utf8.decode s pos).2 + b') := by
        cases b with
        | zero => omega
        | succ b =>
          refine ⟨b, ?_, by omega⟩
          have := HS.out
          rw [sgF2, if_pos hp] at this
          simpa using this
      have HM : Hid (∀ A : World, A.heap[w.heap.size]? = some (.stringIter s (pos + (Utf8.decode s pos).2)) → s.size - A.iterPos w.heap.size < s.size - wr.iterPos w.heap.size) := fun A h => by rw [iterPos_of hit, iterPos_of h]; omega
      clear HS hms hv hu hib
      generalize hq : pos + (Utf8.decode s pos).2 = q at *
      generalize hr : (Utf8.decode s pos).1 = r at *
      generalize wr.iterAt w.heap.size s q = W2 at *
      go_wp2_with (at_builtin; first | (refine wpList_append_own _ rfl _ _ 32 rfl (w.heap.size + 1) 21 i0 (.int .i32 0) 1 4 Tryd.underlying32 hi hz0 hz1 hz2 rfl (by decide) _ _ _ rfl (hv2.alloc _) ⟨W2.heap.size, 0, none⟩ 1 1 [.int .i32 r] rfl rfl (cell_one_new _ _ _) (fun x hx => by simp at hx; subst hx; rfl) (by unfold maxLen; omega) (by omega) (by simp; omega) ?_; intro v' w3 hown3 hgrow3 _; have hu3 := (hu2.alloc (.cells #[.int .i32 r] 21)).kept hgrow3 (rows_apart hu2 hv2 (by decide)); have hB3 := Below.grown (hB2.alloc hB2.size (.cells #[.int .i32 r] 21)) hgrow3 (by simp; omega) (fun k e => by have := (hv2.lt k e).1; omega); have hit3 : w3.heap[w.heap.size]? = some (.stringIter s q) := (hgrow3.block _ (by simp; omega) (fun e => not_block hv2 (by omega) e.symm)).trans ((Below.heap_alloc _ _ _ (by omega)).trans hit2); have hz3 := hgrow3.size; rw [World.size_alloc] at hz3) | (refine wpList_append_own _ rfl _ _ 65 rfl (w.heap.size + 1) 3 j0 (.int .i64 0) 1 8 Tryd.underlying65 hj hy0 hy1 hy2 rfl (by decide) _ _ _ rfl (hu3.alloc _) ⟨w3.heap.size, 0, none⟩ 1 1 [.int .i64 pos] rfl rfl (cell_one_new _ _ _) (fun x hx => by simp at hx; subst hx; rfl) (by unfold maxLen; omega) (by omega) (by simp; omega) ?_; intro u' w5 hown5 hgrow5 _; have hv5 := (hown3.alloc (.cells #[.int .i64 pos] 3)).kept hgrow5 (rows_apart hown3 hu3 (by decide)); have hB5 := Below.grown (hB3.alloc hB3.size (.cells #[.int .i64 pos] 3)) hgrow5 (by simp; omega) (fun k e => by have := (hu3.lt k e).1; omega); have hit5 : w5.heap[w.heap.size]? = some (.stringIter s q) := (hgrow5.block _ (by simp; omega) (fun e => not_block hu3 (by omega) e.symm)).trans ((Below.heap_alloc _ _ _ (by omega)).trans hit3); have hz5 := hgrow5.size; rw [World.size_alloc] at hz5))
      obtain ⟨b', e1, e2⟩ := NX.out
      go_roundw
      case rel => exact ⟨pre ++ [(pos, r)], q, b', e1, e2, by simp; omega, by omega, hit5, by rw [List.length_append]; simpa [runeV] using hv5, by rw [List.length_append]; simpa [placeV] using hown5, hB5, by omega⟩
      case measure => exact HM.out _ hit5
    · have hnx : ∀ ty, (Instr.next (.pointer (some ⟨w.heap.size, 0, none⟩)) true ty).run Tryd.prog wr = _ := fun ty => Lib.run_next_end_at wr w.heap.size s pos ty hit hp
      have hfin : pre = sgs s := by
        have := HS.out
        have e : sgF2 s b pos = [] := by cases b <;> simp [sgF2, hp]
        rw [e, List.append_nil] at this
        exact this
      subst hfin
      clear HS
      have hcl : (sgs s).length ≤ 1048576 := by omega
      go_wp2_with (at_builtin; refine wpList_append_own _ rfl _ _ 65 rfl (w.heap.size + 1) 3 j0 (.int .i64 0) 1 8 Tryd.underlying65 hj hy0 hy1 hy2 rfl (by decide) _ _ _ rfl (hu.alloc _) ⟨wr.heap.size, 0, none⟩ 1 1 [.int .i64 s.size] rfl rfl (cell_one_new _ _ _) (fun x hx => by simp at hx; subst hx; rfl) (by unfold maxLen; omega) (by omega) (by simp; omega) ?_; intro u' w5 hown5 hgrow5 _; have hv5 := (hv.alloc (.cells #[.int .i64 s.size] 3)).kept hgrow5 (rows_apart hv hu (by decide)); have hB5 := Below.grown (hB.alloc hB.size (.cells #[.int .i64 s.size] 3)) hgrow5 (by simp; omega) (fun k e => by have := (hu.lt k e).1; omega))
      exact bodyPost_ret (v := .tuple #[u4, u']) (by simp [results, Tryd.results29, go_sem]) rfl ⟨u4, u', rfl, ownsRow_from hv5 (by omega), ownsRow_from hown5 (by omega), hB5⟩

end Go.Proofs.YtgjkholmoamblaaDoor
