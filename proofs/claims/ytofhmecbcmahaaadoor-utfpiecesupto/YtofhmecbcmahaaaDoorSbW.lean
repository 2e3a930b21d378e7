/- The contract of the sequence that utf.Signs tells, its signs' runes known to be runes. -/
import Derived.Test.YtofhmecbcmahaaaDoorW2
import Derived.Test.YtofhmecbcmahaaaDoorSpM
import Derived.Test.YtofhmecbcmahaaaDoorRCnt
namespace Go.Proofs.YtofhmecbcmahaaaDoor
open Go.RowKit Go.Shelf
attribute [local go_sem] Oper.semAt_some

/-- A sign whose rune is known to be one. -/
structure Sb where
  g : Sg
  lo : 0 ≤ g.rune
  hi : g.rune ≤ 1114111
theorem sgn_rune (s : ByteArray) (p : Nat) (hp : p < s.size) : 0 ≤ (sgn s p).rune ∧ (sgn s p).rune ≤ 1114111 := by
  have := dec_bd s p
  rw [(sgn_dec s p hp).2.2.1]
  omega
def sbAt (s : ByteArray) (p : Nat) (hp : p < s.size) : Sb := ⟨sgn s p, (sgn_rune s p hp).1, (sgn_rune s p hp).2⟩
theorem sbAt_g (s : ByteArray) (p : Nat) (hp : p < s.size) : (sbAt s p hp).g = sgn s p := by simp only [sbAt]
def sbsF (s : ByteArray) : Nat → Nat → List Sb
  | 0, _ => []
  | fuel + 1, p => if hp : p < s.size then sbAt s p hp :: sbsF s fuel (p + (Utf8.decode s p).2) else []
theorem sbsF_end (s : ByteArray) (f p : Nat) (h : ¬ p < s.size) : sbsF s f p = [] := by cases f <;> simp [sbsF, h]
theorem sbsF_map (s : ByteArray) : ∀ f p, (sbsF s f p).map Sb.g = sgns s f p
  | 0, _ => rfl
  | f + 1, p => by
    unfold sbsF sgns
    by_cases hp : p < s.size
    · rw [dif_pos hp, if_pos hp, List.map_cons, sbsF_map s f, sbAt_g]
    · rw [dif_neg hp, if_neg hp]
      rfl
def sbsL (s : ByteArray) : List Sb := sbsF s s.size 0
theorem sbsL_map (s : ByteArray) : (sbsL s).map Sb.g = signs s := sbsF_map s s.size 0
theorem sbsL_length (s : ByteArray) : (sbsL s).length = (signs s).length := by rw [← sbsL_map, List.length_map]

set_option maxRecDepth 100000 in
set_option maxHeartbeats 1000000 in
theorem sbs1_in (n l bx : Nat) (hn : 1 ≤ n) (s : ByteArray) (hs : s.size ≤ 140737488355328) (J Jx : List Sb → World → Prop) (W : World) (hJ : AbidesFrom W.heap.size J)
    (hY : ∀ pre x W1, J pre W1 → pre.length < (sbsL s).length → YieldAt Fence.wide (n - 1) Tryd.prog l #[x.g.val] W1 fun e W' =>
      (e = .returned (.bool true) ∧ J (pre ++ [x]) W' ∧ Kp bx W1 W') ∨ (e = .returned (.bool false) ∧ Jx (pre ++ [x]) W'))
    (hbx : bx < W.heap.size) (hc : W.cell? ⟨bx, 0, none⟩ = some (.string s)) (h0 : J [] W) :
    CallsIn Fence.wide n Tryd.prog 68 #[.func (.yield l) #[] #[], .pointer (some ⟨bx, 0, none⟩)] W fun e W' => (∃ v, e = .returned v) ∧
      ((∃ ys, ys = sbsL s ∧ J ys W') ∨ (∃ pre, pre <+: sbsL s ∧ Jx pre W')) := by
  refine callsIn_of_wp Tryd.func68 rfl trivial ?_ rfl
  simp only [Tryd.ntmps68, List.size_toArray, List.length_cons, List.length_nil, Nat.reduceAdd, Nat.reduceSub, Array.replicate_succ, Array.replicate_zero, List.push_toArray, List.append_toArray, List.nil_append, List.cons_append]
  gi_wp2
  gi_loopw [3, 4] (fun _ _ wr => ∃ (pre : List Sb) (pos b : Nat), wr.heap[W.heap.size]? = some (.stringIter s pos) ∧ J pre wr ∧ wr.cell? ⟨bx, 0, none⟩ = some (.string s) ∧ pre ++ sbsF s b pos = sbsL s ∧ s.size ≤ pos + b)
    (fun _ _ wr => s.size - wr.iterPos W.heap.size)
  case atStart =>
    refine ⟨[], 0, s.size, World.alloc_heap_new W _, hJ _ _ _ none h0 (World.grownBy_alloc W _ none) (fun r e => by cases e), ?_, rfl, by omega⟩
    exact (((Below.refl W.heap.size W).alloc (Nat.le_refl _) _).cell (p := ⟨bx, 0, none⟩) hbx).trans hc
  case round =>
    obtain ⟨pre, pos, b, hit, hJs, hbc, hsg, hb⟩ := hrel
    have HS : Hid (pre ++ sbsF s b pos = sbsL s) := hsg
    clear hsg
    have hkz : W.heap.size < wr.heap.size := (Array.getElem?_eq_some_iff.1 hit).1
    by_cases hp : pos < s.size
    · have hnx : ∀ ty, (Instr.next (.pointer (some ⟨W.heap.size, 0, none⟩)) true ty).run Tryd.prog wr = _ := fun ty => Lib.run_next_any_at wr W.heap.size s pos ty hit hp
      have hbc2 : (wr.iterAt W.heap.size s (pos + (Utf8.decode s pos).2)).cell? ⟨bx, 0, none⟩ = some (.string s) := (World.cell?_of_block (Lib.iterAt_other _ _ _ _ _ (by show bx ≠ _; omega))).trans hbc
      have hit2 := Lib.iterAt_heap wr W.heap.size s pos (pos + (Utf8.decode s pos).2) hit
      have hJ2 := hJ _ _ _ (some W.heap.size) hJs (grownBy_iterAt wr W.heap.size s (pos + (Utf8.decode s pos).2)) (fun r e => by cases e; exact ⟨Nat.le_refl _, _, hit, rfl⟩)
      have hwd := Lib.decode_width_pos s pos hp
      gi_wp2_with (refine ⟨trivial, ?_⟩; gi_at_call 69; refine (callsIn_wide.2 (signAt_any s pos _ _ hs (by omega))).mono ?_; rintro e w' ⟨rfl, v, rfl⟩)
      have hlen : pre.length < (sbsL s).length := by
        rw [← HS.out]
        cases b with
        | zero => omega
        | succ b => simp [sbsF, hp]
      have hJ3 := hJ _ _ _ none hJ2 (World.grownBy_alloc _ (.cells v 63) none) (fun r e => by cases e)
      have hbc3 : ((wr.iterAt W.heap.size s (pos + (Utf8.decode s pos).2)).alloc (.cells v 63)).cell? ⟨bx, 0, none⟩ = some (.string s) := (((Below.refl _ _).alloc (Nat.le_refl _) _).cell (p := ⟨bx, 0, none⟩) (by rw [Lib.iterAt_size]; show bx < _; omega)).trans hbc2
      have hit3 : ((wr.iterAt W.heap.size s (pos + (Utf8.decode s pos).2)).alloc (.cells v 63)).heap[W.heap.size]? = some (.stringIter s (pos + (Utf8.decode s pos).2)) := (Below.heap_alloc _ _ _ (by rw [Lib.iterAt_size]; exact hkz)).trans hit2
      obtain ⟨fn, tmps, assign, body, hy, hR⟩ := hY pre (sbAt s pos hp) _ hJ3 hlen
      simp only [sbAt_g, sgn] at hy
      rw [hy, Oper.uponIn_round]
      refine ⟨fun _ => hn, ?_⟩
      clear hy
      refine hR.mono ?_
      rintro e W3 (⟨rfl, hJ4, hk4⟩ | ⟨rfl, hJx4⟩)
      · gi_wp2
        go_roundw
        case rel =>
          cases b with
          | zero => omega
          | succ b =>
            refine ⟨pre ++ [sbAt s pos hp], pos + (Utf8.decode s pos).2, b, hk4.2 _ _ (by omega) hit3 rfl, hJ4, hk4.1.trans hbc3, ?_, by omega⟩
            have := HS.out
            rw [sbsF, dif_pos hp] at this
            simpa using this
        case measure =>
          rw [iterPos_of hit, iterPos_of (hk4.2 _ _ (by omega) hit3 rfl)]
          omega
      · gi_wp2
        refine bodyPost_ret (results_none rfl _ _ _) rfl ?_
        refine ⟨⟨_, rfl⟩, .inr ⟨_, ?_, hJx4⟩⟩
        cases b with
        | zero => omega
        | succ b =>
          refine ⟨sbsF s b (pos + (Utf8.decode s pos).2), ?_⟩
          have := HS.out
          rw [sbsF, dif_pos hp] at this
          simpa using this
    · have hnx : ∀ ty, (Instr.next (.pointer (some ⟨W.heap.size, 0, none⟩)) true ty).run Tryd.prog wr = _ := fun ty => Lib.run_next_end_at wr W.heap.size s pos ty hit hp
      gi_wp2
      go_end0
      refine ⟨⟨_, rfl⟩, .inl ⟨pre, ?_, hJs⟩⟩
      have := HS.out
      rw [sbsF_end s b pos hp] at this
      simpa using this

/-- utf.Signs's sequence over the text in the box bx. -/
theorem sbs_stops (n bx : Nat) (hn : 1 ≤ n) (s : ByteArray) (hs : s.size ≤ 140737488355328) (w : World) (hbx : bx < w.heap.size) (hc : w.cell? ⟨bx, 0, none⟩ = some (.string s)) :
    SeqStopsK Fence.wide n Tryd.prog 68 #[.pointer (some ⟨bx, 0, none⟩)] (fun x : Sb => #[x.g.val]) (Kp bx) (fun ys => ys = sbsL s) (fun pre => pre <+: sbsL s) (sbsL s).length w :=
  fun l J Jx W hW hJ _ hY h0 => sbs1_in n l bx hn s hs J Jx W hJ hY (by have := hW.size; omega) ((hW.cell (p := ⟨bx, 0, none⟩) hbx).trans hc) h0

end Go.Proofs.YtofhmecbcmahaaaDoor
