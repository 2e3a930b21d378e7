/- SpeedParts: signs are counted one by one. -/
import Derived.Test.YtifkoffjmdpgkaaDoorSp5
import Derived.Test.YtifkoffjmdpgkaaDoorSpM
namespace Go.Proofs.YtifkoffjmdpgkaaDoor
open Go.RowKit Go.Shelf

theorem readN_append (l m : List Sg) : readN (l ++ m) = readN l + readN m := by
  unfold readN
  rw [List.filter_append, List.length_append]
theorem readN_up (A : Nat) (l : List Sg) : readN (l.map (Sg.up A)) = readN l := by
  unfold readN
  rw [List.filter_map, List.length_map]
  rfl
/-- A sign's edge parts the signs. -/
theorem readN_cut {s : ByteArray} {l m : List Sg} {k : Nat} (h : Lies s 0 l k) (h2 : Lies s k m s.size) (hk : k ≤ s.size) (he : signs s = l ++ m) :
    readN (signs s) = readN (signs (s.extract 0 k)) + readN (signs (s.extract k s.size)) := by
  have a := signs_part h hk
  have b := signs_part h2 (Nat.le_refl _)
  rw [he, readN_append, ← readN_up 0 (signs (s.extract 0 k)), ← readN_up k (signs (s.extract k s.size)), a, b]

/-- A place between signs. -/
def CutAt (s : ByteArray) (k : Nat) : Prop := ∃ l m, Lies s 0 l k ∧ Lies s k m s.size ∧ signs s = l ++ m

set_option maxRecDepth 100000 in
set_option maxHeartbeats 400000 in
theorem parts11_walk (s : ByteArray) (_hb : s.size ≤ 140737488355328) (n : Int) (_h1 : -9223372036854775808 ≤ n) (_h2 : n ≤ 9223372036854775807) (N : Nat) (w : World) (hT : Tabs N w) :
    Calls Tryd.prog 4 #[.string s, .int .i64 n] w fun e w' => e = .returned (.bool true) ∧ Below w.heap.size w w' := by
  go_enter Tryd.func4, Tryd.ntmps4
  go_wp2_with fail
  refine (known11 N _ hT).mono ?_
  rintro e w1 ⟨rfl, b1⟩
  have T1 := hT.below b1
  have B1 := hideC (And.intro b1 T1)
  clear b1 T1 hT
  by_cases hs : s.size ≤ 4096
  · go_wp2_with fail
    go_loopw [5, 6, 7] (fun k c _ wr => ∃ (pre : List Sg) (pos f kk : Nat), wr = w1.iter s pos ∧ k = .int .i64 kk ∧ c = .int .i64 pre.length ∧ pre.length ≤ pos ∧ pos ≤ s.size ∧ kk ≤ s.size ∧ s.size ≤ pos + f ∧ Lies s 0 pre pos ∧ pre ++ sgns s f pos = signs s ∧ CutAt s kk) (fun _ _ _ wr => s.size - wr.iterPos w1.heap.size)
    case atStart => exact ⟨[], 0, s.size, 0, rfl, rfl, rfl, by simp, by omega, by omega, by omega, rfl, rfl, ⟨[], signs s, rfl, signs_lies s, rfl⟩⟩
    case round =>
      obtain ⟨pre, pos, f, kk, rfl, rfl, rfl, hpl, hps, hkk, hf, hli, hsg, hcut⟩ := hrel
      by_cases hp : pos < s.size
      · have hnx : ∀ ty, (Instr.next (.pointer (some ⟨w1.heap.size, 0, none⟩)) true ty).run Tryd.prog (w1.iter s pos) = _ := fun ty => run_next_any w1 s pos ty hp
        have hwd := Lib.decode_width_pos s pos hp
        obtain ⟨d1, d2, d3, d4, d5, d6⟩ := sgn_dec s pos hp
        have hli2 : Lies s 0 (pre ++ [sgn s pos]) (pos + (Utf8.decode s pos).2) := lies_append hli ⟨hp, rfl, by rw [d2]; rfl⟩
        have hcut2 : CutAt s pos := ⟨pre, sgns s f pos, hli, sgns_lies s f pos hf hps, hsg.symm⟩
        have HH := hideC (And.intro hli2 (And.intro hsg (And.intro hcut hcut2)))
        have HD := hideC d6
        clear hli2 hsg hcut hcut2 hli d1 d2 d3 d4
        by_cases hq : (pre.length : Int) = n
        · subst hq
          go_wp2
          go_roundw
          case rel =>
            obtain ⟨hli2, hsg, hcut, hcut2⟩ := HH.out
            cases f with
            | zero => omega
            | succ f =>
              refine ⟨pre ++ [sgn s pos], pos + (Utf8.decode s pos).2, f, pos, rfl, rfl, by simp, by simp; omega, HD.out, by omega, by omega, hli2, ?_, hcut2⟩
              rw [sgns, if_pos hp] at hsg
              simpa using hsg
          case measure =>
            simp
            omega
        · go_wp2
          go_roundw
          case rel =>
            obtain ⟨hli2, hsg, hcut, hcut2⟩ := HH.out
            cases f with
            | zero => omega
            | succ f =>
              refine ⟨pre ++ [sgn s pos], pos + (Utf8.decode s pos).2, f, kk, rfl, rfl, by simp, by simp; omega, HD.out, by omega, by omega, hli2, ?_, hcut⟩
              rw [sgns, if_pos hp] at hsg
              simpa using hsg
          case measure =>
            simp
            omega
      · have hnx : ∀ ty, (Instr.next (.pointer (some ⟨w1.heap.size, 0, none⟩)) true ty).run Tryd.prog (w1.iter s pos) = _ := fun ty => run_next_end w1 s pos ty hp
        rw [sgns_end s f pos hp, List.append_nil] at hsg
        have hrd : readN (signs s) = readN (signs (s.extract 0 kk)) + readN (signs (s.extract kk s.size)) := by
          obtain ⟨l, m, h1, h2, h3⟩ := hcut
          exact readN_cut h1 h2 hkk h3
        have hle : readN (signs s) ≤ pre.length := by rw [hsg]; exact readN_le _
        have HB := hideC (And.intro (bup B1.out.1 ((Below.refl _ w1).alloc (Nat.le_refl _) (.stringIter s pos))) (B1.out.2.below ((Below.refl _ w1).alloc (Nat.le_refl _) (.stringIter s pos))))
        have HR := hideC (And.intro hrd hle)
        clear hsg hli hcut hrd hle B1
        have HC1 := hideC (fun W hW => scount_any s (by omega) (.slice none 0 0) N W hW)
        have HC2 := hideC (fun W hW => scount_any (s.extract 0 kk) (by rw [ByteArray.size_extract]; omega) (.slice none 0 0) N W hW)
        have HC3 := hideC (fun W hW => scount_any (s.extract kk s.size) (by rw [ByteArray.size_extract]; omega) (.slice none 0 0) N W hW)
        generalize readN (signs s) = A at *
        generalize readN (signs (s.extract 0 kk)) = B at *
        generalize readN (signs (s.extract kk s.size)) = C at *
        generalize hln : pre.length = L at *
        clear hln
        have hL1 : L ≤ 4096 := by omega
        have hA1 : A = B + C := HR.out.1
        have hA2 : A ≤ L := HR.out.2
        have t1 : (((A : Int) == (B : Int) + (C : Int)) : Bool) = true := beq_iff_eq.2 (by omega)
        have t2 : decide ((A : Int) ≤ (L : Int)) = true := decide_eq_true (by omega)
        have t3 : IntKind.i64.wrap ((B : Int) + (C : Int)) = (B : Int) + (C : Int) := IntWalk.i64_in _ ⟨by omega, by omega⟩
        clear hA1 hA2 HR
        have hX : Hid (Below w.heap.size w (w1.iter s pos) ∧ Tabs N (w1.iter s pos)) := HB
        clear HB
        go_wp2_with fail
        generalize w1.iter s pos = X at *
        have K0 := hX
        go_region_held3 (fun _ => True) (exact trivial) (first | (go_at_call 6; (with_reducible refine Calls.mono (HC1.out _ (by first | exact K3.out.2 | exact K3.out.2.below (Below.refl _ _).drew)) ?_); rintro e w14 ⟨rfl, b4⟩; have K4 := hideC (And.intro (bup K3.out.1 b4) (K3.out.2.below b4))) | (go_at_call 6; (with_reducible refine Calls.mono (HC3.out _ (by first | exact K2.out.2 | exact K2.out.2.below (Below.refl _ _).drew)) ?_); rintro e w13 ⟨rfl, b3⟩; have K3 := hideC (And.intro (bup K2.out.1 b3) (K2.out.2.below b3))) | (go_at_call 6; (with_reducible refine Calls.mono (HC2.out _ (by first | exact K1.out.2 | exact K1.out.2.below (Below.refl _ _).drew)) ?_); rintro e w12 ⟨rfl, b2⟩; have K2 := hideC (And.intro (bup K1.out.1 b2) (K1.out.2.below b2))) | (go_at_call 6; (with_reducible refine Calls.mono (HC1.out _ (by first | exact K0.out.2 | exact K0.out.2.below (Below.refl _ _).drew)) ?_); rintro e w11 ⟨rfl, b1⟩; have K1 := hideC (And.intro (bup K0.out.1 (Below.drew_of b1)) (K0.out.2.below (Below.drew_of b1)))))
        have t4 : decide (A ≤ L) = true := decide_eq_true (by have := of_decide_eq_true t2; omega)
        go_wp2
        go_ret
        refine ⟨?_, K4.out.1⟩
        first | rfl | (rw [t4]; rfl) | (simp [t4]; done)
  · go_wp2_with fail
    go_ret
    exact ⟨rfl, B1.out.1⟩

end Go.Proofs.YtifkoffjmdpgkaaDoor
