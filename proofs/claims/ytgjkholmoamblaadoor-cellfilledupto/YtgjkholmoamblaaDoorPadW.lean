/- The contracts of cell.Pad and of the document's own Pad (surtitleref2). -/
import Derived.Test.YtgjkholmoamblaaDoorCdL
import Derived.Test.YtgjkholmoamblaaDoorCellW5
import Derived.Test.YtgjkholmoamblaaDoorCellClone
namespace Go.Proofs.YtgjkholmoamblaaDoor
open Go.RowKit Go.Shelf

theorem ba_ext2 {a b : ByteArray} (h : a.data.toList = b.data.toList) : a = b := by
  cases a; cases b
  exact congrArg ByteArray.mk (Array.toList_inj.1 h)
/-- So many blanks. -/
def blk (n : Nat) : ByteArray := ⟨(List.replicate n (32 : UInt8)).toArray⟩
theorem blk_size (n : Nat) : (blk n).size = n := by
  rw [Lib.size_eq]
  simp [blk]
theorem blk_snoc (n : Nat) : blk n ++ ⟨#[32]⟩ = blk (n + 1) := by
  refine ba_ext2 ?_
  rw [ByteArray.data_append, Array.toList_append]
  simp [blk, List.replicate_succ']
theorem blk_zero (s : ByteArray) : s ++ blk 0 = s := by
  refine ba_ext2 ?_
  rw [ByteArray.data_append, Array.toList_append]
  simp [blk]
theorem rep_any (k : Nat) (hk : k ≤ 1000) (w : World) :
    Calls Tryd.prog 26 #[.string ⟨#[32]⟩, .int .i64 k] w fun e w' => e = .returned (.string (blk k)) ∧ Below w.heap.size w w' := by
  have := Any.strings_Repeat (ρ := lay105Ren) lay105 ext105 ⟨#[32]⟩ k w (by omega) (by show 1 * k ≤ _; omega)
  have e : ∀ k, Lib.repeatL [(32 : UInt8)] k = List.replicate k 32 := by
    intro k
    induction k with
    | zero => rfl
    | succ k ih => simp [Lib.repeatL, List.replicate_succ] at *; exact ih
  rw [show (⟨#[32]⟩ : ByteArray).data.toList = [32] from rfl, e] at this
  exact this

/-- What Pad tells: the text, the error. -/
def padF (s : ByteArray) (cells ahead : Int) : ByteArray × Int :=
  if cells < 0 ∨ 200 < cells ∨ ahead < 0 ∨ 10 < ahead then (⟨#[]⟩, 1)
  else if cells - ofI s ≤ 0 then (s, 0)
  else (blk ((cells - ofI s) * ahead / 10).toNat ++ s ++ blk ((cells - ofI s) - (cells - ofI s) * ahead / 10).toNat, 0)

set_option maxRecDepth 100000 in
set_option maxHeartbeats 2000000 in
theorem pad_any (s : ByteArray) (hs : s.size ≤ 1048576) (cells ahead : Int) (h1 : -9223372036854775808 ≤ cells) (h2 : cells ≤ 9223372036854775807) (h3 : -9223372036854775808 ≤ ahead) (h4 : ahead ≤ 9223372036854775807) (N : Nat) (w : World) (hT : Tabs N w) :
    Calls Tryd.prog 11 #[.string s, .int .i64 cells, .int .i64 ahead] w fun e w' => e = .returned (.tuple #[.string (padF s cells ahead).1, .int .i64 (padF s cells ahead).2]) ∧ Below w.heap.size w w' := by
  by_cases hc : cells < 0 ∨ 200 < cells ∨ ahead < 0 ∨ 10 < ahead
  · have hp : padF s cells ahead = (⟨#[]⟩, 1) := if_pos hc
    rw [hp]
    clear hp
    rcases (show cells < 0 ∨ (0 ≤ cells ∧ 200 < cells) ∨ (0 ≤ cells ∧ cells ≤ 200 ∧ ahead < 0) ∨ (0 ≤ cells ∧ cells ≤ 200 ∧ 0 ≤ ahead ∧ 10 < ahead) by omega) with hc | ⟨hc, hd⟩ | ⟨hc, hd, hf⟩ | ⟨hc, hd, hf, hg⟩
    all_goals
      go_enter Tryd.func11, Tryd.ntmps11
      go_wp2
      exact bodyPost_ret (v := .tuple #[.string ⟨#[]⟩, .int .i64 1]) (by simp [results, Tryd.results11, go_sem]) rfl ⟨rfl, Below.refl _ _⟩
  · obtain ⟨c1, c2, a1, a2⟩ : 0 ≤ cells ∧ cells ≤ 200 ∧ 0 ≤ ahead ∧ ahead ≤ 10 := by omega
    have hbd := ofI_bd s
    have HO := hideC (fun W h => of_any s (by omega) N W h)
    by_cases hl : cells - ofI s ≤ 0
    · have hp : padF s cells ahead = (s, 0) := (if_neg hc).trans (if_pos hl)
      rw [hp]
      clear hp hc
      generalize ofI s = A at *
      have n1 : ¬ cells < 0 := by omega
      have n2 : ¬ 200 < cells := by omega
      have n3 : ¬ ahead < 0 := by omega
      have n4 : ¬ 10 < ahead := by omega
      have HCl := hideC (fun W => clone_any s W (by omega))
      go_enter Tryd.func11, Tryd.ntmps11
      go_wp2_with fail
      refine (HO.out _ hT).mono ?_
      rintro e w1 ⟨rfl, b1⟩
      have s1 := b1.size
      go_wp2_with fail
      refine (HCl.out _).mono ?_
      rintro e w2 ⟨rfl, b2⟩
      go_wp2
      exact bodyPost_ret (v := .tuple #[.string s, .int .i64 0]) (by simp [results, Tryd.results11, go_sem]) rfl ⟨rfl, b1.trans (b2.mono s1)⟩
    · have hp : padF s cells ahead = _ := (if_neg hc).trans (if_neg hl)
      rw [hp]
      clear hp hc
      generalize ofI s = A at *
      obtain ⟨lk, hlk⟩ : ∃ lk : Nat, cells - A = lk := ⟨(cells - A).toNat, by omega⟩
      obtain ⟨ah, hah⟩ : ∃ ah : Nat, ahead = ah := ⟨ahead.toNat, by omega⟩
      subst hah
      have hq : (lk : Int) * (ah : Int) / 10 = ((lk * ah / 10 : Nat) : Int) := by omega
      obtain ⟨m, hm⟩ : ∃ m, lk * ah = m := ⟨_, rfl⟩
      have hmi : (lk : Int) * (ah : Int) = (m : Int) := by rw [← hm]; exact (Int.natCast_mul lk ah).symm
      have hmb : m ≤ 2000 := by rw [← hm]; exact Nat.le_trans (Nat.mul_le_mul (show lk ≤ 200 by omega) (show ah ≤ 10 by omega)) (by decide)
      have hml : m ≤ 10 * lk := by rw [← hm, Nat.mul_comm]; exact Nat.mul_le_mul_right _ (by omega)
      obtain ⟨fr, hfr⟩ : ∃ fr, m / 10 = fr := ⟨_, rfl⟩
      obtain ⟨bk, hbk⟩ : ∃ bk, lk - fr = bk := ⟨_, rfl⟩
      have hfi : (m : Int) / 10 = (fr : Int) := by omega
      have hbi : (lk : Int) - (fr : Int) = (bk : Int) := by omega
      rw [hlk, hmi, hfi, hbi, Int.toNat_natCast, Int.toNat_natCast]
      have hdv : ∀ W, (Op.intDiv .quo .i64 (m : Int) 10).run Tryd.prog W = .ok (.int .i64 (fr : Int)) W := fun W => by
        rw [← hfi]
        go_simp
        exact IntWalk.i64_in _ ⟨by omega, by omega⟩
      have n1 : ¬ cells < 0 := by omega
      have n2 : ¬ 200 < cells := by omega
      have hlk0 : ¬ (lk : Int) ≤ 0 := by omega
      have hlkb : lk ≤ 200 := by omega
      have HR1 := hideC (rep_any fr (by omega))
      have HR2 := hideC (rep_any bk (by omega))
      have hz1 := blk_size fr
      have hz2 := blk_size bk
      have hs1 : (blk fr ++ s).size ≤ 2000000 := by rw [ByteArray.size_append]; omega
      have hs2 : (blk fr).size + s.size ≤ 140737488355328 := by omega
      have hs3 : (blk fr ++ s).size + (blk bk).size ≤ 140737488355328 := by omega
      have ha1 : ∀ W, (Op.stringOp .add (blk fr) s).run Tryd.prog W = .ok (.string (blk fr ++ s)) W := fun W => run_string_add_sum W _ _ (by omega)
      have ha2 : ∀ W, (Op.stringOp .add (blk fr ++ s) (blk bk)).run Tryd.prog W = .ok (.string (blk fr ++ s ++ blk bk)) W := fun W => run_string_add_sum W _ _ (by omega)
      clear hz1 hz2 hs1 hs2 hs3 hm hml hq hfr hbk
      go_enter Tryd.func11, Tryd.ntmps11
      go_wp2_with fail
      refine (HO.out _ hT).mono ?_
      rintro e w1 ⟨rfl, b1⟩
      have s1 := b1.size
      go_wp2_with fail
      refine (HR1.out _).mono ?_
      rintro e w2 ⟨rfl, b2⟩
      have s2 := b2.size
      go_wp2_with fail
      refine (HR2.out _).mono ?_
      rintro e w3 ⟨rfl, b3⟩
      go_wp2
      exact bodyPost_ret (v := .tuple #[.string (blk fr ++ s ++ blk bk), .int .i64 0]) (by simp [results, Tryd.results11, go_sem]) rfl ⟨rfl, (b1.trans (b2.mono s1)).trans (b3.mono (by omega))⟩

set_option maxRecDepth 100000 in
set_option maxHeartbeats 2000000 in
theorem rpad_walk (s : ByteArray) (hs : s.size ≤ 1048576) (cells ahead : Int) (h1 : -9223372036854775808 ≤ cells) (h2 : cells ≤ 9223372036854775807) (h3 : -9223372036854775808 ≤ ahead) (h4 : ahead ≤ 9223372036854775807) (w : World)
    (HO : Hid (∀ W : World, Calls Tryd.prog 27 #[.string s] W fun e w' => e = .returned (.int .i64 (ofI s)) ∧ Below W.heap.size W w')) :
    Calls Tryd.prog 12 #[.string s, .int .i64 cells, .int .i64 ahead] w fun e w' => e = .returned (.tuple #[.string (padF s cells ahead).1, .int .i64 (padF s cells ahead).2]) ∧ Below w.heap.size w w' := by
  by_cases hc : cells < 0 ∨ 200 < cells ∨ ahead < 0 ∨ 10 < ahead
  · have hp : padF s cells ahead = (⟨#[]⟩, 1) := if_pos hc
    rw [hp]
    clear hp
    rcases (show cells < 0 ∨ (0 ≤ cells ∧ 200 < cells) ∨ (0 ≤ cells ∧ cells ≤ 200 ∧ ahead < 0) ∨ (0 ≤ cells ∧ cells ≤ 200 ∧ 0 ≤ ahead ∧ 10 < ahead) by omega) with hc | ⟨hc, hd⟩ | ⟨hc, hd, hf⟩ | ⟨hc, hd, hf, hg⟩
    all_goals
      go_enter Tryd.func12, Tryd.ntmps12
      go_wp2
      exact bodyPost_ret (v := .tuple #[.string ⟨#[]⟩, .int .i64 1]) (by simp [results, Tryd.results12, go_sem]) rfl ⟨rfl, Below.refl _ _⟩
  · obtain ⟨c1, c2, a1, a2⟩ : 0 ≤ cells ∧ cells ≤ 200 ∧ 0 ≤ ahead ∧ ahead ≤ 10 := by omega
    have hbd := ofI_bd s
    by_cases hl : cells - ofI s ≤ 0
    · have hp : padF s cells ahead = (s, 0) := (if_neg hc).trans (if_pos hl)
      rw [hp]
      clear hp hc
      generalize ofI s = A at *
      have n1 : ¬ cells < 0 := by omega
      have n2 : ¬ 200 < cells := by omega
      have n3 : ¬ ahead < 0 := by omega
      have n4 : ¬ 10 < ahead := by omega
      go_enter Tryd.func12, Tryd.ntmps12
      go_wp2_with fail
      refine (HO.out _).mono ?_
      rintro e w1 ⟨rfl, b1⟩
      go_wp2
      exact bodyPost_ret (v := .tuple #[.string s, .int .i64 0]) (by simp [results, Tryd.results12, go_sem]) rfl ⟨rfl, b1⟩
    · have hp : padF s cells ahead = _ := (if_neg hc).trans (if_neg hl)
      rw [hp]
      clear hp hc
      generalize ofI s = A at *
      obtain ⟨lk, hlk⟩ : ∃ lk : Nat, cells - A = lk := ⟨(cells - A).toNat, by omega⟩
      obtain ⟨ah, hah⟩ : ∃ ah : Nat, ahead = ah := ⟨ahead.toNat, by omega⟩
      subst hah
      obtain ⟨m, hm⟩ : ∃ m, lk * ah = m := ⟨_, rfl⟩
      have hmi : (lk : Int) * (ah : Int) = (m : Int) := by rw [← hm]; exact (Int.natCast_mul lk ah).symm
      have hmb : m ≤ 2000 := by rw [← hm]; exact Nat.le_trans (Nat.mul_le_mul (show lk ≤ 200 by omega) (show ah ≤ 10 by omega)) (by decide)
      have hml : m ≤ 10 * lk := by rw [← hm, Nat.mul_comm]; exact Nat.mul_le_mul_right _ (by omega)
      obtain ⟨fr, hfr⟩ : ∃ fr, m / 10 = fr := ⟨_, rfl⟩
      obtain ⟨bk, hbk⟩ : ∃ bk, lk - fr = bk := ⟨_, rfl⟩
      have hfi : (m : Int) / 10 = (fr : Int) := by omega
      have hbi : (lk : Int) - (fr : Int) = (bk : Int) := by omega
      rw [hlk, hmi, hfi, hbi, Int.toNat_natCast, Int.toNat_natCast]
      have hdv : ∀ W, (Op.intDiv .quo .i64 (m : Int) 10).run Tryd.prog W = .ok (.int .i64 (fr : Int)) W := fun W => by
        rw [← hfi]
        go_simp
        exact IntWalk.i64_in _ ⟨by omega, by omega⟩
      have n1 : ¬ cells < 0 := by omega
      have n2 : ¬ 200 < cells := by omega
      have hlk0 : ¬ (lk : Int) ≤ 0 := by omega
      have hlkb : lk ≤ 200 := by omega
      have hfl : fr ≤ lk := by omega
      have HAD := hideC (fun (W : World) (a b : ByteArray) (h : a.size + b.size ≤ 3000000) => run_string_add_sum (P := Tryd.prog) W a b (by omega))
      clear hm hml hfr hbk
      go_enter Tryd.func12, Tryd.ntmps12
      go_wp2_with fail
      refine (HO.out _).mono ?_
      rintro e w1 ⟨rfl, b1⟩
      go_wp2
      go_loopw [10, 11] (fun o i wr => ∃ k : Nat, o = .string (blk k) ∧ i = .int .i64 k ∧ k ≤ fr ∧ w1 = wr) (fun _ i _ => fr - (intOf i).toNat)
      case atStart => exact ⟨0, rfl, rfl, by omega, rfl⟩
      case round =>
        obtain ⟨k, rfl, rfl, hk, rfl⟩ := hrel
        by_cases hkl : k < fr
        · have hki : (k : Int) < (fr : Int) := by omega
          have ha : ∀ W, (Op.stringOp .add (blk k) ⟨#[32]⟩).run Tryd.prog W = .ok (.string (blk (k + 1))) W := fun W => by
            rw [HAD.out W _ _ (by rw [blk_size]; show k + 1 ≤ _; omega), blk_snoc]
          go_wp2
          exact ⟨⟨k + 1, rfl, by go_num, by omega, by first | rfl | trivial⟩, by simp [intOf]; omega⟩
        · have hki : ¬ (k : Int) < (fr : Int) := by omega
          obtain rfl : k = fr := by omega
          have ha : ∀ W, (Op.stringOp .add (blk k) s).run Tryd.prog W = .ok (.string (blk k ++ s)) W := fun W => HAD.out W _ _ (by rw [blk_size]; omega)
          go_wp2
          go_loopw [10, 12] (fun o i wq => ∃ j : Nat, o = .string (blk k ++ s ++ blk j) ∧ i = .int .i64 (k + j : Nat) ∧ k + j ≤ lk ∧ w1 = wq) (fun _ i _ => lk - (intOf i).toNat)
          case atStart => exact ⟨0, by rw [blk_zero], by simp, by omega, rfl⟩
          case round =>
            obtain ⟨j, rfl, rfl, hj, rfl⟩ := hrel
            obtain ⟨q, hq⟩ : ∃ q, k + j = q := ⟨_, rfl⟩
            rw [hq]
            by_cases hjl : q < lk
            · have hji : (q : Int) < (lk : Int) := by omega
              have ha : ∀ W, (Op.stringOp .add (blk k ++ s ++ blk j) ⟨#[32]⟩).run Tryd.prog W = .ok (.string (blk k ++ s ++ blk (j + 1))) W := fun W => by
                rw [HAD.out W _ _ (by rw [ByteArray.size_append, ByteArray.size_append, blk_size, blk_size]; show _ + 1 ≤ _; omega), ByteArray.append_assoc, blk_snoc]
              have HQ := hideC hq
              clear hq
              go_wp2
              exact ⟨⟨j + 1, rfl, by have := HQ.out; go_num, by have := HQ.out; omega, by first | rfl | trivial⟩, by simp [intOf]; omega⟩
            · have hji : ¬ (q : Int) < (lk : Int) := by omega
              have hjb : j = bk := by omega
              subst hjb
              go_wp2
              exact bodyPost_ret (v := .tuple #[.string (blk k ++ s ++ blk j), .int .i64 0]) (by simp [results, Tryd.results12, go_sem]) rfl ⟨rfl, b1⟩
end Go.Proofs.YtgjkholmoamblaaDoor
