/- Package code: padded numbers, and a dial's text. -/
import Derived.Test.YtaipdckakgohjaaGreatDoorCdA
import Derived.Test.YtaipdckakgohjaaGreatDoorCdL
import Derived.Test.YtaipdckakgohjaaGreatDoorRatF
import Derived.Lib.ItoaLen
import Derived.Deep.RegionHeld3
namespace Go.Proofs.YtaipdckakgohjaaGreatDoor
open Go.RowKit Go.Shelf
open Go.Lib (decDigits)
attribute [local go_sem] Oper.semAt_some bs_toList

theorem builder_keep {T e : TypeId} {B b : Nat} {p : Value} {xs : List Value} {w w2 : World} (h : Lib.BuilderAt T e B b p xs w) (k : Below w.heap.size w w2) : Lib.BuilderAt T e B b p xs w2 := by
  obtain ⟨hB, v, hb, ⟨hl, ho⟩, hne⟩ := h
  have st : ∀ {i : Nat} {o : Obj}, w.heap[i]? = some o → w2.heap[i]? = some o := fun {i o} hi => by
    have hlt : i < w.heap.size := by
      rcases Nat.lt_or_ge i w.heap.size with h | h
      · exact h
      · rw [Array.getElem?_eq_none h] at hi
        cases hi
    rw [k.block i hlt]
    exact hi
  refine ⟨hB, v, st hb, ⟨hl, ?_⟩, hne⟩
  rcases ho with ho | ⟨g, cap, cur, e1, e2, e3, e4⟩
  · exact .inl ho
  · exact .inr ⟨g, cap, cur, e1, e2, st e3, e4⟩
theorem repeat_any (k : Nat) (hk : k ≤ 100) (w : World) :
    Calls Tryz.prog 99 #[.string ⟨#[48]⟩, .int .i64 k] w fun e w' => e = .returned (.string (bs (List.replicate k 48))) ∧ Below w.heap.size w w' := by
  have := Any.strings_Repeat (ρ := lay105Ren) lay105 ext105 ⟨#[48]⟩ k w (by omega) (by show 1 * k ≤ _; omega)
  have e : ∀ k, Lib.repeatL [(48 : UInt8)] k = List.replicate k 48 := by
    intro k
    induction k with
    | zero => rfl
    | succ k ih => simp [Lib.repeatL, List.replicate_succ] at *; exact ih
  rw [show (⟨#[48]⟩ : ByteArray).data.toList = [48] from rfl, e] at this
  exact this
/-- A number, so many digits at least. -/
def padL (n k : Nat) : List UInt8 := List.replicate (k - (decDigits n).length) 48 ++ decDigits n
set_option maxRecDepth 100000 in
theorem padded_walk (n : Int) (k : Nat) (l : List UInt8) (hl : l.length ≤ 30) (hk : k ≤ 3) (w : World)
    (HF : ∀ w0, Below w.heap.size w w0 → Calls Tryz.prog 98 #[.int .i64 n, .int .i64 10] w0 fun e w' => e = .returned (.string (bs l)) ∧ Below w0.heap.size w0 w') :
    Calls Tryz.prog 80 #[.int .i64 n, .int .i64 k] w fun e w' => e = .returned (.string (bs (List.replicate (k - l.length) 48 ++ l))) ∧ Below w.heap.size w w' := by
  have hsz := bs_size l
  have HR := hideR (repeat_any (k - l.length) (by omega))
  have HF := hideR HF
  have ha : ∀ w, (Op.stringOp .add (bs (List.replicate (k - l.length) 48)) (bs l)).run Tryz.prog w = .ok (.string (bs (List.replicate (k - l.length) 48 ++ l))) w := fun w => by
    rw [run_string_add_sum w _ _ (by rw [bs_size, bs_size, List.length_replicate]; omega), bs_append]
  go_enter Tryz.func80, Tryz.ntmps80
  go_wp2_with fail
  go_at_call 98
  refine (HF.out _ (Below.refl _ _)).mono ?_
  rintro e w1 ⟨rfl, b1⟩
  go_wp2_with fail
  rw [show max ((k : Int) - (l.length : Int)) 0 = ((k - l.length : Nat) : Int) by omega]
  go_at_call 99
  refine (HR.out _).mono ?_
  rintro e w2 ⟨rfl, b2⟩
  go_wp2_with fail
  go_ret
  exact ⟨rfl, bup b1 b2⟩
theorem itoa_nat (n : Nat) : Lib.itoa (n : Int) = decDigits n := by
  unfold Lib.itoa
  rw [if_neg (by omega)]
  simp
theorem padded_any (n k : Nat) (hn : n ≤ 9223372036854775807) (hk : k ≤ 3) (w : World) (hp : PowAt w) :
    Calls Tryz.prog 80 #[.int .i64 n, .int .i64 k] w fun e w' => e = .returned (.string (bs (padL n k))) ∧ Below w.heap.size w w' := by
  have hi : I64 (n : Int) := ⟨by omega, by omega⟩
  have hl := Lib.itoa_length_le (n : Int) hi.1 hi.2
  rw [itoa_nat] at hl
  refine padded_walk n k (decDigits n) (by omega) hk w fun w0 b0 => ?_
  have := format_any n hi w0 (hp.keep b0)
  rwa [itoa_nat] at this
/-- A dial's text: the hours with so many digits, the mark, the number in the second with so many. -/
def dialL (hours : Nat) (mark : UInt8) (per digits n : Nat) : List UInt8 :=
  padL (n / per / 3600) hours ++ [58] ++ padL (n / per / 60 % 60) 2 ++ [58] ++ padL (n / per % 60) 2 ++ [mark] ++ padL (n % per) digits
/-- A dial and a builder in memory, on the way through write. -/
def Wr (w : World) (hours mark per digits : Int) (p : Value) (l : List UInt8) (V : World) : Prop :=
  (V.cell? ⟨w.heap.size, 0, none⟩ = some (.int .i64 hours) ∧ V.cell? ⟨w.heap.size, 1, none⟩ = some (.int .u8 mark) ∧ V.cell? ⟨w.heap.size, 2, none⟩ = some (.int .i64 per) ∧ V.cell? ⟨w.heap.size, 3, none⟩ = some (.int .i64 digits)) ∧
  Lib.BuilderAt 124 5 (w.heap.size + 1) (w.heap.size + 1) p (Lib.byteCells l) V ∧ Below w.heap.size w V
theorem Wr.keep {w V U : World} {hours mark per digits : Int} {p : Value} {l : List UInt8} (h : Wr w hours mark per digits p l V) (k : Below V.heap.size V U) : Wr w hours mark per digits p l U := by
  obtain ⟨⟨c0, c1, c2, c3⟩, hb, hw⟩ := h
  have hlt : w.heap.size < V.heap.size := by have := hb.lt; omega
  refine ⟨⟨?_, ?_, ?_, ?_⟩, builder_keep hb k, bup hw k⟩
  · exact (k.cell (p := ⟨w.heap.size, 0, none⟩) hlt).trans c0
  · exact (k.cell (p := ⟨w.heap.size, 1, none⟩) hlt).trans c1
  · exact (k.cell (p := ⟨w.heap.size, 2, none⟩) hlt).trans c2
  · exact (k.cell (p := ⟨w.heap.size, 3, none⟩) hlt).trans c3
theorem Wr.drew {w V : World} {hours mark per digits : Int} {p : Value} {l : List UInt8} (h : Wr w hours mark per digits p l V) : Wr w hours mark per digits p l V.drew := ⟨h.1, h.2.1.drew, h.2.2.drew⟩
theorem Wr.push {w V U : World} {hours mark per digits : Int} {p q : Value} {l m : List UInt8} (h : Wr w hours mark per digits p l V) (hb : Lib.BuilderAt 124 5 (w.heap.size + 1) (w.heap.size + 1) q (Lib.byteCells m) U) (k : Below (w.heap.size + 1) V U) : Wr w hours mark per digits q m U := by
  obtain ⟨⟨c0, c1, c2, c3⟩, _, hw⟩ := h
  have hlt : w.heap.size < w.heap.size + 1 := by omega
  refine ⟨⟨?_, ?_, ?_, ?_⟩, hb, hw.trans (k.mono (by omega))⟩
  · exact (k.cell (p := ⟨w.heap.size, 0, none⟩) hlt).trans c0
  · exact (k.cell (p := ⟨w.heap.size, 1, none⟩) hlt).trans c1
  · exact (k.cell (p := ⟨w.heap.size, 2, none⟩) hlt).trans c2
  · exact (k.cell (p := ⟨w.heap.size, 3, none⟩) hlt).trans c3
def Two0 (w : World) : Value := .pointer (some ⟨w.heap.size + 1, 0, none⟩)
theorem Wr.str {w V : World} {hours mark per digits : Int} {p : Value} {l : List UInt8} (h : Wr w hours mark per digits p l V) (hp : p = .pointer none ∨ p = Two0 w) (hl : l.length ≤ 1000) (m : List UInt8) (hm : m.length ≤ 1000) :
    Calls Tryz.prog 79 #[.pointer (some ⟨w.heap.size + 1, 0, none⟩), .string (bs m)] V fun e w' => e = .returned (.tuple #[.int .i64 (bs m).size, .nilIface]) ∧ Wr w hours mark per digits (Two0 w) (l ++ m) w' := by
  have hlt := h.2.1.lt
  have := Any.Builder_WriteString (ρ := lay166Ren) lay166 ext166 (w.heap.size + 1) (w.heap.size + 1) (Lib.byteCells l) (bs m) V (by rcases hp with rfl | rfl; exact .inl h.2.1; exact .inr h.2.1) (by rw [Lib.byteCells_length, bs_size]; omega) (by omega)
  refine this.mono ?_
  rintro e w' ⟨he, hb, hk⟩
  refine ⟨he, h.push ?_ hk⟩
  rw [Lib.byteCells_append]
  rw [Lib.strCells_eq, bs_list] at hb
  exact hb
theorem Wr.byte {w V : World} {hours mark per digits : Int} {p : Value} {l : List UInt8} (h : Wr w hours mark per digits p l V) (hp : p = .pointer none ∨ p = Two0 w) (hl : l.length ≤ 1000) (c : UInt8) :
    Calls Tryz.prog 81 #[.pointer (some ⟨w.heap.size + 1, 0, none⟩), .int .u8 c.toNat] V fun e w' => e = .returned .nilIface ∧ Wr w hours mark per digits (Two0 w) (l ++ [c]) w' := by
  have hlt := h.2.1.lt
  have := Any.Builder_WriteByte (ρ := lay167Ren) lay167 ext167 (w.heap.size + 1) (w.heap.size + 1) (Lib.byteCells l) c.toNat V (by rcases hp with rfl | rfl; exact .inl h.2.1; exact .inr h.2.1) (by rw [Lib.byteCells_length]; omega) (by omega)
  refine this.mono ?_
  rintro e w' ⟨he, hb, hk⟩
  refine ⟨he, h.push ?_ hk⟩
  rw [Lib.byteCells_append]
  exact hb
theorem Wr.done {w V : World} {hours mark per digits : Int} {l : List UInt8} (h : Wr w hours mark per digits (Two0 w) l V) :
    Calls Tryz.prog 82 #[.pointer (some ⟨w.heap.size + 1, 0, none⟩)] V fun e w' => e = .returned (.string (bs l)) ∧ Below w.heap.size w w' := by
  have hlt := h.2.1.lt
  have := Any.Builder_String_any (ρ := lay169Ren) lay169 ext169 (w.heap.size + 1) (w.heap.size + 1) l V (.inr h.2.1) (by omega)
  refine this.mono ?_
  rintro e w' ⟨he, hk⟩
  exact ⟨he, h.2.2.trans (hk.mono (by omega))⟩
theorem Wr.start (w : World) (hours mark per digits : Int) (short : Bool) : Wr w hours mark per digits (.pointer none) [] ((w.alloc (.cells #[.int .i64 hours, .int .u8 mark, .int .i64 per, .int .i64 digits, .bool short] 56)).alloc (.cells #[.pointer none, .slice none 0 0] 124)) := by
  have k := bel1 (w.alloc (.cells #[.int .i64 hours, .int .u8 mark, .int .i64 per, .int .i64 digits, .bool short] 56)) (.cells #[.pointer none, .slice none 0 0] 124)
  have lt : w.heap.size < (w.alloc (.cells #[.int .i64 hours, .int .u8 mark, .int .i64 per, .int .i64 digits, .bool short] 56)).heap.size := by simp
  refine ⟨⟨(k.cell (p := ⟨w.heap.size, 0, none⟩) lt).trans (by go_simp), (k.cell (p := ⟨w.heap.size, 1, none⟩) lt).trans (by go_simp), (k.cell (p := ⟨w.heap.size, 2, none⟩) lt).trans (by go_simp), (k.cell (p := ⟨w.heap.size, 3, none⟩) lt).trans (by go_simp)⟩, ?_, bel2 w _ _⟩
  have e : (w.alloc (.cells #[.int .i64 hours, .int .u8 mark, .int .i64 per, .int .i64 digits, .bool short] 56)).heap.size = w.heap.size + 1 := by simp
  have := Lib.fresh_isBuilder 124 5 (w.alloc (.cells #[.int .i64 hours, .int .u8 mark, .int .i64 per, .int .i64 digits, .bool short] 56))
  rw [e] at this
  rcases this with h | h
  · exact h
  · have h1 := h.cell0
    generalize w.alloc (.cells #[.int .i64 hours, .int .u8 mark, .int .i64 per, .int .i64 digits, .bool short] 56) = V at *
    rw [← e] at h1
    have h2 : (V.alloc (.cells #[.pointer none, .slice none 0 0] 124)).cell? ⟨V.heap.size, 0, none⟩ = some (.pointer none) := by go_simp
    rw [h2] at h1
    cases h1
set_option maxRecDepth 100000 in
set_option maxHeartbeats 2000000 in
theorem write_walk (hours : Nat) (mark : UInt8) (per digits n q r h m s : Nat) (short : Bool) (a b c d : List UInt8) (hq : (n : Int) / (per : Int) = (q : Int)) (hr : (n : Int) % (per : Int) = (r : Int)) (h0 : 0 < per) (hq0 : q ≤ 1000000000000) (e1 : (q : Int) / 3600 = (h : Int)) (e2 : (q : Int) / 60 % 60 = (m : Int)) (e3 : (q : Int) % 60 = (s : Int)) (la : a.length ≤ 100) (lb : b.length ≤ 100) (lc : c.length ≤ 100) (ld : d.length ≤ 100) (w : World)
    (P1 : ∀ w0, Below w.heap.size w w0 → Calls Tryz.prog 80 #[.int .i64 h, .int .i64 hours] w0 fun e w' => e = .returned (.string (bs a)) ∧ Below w0.heap.size w0 w')
    (P2 : ∀ w0, Below w.heap.size w w0 → Calls Tryz.prog 80 #[.int .i64 m, .int .i64 2] w0 fun e w' => e = .returned (.string (bs b)) ∧ Below w0.heap.size w0 w')
    (P3 : ∀ w0, Below w.heap.size w w0 → Calls Tryz.prog 80 #[.int .i64 s, .int .i64 2] w0 fun e w' => e = .returned (.string (bs c)) ∧ Below w0.heap.size w0 w')
    (P4 : ∀ w0, Below w.heap.size w w0 → Calls Tryz.prog 80 #[.int .i64 r, .int .i64 digits] w0 fun e w' => e = .returned (.string (bs d)) ∧ Below w0.heap.size w0 w') :
    Calls Tryz.prog 50 #[.agg #[.int .i64 hours, .int .u8 mark.toNat, .int .i64 per, .int .i64 digits, .bool short], .int .i64 n] w fun e w' => e = .returned (.string (bs (a ++ [58] ++ b ++ [58] ++ c ++ [mark] ++ d))) ∧ Below w.heap.size w w' := by
  have P1 := hideR P1
  have P2 := hideR P2
  have P3 := hideR P3
  have P4 := hideR P4
  have hper : (0 : Int) < (per : Int) := by omega
  have zp3 : (n : Int).tmod (per : Int) = (r : Int) := by rw [Int.tmod_eq_emod_of_nonneg (by omega)]; exact hr
  have zp : ∀ w, (Op.intDiv .rem .i64 n per).run Tryz.prog w = .ok (.int .i64 r) w := fun w => by
    unfold Op.intDiv
    rw [if_neg (by omega), zp3]
    rfl
  clear zp3
  go_enter Tryz.func50, Tryz.ntmps50
  go_wp2_with fail
  go_at_call 80
  refine (P1.out _ (bel2 w _ _)).mono ?_
  rintro e w1 ⟨rfl, b1⟩
  have W0 := Wr.start w hours mark.toNat per digits short
  have W1 := W0.keep b1
  clear W0 b1
  obtain ⟨⟨c0, c1, c2, c3⟩, _, _⟩ := id W1
  go_wp2_with fail
  go_at_call 79
  refine (W1.str (.inl rfl) (by simp) a (by omega)).mono ?_
  rintro e w2 ⟨rfl, W2⟩
  clear W1 c0 c1 c2 c3
  obtain ⟨⟨c0, c1, c2, c3⟩, _, _⟩ := id W2
  go_wp2_with fail
  go_at_call 81
  refine (W2.byte (.inr rfl) (by simp; omega) 58).mono ?_
  rintro e w3 ⟨rfl, W3⟩
  clear W2 c0 c1 c2 c3
  obtain ⟨⟨c0, c1, c2, c3⟩, _, _⟩ := id W3
  go_wp2_with fail
  go_at_call 80
  refine (P2.out _ W3.2.2).mono ?_
  rintro e w4 ⟨rfl, b4⟩
  have W4 := W3.keep b4
  clear W3 b4
  obtain ⟨⟨c0, c1, c2, c3⟩, _, _⟩ := id W4
  go_wp2_with fail
  go_at_call 79
  refine (W4.str (.inr rfl) (by simp; omega) b (by omega)).mono ?_
  rintro e w5 ⟨rfl, W5⟩
  clear W4 c0 c1 c2 c3
  obtain ⟨⟨c0, c1, c2, c3⟩, _, _⟩ := id W5
  go_wp2_with fail
  go_at_call 81
  refine (W5.byte (.inr rfl) (by simp; omega) 58).mono ?_
  rintro e w6 ⟨rfl, W6⟩
  clear W5 c0 c1 c2 c3
  obtain ⟨⟨c0, c1, c2, c3⟩, _, _⟩ := id W6
  go_wp2_with fail
  go_at_call 80
  refine (P3.out _ W6.2.2).mono ?_
  rintro e w7 ⟨rfl, b7⟩
  have W7 := W6.keep b7
  clear W6 b7
  obtain ⟨⟨c0, c1, c2, c3⟩, _, _⟩ := id W7
  go_wp2_with fail
  go_at_call 79
  refine (W7.str (.inr rfl) (by simp; omega) c (by omega)).mono ?_
  rintro e w8 ⟨rfl, W8⟩
  clear W7 c0 c1 c2 c3
  obtain ⟨⟨c0, c1, c2, c3⟩, _, _⟩ := id W8
  go_wp2_with fail
  go_at_call 81
  refine (W8.byte (.inr rfl) (by simp; omega) mark).mono ?_
  rintro e w9 ⟨rfl, W9⟩
  clear W8 c0 c1 c2 c3
  obtain ⟨⟨c0, c1, c2, c3⟩, _, _⟩ := id W9
  go_wp2_with fail
  have W9d := W9.drew
  go_region_with (first
    | (go_at_call 80; refine (P4.out _ W9d.2.2).mono ?_; rintro e w10 ⟨rfl, b10⟩; have W10 := W9d.keep b10; obtain ⟨⟨d0, d1, d2, d3⟩, _, _⟩ := id W10)
    | (go_at_call 79; refine (W10.str (.inr rfl) (by simp; omega) d (by omega)).mono ?_; rintro e w11 ⟨rfl, W11⟩))
  all_goals (
    clear c0 c1 c2 c3
    go_wp2_with fail
    go_at_call 82
    refine W11.done.mono ?_
    rintro e w12 ⟨rfl, b12⟩
    go_wp2_with fail
    go_ret
    exact ⟨by simp, b12⟩)
theorem write_any (hours : Nat) (mark : UInt8) (per digits n : Nat) (short : Bool) (hh : hours ≤ 3) (hdg : digits ≤ 3) (hp0 : 0 < per) (hn : n ≤ 1000000000000) (w : World) (hp : PowAt w) :
    Calls Tryz.prog 50 #[.agg #[.int .i64 hours, .int .u8 mark.toNat, .int .i64 per, .int .i64 digits, .bool short], .int .i64 n] w fun e w' => e = .returned (.string (bs (dialL hours mark per digits n))) ∧ Below w.heap.size w w' := by
  have q1 : n / per ≤ n := Nat.div_le_self _ _
  have r1 : n % per ≤ n := Nat.mod_le _ _
  have ln : ∀ x k, x ≤ 1000000000000 → k ≤ 3 → (padL x k).length ≤ 100 := fun x k hx hk => by
    have := Lib.itoa_length_le (x : Int) (by omega) (by omega)
    rw [itoa_nat] at this
    unfold padL
    simp
    omega
  exact write_walk hours mark per digits n (n / per) (n % per) (n / per / 3600) (n / per / 60 % 60) (n / per % 60) short _ _ _ _ (by simp) (by simp) hp0 (by omega) (by omega) (by omega) (by omega) (ln _ _ (by omega) hh) (ln _ _ (by omega) (by omega)) (ln _ _ (by omega) (by omega)) (ln _ _ (by omega) hdg) w
    (fun w0 b0 => padded_any _ _ (by omega) hh w0 (hp.keep b0)) (fun w0 b0 => padded_any _ 2 (by omega) (by omega) w0 (hp.keep b0)) (fun w0 b0 => padded_any _ 2 (by omega) (by omega) w0 (hp.keep b0)) (fun w0 b0 => padded_any _ _ (by omega) hdg w0 (hp.keep b0))
end Go.Proofs.YtaipdckakgohjaaGreatDoor
