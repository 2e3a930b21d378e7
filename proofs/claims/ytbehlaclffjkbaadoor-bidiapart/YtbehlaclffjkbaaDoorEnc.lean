/- Plain facts on encodings: what a rune's encoding is read as. -/
import Derived.Lib.MapLaws
import Derived.Laws.Cover4
import Derived.Laws.IdiomStrings
namespace Go.Proofs.YtbehlaclffjkbaaDoor
open Go.Lib

/-- What a number is as a rune: itself, if it has an encoding, else U+FFFD. -/
def fixN (n : Int) : Nat := if Utf8.valid n = true then n.toNat else 65533

def encN (c : Nat) : List UInt8 :=
  if c < 128 then [UInt8.ofNat c]
  else if c < 2048 then [UInt8.ofNat (192 + c / 64), UInt8.ofNat (128 + c % 64)]
  else if c < 65536 then [UInt8.ofNat (224 + c / 4096), UInt8.ofNat (128 + c / 64 % 64), UInt8.ofNat (128 + c % 64)]
  else [UInt8.ofNat (240 + c / 262144), UInt8.ofNat (128 + c / 4096 % 64), UInt8.ofNat (128 + c / 64 % 64), UInt8.ofNat (128 + c % 64)]
theorem encode_data (n : Int) : (Utf8.encode n).data.toList = encN (fixN n) := by
  unfold Utf8.encode encN fixN
  cases hv : Utf8.valid n
  · rfl
  · simp only [if_true]
    repeat' split
    all_goals first | rfl | omega

def okN (c : Nat) : Prop := c < 55296 ∨ (57344 ≤ c ∧ c ≤ 1114111)
theorem fix_ok (n : Int) : okN (fixN n) := by
  unfold fixN okN
  split
  · rename_i h
    simp [Utf8.valid] at h
    omega
  · omega

theorem dec_enc (c : Nat) (h : okN c) (r : List UInt8) : decodeL (encN c ++ r) = (c, (encN c).length) := by
  rw [decodeL_N]
  unfold okN at h
  unfold encN
  by_cases h1 : c < 128
  · rw [if_pos h1]
    simp only [List.cons_append, List.nil_append, List.getD_cons_zero, UInt8.toNat_ofNat']
    unfold decodeN
    rw [if_pos (by omega)]
    simp
    omega
  · rw [if_neg h1]
    by_cases h2 : c < 2048
    · rw [if_pos h2]
      simp only [List.cons_append, List.nil_append, List.getD_cons_zero, List.getD_cons_succ, UInt8.toNat_ofNat']
      unfold decodeN
      rw [if_neg (by omega), if_pos ⟨by omega, by simp, by omega⟩, if_pos (by omega)]
      simp only [List.length_cons, List.length_nil, Prod.mk.injEq, and_true]
      omega
    · rw [if_neg h2]
      by_cases h3 : c < 65536
      · rw [if_pos h3]
        simp only [List.cons_append, List.nil_append, List.getD_cons_zero, List.getD_cons_succ, UInt8.toNat_ofNat']
        unfold decodeN
        rw [if_neg (by omega), if_neg (by omega), if_pos ⟨by omega, ⟨by simp, by omega⟩, by simp, by omega⟩, if_pos (by omega)]
        simp only [List.length_cons, List.length_nil, Prod.mk.injEq, and_true]
        omega
      · rw [if_neg h3]
        simp only [List.cons_append, List.nil_append, List.getD_cons_zero, List.getD_cons_succ, UInt8.toNat_ofNat']
        unfold decodeN
        rw [if_neg (by omega), if_neg (by omega), if_neg (by omega), if_pos ⟨by omega, ⟨by simp, by omega⟩, ⟨by simp, by omega⟩, by simp, by omega⟩, if_pos (by omega)]
        simp only [List.length_cons, List.length_nil, Prod.mk.injEq, and_true]
        omega
theorem encN_length (c : Nat) : 1 ≤ (encN c).length ∧ (encN c).length ≤ 4 := by
  unfold encN
  repeat' split
  all_goals simp

/-- The bytes of runes, one behind the other. -/
def textL : List Int → List UInt8
  | [] => []
  | n :: l => encN (fixN n) ++ textL l
theorem runesBytes_data (l : List Int) : (runesBytes l).data.toList = textL l := by
  have key : ∀ (l : List Int) (s : ByteArray), (l.foldl (fun r n => r ++ Utf8.encode n) s).data.toList = s.data.toList ++ textL l := by
    intro l
    induction l with
    | nil => intro s; simp [textL]
    | cons n l ih =>
      intro s
      rw [List.foldl_cons, ih, ByteArray.data_append, Array.toList_append, encode_data, textL, List.append_assoc]
  have := key l ByteArray.empty
  simpa [runesBytes] using this
theorem textL_length (l : List Int) : l.length ≤ (textL l).length := by
  induction l with
  | nil => simp [textL]
  | cons n l ih =>
    have := encN_length (fixN n)
    simp only [textL, List.length_append, List.length_cons]
    omega

/-- The runes of the text of runes. -/
theorem runes_text (s : ByteArray) : ∀ (l : List Int) (bound pos : Nat) (acc : Array Value), s.data.toList.drop pos = textL l → l.length ≤ bound → pos + (textL l).length = s.size →
    Conv.runesFrom s bound pos acc = acc ++ (l.map fun n => Value.int .i32 (fixN n : Nat)).toArray := by
  intro l
  induction l with
  | nil =>
    intro bound pos acc hd _ hp
    cases bound with
    | zero => simp [Conv.runesFrom]
    | succ b => simp [Conv.runesFrom, textL] at hp ⊢; intro h; omega
  | cons n l ih =>
    intro bound pos acc hd hb hp
    cases bound with
    | zero => simp at hb
    | succ b =>
      have hdec : Utf8.decode s pos = (fixN n, (encN (fixN n)).length) := by
        rw [← decodeL_drop, hd, textL, dec_enc _ (fix_ok n)]
      have hlen := encN_length (fixN n)
      simp only [textL, List.length_append] at hp
      unfold Conv.runesFrom
      rw [if_pos (by omega), hdec]
      dsimp only
      rw [ih b (pos + (encN (fixN n)).length) _ ?_ (by simpa using hb) (by omega)]
      · simp
      · rw [← List.drop_drop, hd, textL]; simp
end Go.Proofs.YtbehlaclffjkbaaDoor
