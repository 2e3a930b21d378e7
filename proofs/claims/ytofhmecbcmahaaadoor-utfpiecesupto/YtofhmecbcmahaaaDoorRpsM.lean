/- Plain facts: the signs of the text of runes; a repaired text is not repaired again. Contracts of utf.Runes and utf.Text in these words. -/
import Derived.Test.YtofhmecbcmahaaaDoorSeaM
import Derived.Test.YtofhmecbcmahaaaDoorBadW
import Derived.Test.YtofhmecbcmahaaaDoorRoundW
namespace Go.Proofs.YtofhmecbcmahaaaDoor
open Go.RowKit

theorem enc_wide (c : Nat) : (encN c).length = 1 → c < 128 := by
  unfold encN
  repeat' split
  all_goals simp
  all_goals omega
/-- The signs where runes' encodings lie. -/
theorem text_lies2 {s : ByteArray} : ∀ (l : List Int) (p : Nat) (r : List UInt8), s.data.toList.drop p = textL l ++ r → ∃ m, Lies s p m (p + (textL l).length) ∧ m.map Sg.rune = l.map (fun n => ((fixN n : Nat) : Int)) ∧ ∀ x ∈ m, x.bad = false
  | [], p, r, _ => ⟨[], rfl, rfl, fun x h => by simp at h⟩
  | n :: l, p, r, h => by
    have hdec : Utf8.decode s p = (fixN n, (encN (fixN n)).length) := by
      rw [← Lib.decodeL_drop, h, textL, List.append_assoc, dec_enc _ (fix_ok n)]
    have hlen := encN_length (fixN n)
    have hp : p < s.size := by
      have := congrArg List.length h
      rw [List.length_drop, ← Lib.size_eq, textL, List.length_append, List.length_append] at this
      omega
    have hd : s.data.toList.drop (p + (encN (fixN n)).length) = textL l ++ r := by
      rw [← List.drop_drop, h, textL, List.append_assoc, List.drop_left]
    obtain ⟨m, hm, hr, hb⟩ := text_lies2 l (p + (encN (fixN n)).length) r hd
    have hs := sgn_dec s p hp
    refine ⟨sgn s p :: m, ⟨hp, rfl, ?_⟩, ?_, ?_⟩
    · rw [hs.2.1, hdec, textL, List.length_append, ← Nat.add_assoc]
      exact hm
    · rw [List.map_cons, List.map_cons, hr, hs.2.2.1, hdec]
    · intro x hx
      rcases List.mem_cons.1 hx with e0 | hx
      · rw [e0, hs.2.2.2.1]
        unfold badAt
        rw [hdec]
        refine decide_eq_false (fun e => ?_)
        have := enc_wide _ e.2
        have := e.1
        dsimp only at *
        omega
      · exact hb x hx
def textA (l : List Int) : ByteArray := ⟨(textL l).toArray⟩
theorem textA_size (l : List Int) : (textA l).size = (textL l).length := by rw [Lib.size_eq]; rfl
theorem text_signs (l : List Int) : (signs (textA l)).map Sg.rune = l.map (fun n => ((fixN n : Nat) : Int)) ∧ ∀ x ∈ signs (textA l), x.bad = false := by
  obtain ⟨m, h1, h2, h3⟩ := text_lies2 (s := textA l) l 0 [] (by rw [List.drop_zero, List.append_nil]; rfl)
  rw [Nat.zero_add, ← textA_size] at h1
  rw [lies_uniq (signs_lies _) h1]
  exact ⟨h2, h3⟩
theorem dec_ok (s : ByteArray) (p : Nat) (hp : p < s.size) : okN (Utf8.decode s p).1 := by
  cases hb : badAt s p
  · have hne : s.data.toList.drop p ≠ [] := by
      have := Lib.size_eq s
      intro e
      have := congrArg List.length e
      rw [List.length_drop, List.length_nil] at this
      omega
    have hv : ¬ ((Lib.decodeL (s.data.toList.drop p)).1 = 65533 ∧ (Lib.decodeL (s.data.toList.drop p)).2 = 1) := by rw [Lib.decodeL_drop]; exact of_decide_eq_false hb
    have := (encN_take _ hne hv).2
    rwa [Lib.decodeL_drop] at this
  · rw [(sgn_bad s p hb).2.2.2.2.2]
    unfold okN
    simp
/-- A text's runes. -/
def runesL (s : ByteArray) : List Int := (signs s).map Sg.rune
theorem runesL_fix (s : ByteArray) : (runesL s).map (fun n => ((fixN n : Nat) : Int)) = runesL s := by
  unfold runesL
  rw [List.map_map]
  refine List.map_congr_left (fun x hx => ?_)
  obtain ⟨q, h1, h2⟩ := lies_mem (signs_lies s) hx
  show ((fixN x.rune : Nat) : Int) = x.rune
  rw [h2, (sgn_dec s q h1).2.2.1, fix_of_ok _ (dec_ok s q h1)]
theorem rune_runesL (s : ByteArray) : runesL (textA (runesL s)) = runesL s := by
  rw [show runesL (textA (runesL s)) = (signs (textA (runesL s))).map Sg.rune from rfl, (text_signs (runesL s)).1, runesL_fix]
theorem runeB_eq (s : ByteArray) : runeB (sbsL s) = textL (runesL s) := by
  unfold runeB runesL
  rw [← sbsL_map, List.map_map]
  rfl
theorem badN_eq (s : ByteArray) : badN (sbsL s) = (badsL (signs s)).length := by
  unfold badN badsL
  rw [← sbsL_map, List.filter_map, List.length_map]
  rfl
theorem bads_none (l : List Int) : badsL (signs (textA l)) = [] := by
  unfold badsL
  rw [List.filter_eq_nil_iff]
  intro x hx
  rw [(text_signs l).2 x hx]
  simp
theorem count_text (s : ByteArray) : (signs (textA (runesL s))).length = (signs s).length := by
  have := congrArg List.length (rune_runesL s)
  unfold runesL at this
  rwa [List.length_map, List.length_map] at this
theorem runes_from (s : ByteArray) : ∀ (b pos : Nat) (acc : Array Value), Conv.runesFrom s b pos acc = acc ++ ((sgns s b pos).map fun x => Value.int .i32 x.rune).toArray
  | 0, pos, acc => by simp [Conv.runesFrom, sgns]
  | b + 1, pos, acc => by
    unfold Conv.runesFrom sgns
    by_cases hp : pos < s.size
    · rw [if_pos hp, if_pos hp]
      dsimp only
      rw [runes_from s b]
      simp [(sgn_dec s pos hp).2.2.1]
    · rw [if_neg hp, if_neg hp]
      simp
theorem repair_text (s : ByteArray) (hs : s.size ≤ 16777216) (w : World) :
    Calls Tryd.prog 30 #[.string s] w fun e w' => e = .returned (.tuple #[.string (textA (runesL s)), .int .i64 (badsL (signs s)).length]) ∧ Below w.heap.size w w' := by
  have := repair_any s hs w
  rw [runeB_eq, badN_eq] at this
  exact this
theorem runesL_len (s : ByteArray) : (textA (runesL s)).size ≤ 4 * s.size := by
  rw [textA_size, ← runeB_eq]
  have := runeB_le (sbsL s)
  have h2 : (signs s).length ≤ s.size := sgns_length s _ _
  rw [sbsL_length] at this
  omega
/-- The runes of a text lie in new memory. -/
def RunesI (W : World) (B : Nat) (l : List Int) : Prop := ∀ j (h : j < l.length), W.cell? ⟨B, j, none⟩ = some (.int .i32 l[j])
theorem runes_text1 (s : ByteArray) (hs : s.size ≤ 70368744177664) (w : World) :
    Calls Tryd.prog 34 #[.string s] w fun e w' => (∃ cap, e = .returned (.slice (some ⟨w.heap.size, 0, none⟩) (runesL s).length cap)) ∧ RunesI w' w.heap.size (runesL s) ∧ Below w.heap.size w w' := by
  have hl : (runesL s).length ≤ s.size := by unfold runesL; rw [List.length_map]; exact sgns_length s _ _
  have hpos : ∀ x ∈ runesL s, ((x.toNat : Nat) : Int) = x := by
    intro x hx
    unfold runesL at hx
    obtain ⟨y, hy, rfl⟩ := List.mem_map.1 hx
    have := rune_bd hy
    omega
  have h := runes_any w s ((runesL s).map Int.toNat) (by
    have := runes_from s s.size 0 #[]
    rw [this]
    unfold runesL signs
    simp only [List.map_map, Array.empty_append]
    congr 1
    refine List.map_congr_left (fun x hx => ?_)
    have h1 := hpos x.rune (by unfold runesL signs; exact List.mem_map.2 ⟨x, hx, rfl⟩)
    simp only [Function.comp]
    rw [h1]) (by rw [List.length_map]; omega)
  rw [List.length_map] at h
  refine h.mono fun e w' ⟨h1, h2, h3⟩ => ⟨h1, fun j hj => ?_, h3⟩
  have := h2 j (by rw [List.length_map]; exact hj)
  rw [this]
  simp only [List.getElem_map]
  rw [hpos _ (List.getElem_mem hj)]
theorem text_text1 (l : List Int) (w : World) (B cap : Nat) (h : RunesI w B l) :
    Calls Tryd.prog 38 #[.slice (some ⟨B, 0, none⟩) l.length cap] w fun e w' => e = .returned (.string (textA l)) ∧ w' = w := by
  have := text_any w ⟨B, 0, none⟩ l.length cap l (Nat.le_refl _) (fun j hj => by
    have := h j hj
    rw [List.getD_eq_getElem?_getD, List.getElem?_eq_getElem hj]
    by_cases c : j = 0
    · subst c; simpa [Addr.add] using this
    · simpa [Addr.add, c] using this)
  rw [List.take_length, show runesBytes l = textA l from ba_ext (by rw [runesBytes_data]; rfl)] at this
  exact this
end Go.Proofs.YtofhmecbcmahaaaDoor
