/- Plain facts: the text of a text's runes has no open end; a text and nothing do not melt. -/
import Derived.Test.YtofhmecbcmahaaaDoorRepW
import Derived.Test.YtofhmecbcmahaaaDoorRMlt
namespace Go.Proofs.YtofhmecbcmahaaaDoor

/-- Where runes' encodings lie one behind the other, signs do. -/
theorem text_lies {s : ByteArray} : ∀ (l : List Int) (p : Nat) (r : List UInt8), s.data.toList.drop p = textL l ++ r → ∃ m, Lies s p m (p + (textL l).length)
  | [], p, r, _ => ⟨[], rfl⟩
  | n :: l, p, r, h => by
    have hdec : Utf8.decode s p = (fixN n, (encN (fixN n)).length) := by
      rw [← Lib.decodeL_drop, h, textL, List.append_assoc, dec_enc _ (fix_ok n)]
    have hlen := encN_length (fixN n)
    have hp : p < s.size := by
      have := congrArg List.length h
      rw [List.length_drop, ← Lib.size_eq, textL, List.length_append, List.length_append] at this
      omega
    have hd : s.data.toList.drop (p + (encN (fixN n)).length) = textL l ++ r := by
      rw [← List.drop_drop, h, textL, List.append_assoc, List.drop_left]
    obtain ⟨m, hm⟩ := text_lies l (p + (encN (fixN n)).length) r hd
    refine ⟨sgn s p :: m, hp, rfl, ?_⟩
    rw [(sgn_dec s p hp).2.1, hdec, textL, List.length_append, ← Nat.add_assoc]
    exact hm
theorem texts_apart (l m : List Int) : meltsB ⟨(textL l).toArray⟩ ⟨(textL m).toArray⟩ = false := by
  cases h : meltsB ⟨(textL l).toArray⟩ ⟨(textL m).toArray⟩
  · rfl
  · exfalso
    refine (melts_iff _ _).1 h ?_
    obtain ⟨k, hk⟩ := text_lies (s := ⟨(textL l).toArray⟩ ++ ⟨(textL m).toArray⟩) l 0 (textL m) (by rw [List.drop_zero, ByteArray.data_append, Array.toList_append])
    refine ⟨k, ?_⟩
    rw [Nat.zero_add] at hk
    exact hk
theorem melts_none_r (a : ByteArray) : meltsB a ByteArray.empty = false := by
  cases h : meltsB a ByteArray.empty
  · rfl
  · exfalso
    refine (melts_iff _ _).1 h ⟨signs a, ?_⟩
    have : a ++ ByteArray.empty = a := ba_ext (by rw [ByteArray.data_append, Array.toList_append]; simp)
    rw [this]
    exact signs_lies a
theorem melts_none_l (b : ByteArray) : meltsB ByteArray.empty b = false := by
  cases h : meltsB ByteArray.empty b
  · rfl
  · exfalso
    exact (melts_iff _ _).1 h ⟨[], rfl⟩
theorem sg_beq (x z : Sg) : (!((x.loc : Int) == z.loc && ((x.len : Int) == z.len && (x.rune == z.rune && x.bad == z.bad)))) = false ↔ x = z := by
  constructor
  · intro h
    simp at h
    exact sg_ext (by omega) (by omega) h.2.2.1 h.2.2.2
  · rintro rfl
    simp
end Go.Proofs.YtofhmecbcmahaaaDoor
