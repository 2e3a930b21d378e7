/- Plain facts on signs: a good sign is its rune's own encoding; a bad one is a byte of 0x80 or above. -/
import Derived.Test.YtbiodfeanngkdaaDoorEnc
import Derived.Test.YtbiodfeanngkdaaDoorW1
namespace Go.Proofs.YtbiodfeanngkdaaDoor
open Go.Lib

theorem encN_take (l : List UInt8) (hne : l ≠ []) (hv : ¬ ((decodeL l).1 = 65533 ∧ (decodeL l).2 = 1)) : encN (decodeL l).1 = l.take (decodeL l).2 ∧ okN (decodeL l).1 := by
  have hl : 0 < l.length := List.length_pos_iff.2 hne
  rw [decodeL_N] at hv ⊢
  have k0 := (l.getD 0 0).toNat_lt
  have k1 := (l.getD 1 0).toNat_lt
  have k2 := (l.getD 2 0).toNat_lt
  have k3 := (l.getD 3 0).toNat_lt
  have ob : ∀ (n : Nat) (x : UInt8), n = x.toNat → UInt8.ofNat n = x := fun n x h => by rw [h]; simp
  unfold encN okN
  rcases decodeN_shape l.length (l.getD 0 0).toNat (l.getD 1 0).toNat (l.getD 2 0).toNat (l.getD 3 0).toNat with ⟨c, e⟩ | ⟨c1, c2, c3, cv, e⟩ | ⟨c1, c2, c3, c4, cv, cs, e⟩ | ⟨c1, c2, c3, c4, c5, cv, cw, e⟩ | e
  · rw [e]
    refine ⟨?_, by dsimp only; omega⟩
    dsimp only
    rw [if_pos c, takeA l hl, ob _ _ rfl]
  · rw [e]
    refine ⟨?_, by dsimp only; omega⟩
    dsimp only
    rw [if_neg (by omega), if_pos (by omega), takeB l c2, ob _ (l.getD 0 0) (by omega), ob _ (l.getD 1 0) (by omega)]
  · rw [e]
    refine ⟨?_, by dsimp only; omega⟩
    dsimp only
    rw [if_neg (by omega), if_neg (by omega), if_pos (by omega), takeC l c2, ob _ (l.getD 0 0) (by omega), ob _ (l.getD 1 0) (by omega), ob _ (l.getD 2 0) (by omega)]
  · rw [e]
    refine ⟨?_, by dsimp only; omega⟩
    dsimp only
    rw [if_neg (by omega), if_neg (by omega), if_neg (by omega), takeD l c2, ob _ (l.getD 0 0) (by omega), ob _ (l.getD 1 0) (by omega), ob _ (l.getD 2 0) (by omega), ob _ (l.getD 3 0) (by omega)]
  · exact absurd (by rw [e]; exact ⟨rfl, rfl⟩) hv
theorem fix_of_ok (c : Nat) (h : okN c) : fixN (c : Int) = c := by
  unfold okN at h
  unfold fixN
  rw [if_pos (by simp [Utf8.valid]; omega)]
  simp

/-- The bad sign. -/
def badAt (s : ByteArray) (p : Nat) : Bool := decide ((Utf8.decode s p).1 = 65533 ∧ (Utf8.decode s p).2 = 1)

theorem isPre_iff (a b : ByteArray) : isPre a b = true ↔ a.data.toList <+: b.data.toList := by
  unfold isPre
  rw [Bool.and_eq_true, decide_eq_true_eq, beq_iff_eq, toList_data, toList_data, extract_data, List.drop_zero, Nat.sub_zero, size_eq a, size_eq b]
  constructor
  · rintro ⟨_, h⟩; rw [← h]; exact List.take_prefix _ _
  · rintro h; exact ⟨h.length_le, (List.prefix_iff_eq_take.1 h).symm⟩

theorem sgn_good (s : ByteArray) (p : Nat) (hp : p < s.size) (h : badAt s p = false) :
    (sgn s p).loc = p ∧ (sgn s p).len = (Utf8.decode s p).2 ∧ (sgn s p).rune = (Utf8.decode s p).1 ∧ (sgn s p).bad = false ∧ (Utf8.encode ((Utf8.decode s p).1 : Int)).data.toList = (s.data.toList.drop p).take (Utf8.decode s p).2 ∧ p + (Utf8.decode s p).2 ≤ s.size := by
  have hne : s.data.toList.drop p ≠ [] := by
    have := size_eq s
    intro e
    have := congrArg List.length e
    rw [List.length_drop, List.length_nil] at this
    omega
  have hb : ¬ ((decodeL (s.data.toList.drop p)).1 = 65533 ∧ (decodeL (s.data.toList.drop p)).2 = 1) := by rw [decodeL_drop]; exact of_decide_eq_false h
  obtain ⟨h1, h2⟩ := encN_take _ hne hb
  have h3 := decodeL_le _ hne
  rw [decodeL_drop] at h1 h2 h3
  have h4 : (Utf8.encode ((Utf8.decode s p).1 : Int)).data.toList = (s.data.toList.drop p).take (Utf8.decode s p).2 := by rw [encode_data, fix_of_ok _ h2, h1]
  have h5 : p + (Utf8.decode s p).2 ≤ s.size := by rw [List.length_drop, ← size_eq] at h3; omega
  have h6 : isPre (Utf8.encode ((Utf8.decode s p).1 : Int)) (s.extract p s.size) = true := by
    have hin : List.take (s.size - p) (List.drop p s.data.toList) = List.drop p s.data.toList := List.take_of_length_le (by rw [List.length_drop, ← size_eq]; omega)
    rw [isPre_iff, h4, extract_data, hin]
    exact List.take_prefix _ _
  have h7 : (Utf8.encode ((Utf8.decode s p).1 : Int)).size = (Utf8.decode s p).2 := by
    rw [size_eq, h4, List.length_take, List.length_drop, ← size_eq]
    omega
  unfold sgn sgnR
  rw [if_pos h6]
  refine ⟨?_, ?_, ?_, ?_, h4, h5⟩
  · dsimp only
  · dsimp only
    exact h7
  · dsimp only
  · dsimp only

theorem sgn_bad (s : ByteArray) (p : Nat) (h : badAt s p = true) :
    (sgn s p).loc = p ∧ (sgn s p).len = 1 ∧ (sgn s p).rune = 65533 ∧ (sgn s p).bad = true ∧ 128 ≤ (s.get! p).toNat ∧ Utf8.decode s p = (65533, 1) := by
  obtain ⟨h1, h2⟩ := of_decide_eq_true h
  have hd : Utf8.decode s p = (65533, 1) := Prod.ext h1 h2
  have h128 : 128 ≤ (s.get! p).toNat := by
    have := decode_at s p
    rw [hd] at this
    unfold decodeN at this
    by_cases hb : (s.get! p).toNat < 128
    · rw [if_pos hb] at this
      have := congrArg Prod.fst this
      simp at this
      omega
    · omega
  have h6 : isPre (Utf8.encode ((Utf8.decode s p).1 : Int)) (s.extract p s.size) = false := by
    cases hq : isPre (Utf8.encode ((Utf8.decode s p).1 : Int)) (s.extract p s.size)
    · rfl
    · exfalso
      rw [isPre_iff, extract_data, List.take_of_length_le (by rw [List.length_drop, ← size_eq]; omega), hd] at hq
      obtain ⟨r, hr⟩ := hq
      have hh := dec_enc 65533 (by unfold okN; omega) r
      rw [show (Utf8.encode ((65533 : Nat) : Int)).data.toList = encN 65533 from rfl] at hr
      rw [hr, decodeL_drop, hd] at hh
      simp [encN] at hh
  unfold sgn sgnR
  rw [if_neg (by rw [h6]; simp)]
  exact ⟨rfl, rfl, rfl, rfl, h128, hd⟩
end Go.Proofs.YtbiodfeanngkdaaDoor
