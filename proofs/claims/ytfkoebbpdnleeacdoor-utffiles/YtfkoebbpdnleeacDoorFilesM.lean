/- Plain facts on lines: each begins where the one ahead has ended; the last one ends at the end. -/
import Derived.Test.YtfkoebbpdnleeacDoorLinesW
import Derived.Lib.TrimUEq
import Derived.Lib.SpaceUEq
namespace Go.Proofs.YtfkoebbpdnleeacDoor

def goodFrom {s : ByteArray} : Nat → List (Ln s) → Prop
  | _, [] => True
  | p, x :: r => x.loc = p ∧ goodFrom x.next r
def curFrom {s : ByteArray} (p : Nat) (l : List (Ln s)) : Nat := l.foldl (fun _ x => x.next) p
theorem curFrom_snoc {s : ByteArray} (p : Nat) (l : List (Ln s)) (x : Ln s) : curFrom p (l ++ [x]) = x.next := by simp [curFrom]
theorem goodFrom_snoc {s : ByteArray} : ∀ (l : List (Ln s)) (p : Nat) (x : Ln s), goodFrom p (l ++ [x]) ↔ goodFrom p l ∧ x.loc = curFrom p l
  | [], p, x => by simp [goodFrom, curFrom]
  | y :: r, p, x => by
    simp only [List.cons_append, goodFrom, goodFrom_snoc r y.next x, curFrom, List.foldl_cons, and_assoc]
theorem goodFrom_front {s : ByteArray} : ∀ (l m : List (Ln s)) (p : Nat), goodFrom p (l ++ m) → goodFrom p l
  | [], _, _, _ => trivial
  | _ :: r, m, _, h => ⟨h.1, goodFrom_front r m _ h.2⟩
theorem linesF_good (s : ByteArray) : ∀ (f p : Nat), s.size ≤ p + f → p ≤ s.size → goodFrom p (linesF s f p) ∧ curFrom p (linesF s f p) = s.size
  | 0, p, h, hp => ⟨trivial, by simp [linesF, curFrom]; omega⟩
  | f + 1, p, h, hp => by
    unfold linesF
    split
    · rename_i hlt
      have hn := (lnAt s p hlt).next_lt
      have hl : (lnAt s p hlt).loc = p := rfl
      rw [hl] at hn
      obtain ⟨h1, h2⟩ := linesF_good s f (lnAt s p hlt).next (by omega) hn.2
      exact ⟨⟨rfl, h1⟩, h2⟩
    · exact ⟨trivial, by simp [curFrom]; omega⟩
theorem lines_good (s : ByteArray) : goodFrom 0 (lines s) ∧ curFrom 0 (lines s) = s.size := linesF_good s _ 0 (by omega) (by omega)

theorem crlf_iff (s : ByteArray) (q : Nat) : isPre crlf (s.extract q s.size) = true ↔ q + 1 < s.size ∧ (s.get! q).toNat = 13 ∧ (s.get! (q + 1)).toNat = 10 := by
  unfold isPre
  rw [Bool.and_eq_true, decide_eq_true_eq, beq_iff_eq, Lib.toList_data, Lib.toList_data, Lib.extract_data, Lib.extract_data, ByteArray.size_extract]
  have hc : crlf.size = 2 := rfl
  have hd : crlf.data.toList = [13, 10] := rfl
  rw [hc, hd]
  have hl := Lib.size_eq s
  have hin : List.take (s.size - q) (List.drop q s.data.toList) = List.drop q s.data.toList := List.take_of_length_le (by rw [List.length_drop]; omega)
  rw [hin, List.drop_zero, Nat.sub_zero]
  by_cases hq : q + 1 < s.size
  · rw [Lib.take2 _ (by rw [List.length_drop]; omega), Lib.getD_dropU, Lib.getD_dropU, Lib.getD_get!', Lib.getD_get!', Nat.add_zero]
    have e13 : ∀ b : UInt8, b = 13 ↔ b.toNat = 13 := fun b => ⟨fun h => by rw [h]; rfl, fun h => UInt8.toNat_inj.1 (by rw [h]; rfl)⟩
    have e10 : ∀ b : UInt8, b = 10 ↔ b.toNat = 10 := fun b => ⟨fun h => by rw [h]; rfl, fun h => UInt8.toNat_inj.1 (by rw [h]; rfl)⟩
    simp only [List.cons.injEq, and_true, e13, e10]
    constructor
    · rintro ⟨_, h⟩; exact ⟨hq, h⟩
    · rintro ⟨_, h⟩; exact ⟨by omega, h⟩
  · constructor
    · rintro ⟨h1, _⟩; omega
    · rintro ⟨h1, _⟩; omega
theorem endL_crlf (s : ByteArray) (q : Nat) (h1 : q + 1 < s.size) (h2 : (s[q]'(by omega)).toNat = 13) (h3 : s[q + 1].toNat = 10) : endL (s.extract q s.size) = 2 := by
  unfold endL
  rw [if_pos ((crlf_iff s q).2 ⟨h1, by rw [show s.get! q = s[q] from get_at s q (by omega)]; exact h2, by rw [show s.get! (q + 1) = s[q + 1] from get_at s (q + 1) h1]; exact h3⟩)]
theorem endL_one (s : ByteArray) (q : Nat) (h0 : q < s.size) (h : ¬ (s[q].toNat = 13 ∧ ∃ h1 : q + 1 < s.size, s[q + 1].toNat = 10)) : endL (s.extract q s.size) = 1 := by
  unfold endL
  rw [if_neg (fun hp => ?_)]
  · rw [ByteArray.size_extract]; omega
  · obtain ⟨h1, h2, h3⟩ := (crlf_iff s q).1 hp
    rw [show s.get! q = s[q] from get_at s q (by omega)] at h2
    rw [show s.get! (q + 1) = s[q + 1] from get_at s (q + 1) h1] at h3
    exact h ⟨h2, h1, h3⟩
theorem endL_none (s : ByteArray) (q : Nat) (h0 : ¬ q < s.size) : endL (s.extract q s.size) = 0 := by
  have := endL_bd (s.extract q s.size)
  rw [ByteArray.size_extract] at this
  omega

end Go.Proofs.YtfkoebbpdnleeacDoor
