/- Plain facts on streams: what is told of a text whose end is held back ends where a sign does; a text of runes has no open end. -/
import Derived.Test.YtofhmecbcmahaaaDoorCofM
import Derived.Test.YtofhmecbcmahaaaDoorRpsM
namespace Go.Proofs.YtofhmecbcmahaaaDoor

/-- A part of a text that begins at told: without its open end it ends where a sign does. -/
theorem stream_step (s : ByteArray) (told E : Nat) (h1 : told ≤ E) (h2 : E ≤ s.size) :
    (openE (s.extract told E)).size ≤ 3 ∧ (openE (s.extract told E)).size ≤ E - told ∧ ∃ m, Lies s told m (E - (openE (s.extract told E)).size) := by
  have hz : (s.extract told E).size = E - told := by rw [ByteArray.size_extract]; omega
  have hM := sgns_lies s s.size told (by omega) (by omega)
  have ho := openN_size (s.extract told E) (min (s.extract told E).size 3)
  have ho3 := openE_size (s.extract told E)
  refine ⟨ho3, by rw [hz] at ho; unfold openE; rw [hz]; omega, ?_⟩
  rcases openN_at (s.extract told E) (min (s.extract told E).size 3) (by omega) with e | ⟨k, k1, k2, k3, k4⟩
  · have e0 : (openE (s.extract told E)).size = 0 := e
    rw [e0, Nat.sub_zero]
    by_cases c1 : E = s.size
    · rw [c1]; exact ⟨_, hM⟩
    · obtain ⟨p, f, g, a1, a2, a3, a4, a5, a6⟩ := lies_at hM (q := E) h1 (by omega)
      have hpt := lies_le a2
      by_cases c2 : p = E
      · rw [← c2]; exact ⟨f, a2⟩
      · exfalso
        have hgood := good_of_wide s p (by omega)
        have hw4 : (Utf8.decode s p).2 ≤ 4 := by
          have := (sgn s p).small
          rw [(sgn_dec s p a5).2.1] at this
          exact this
        have hopen := front_open s p E a5 hgood (by omega) a4
        have hx : s.extract p E = (s.extract told E).extract ((s.extract told E).size - (E - p)) (s.extract told E).size := by
          rw [hz, extract_extract' s told E (E - told - (E - p)) (E - told) (by omega), show told + (E - told - (E - p)) = p by omega, show told + (E - told) = E by omega]
        rw [hx] at hopen
        have := openN_long (s.extract told E) (min (s.extract told E).size 3) (E - p) (by omega) (by omega) (by omega) hopen
        omega
  · have he : openE (s.extract told E) = (s.extract told E).extract ((s.extract told E).size - k) (s.extract told E).size := k3
    have hk : (openE (s.extract told E)).size = k := by rw [he, ByteArray.size_extract]; omega
    rw [hk]
    obtain ⟨o1, _, _, _⟩ := open_bytes _ (by rw [ByteArray.size_extract]; omega) k4
    have g0 : ((s.extract told E).extract ((s.extract told E).size - k) (s.extract told E).size).get! 0 = s.get! (E - k) := by
      rw [get_part _ _ _ _ (by omega), get_part _ _ _ _ (by omega), show told + ((s.extract told E).size - k + 0) = E - k by rw [hz]; omega]
    rw [g0] at o1
    obtain ⟨f, g, _, hf, _⟩ := lies_lead hM (q := E - k) (by omega) (by omega) (by omega)
    exact ⟨f, hf⟩
/-- A good sign that begins with a byte of an encoding of several is as long as the tables say. -/
theorem good_long (s : ByteArray) (p : Nat) (hp : p < s.size) (hb : badAt s p = false) (h : 194 ≤ (s.get! p).toNat) (h' : (s.get! p).toNat ≤ 244) : Lib.firstT (s.get! p).toNat % 8 = (Utf8.decode s p).2 := by
  have ho := one_dec s p hp
  rw [hb] at ho
  simp only [Bool.false_eq_true, if_false] at ho
  obtain ⟨t1, _, _⟩ := tab_lead _ h h'
  unfold oneR at ho
  dsimp only at ho
  split at ho
  · have := congrArg OneR.bad ho; simp [badR] at this
  split at ho
  · rename_i e
    exfalso
    unfold longN at e
    rw [if_neg (by omega)] at e
    repeat' split at e
    all_goals omega
  split at ho
  · have := congrArg OneR.bad ho; simp [badR] at this
  split at ho
  case isFalse => have := congrArg OneR.bad ho; simp [badR] at this
  have := congrArg OneR.len ho
  simp only at this
  omega
/-- The text of runes has no open end. -/
theorem text_shut (l : List Int) : (openE (textA l)).size = 0 := by
  rcases openN_at (textA l) (min (textA l).size 3) (by omega) with e | ⟨k, k1, k2, k3, k4⟩
  · exact e
  · exfalso
    obtain ⟨o1, _, _, _⟩ := open_bytes _ (by rw [ByteArray.size_extract]; omega) k4
    have g0 : ((textA l).extract ((textA l).size - k) (textA l).size).get! 0 = (textA l).get! ((textA l).size - k) := by
      rw [get_part _ _ _ _ (by omega)]
      rfl
    rw [g0] at o1
    obtain ⟨f, g, e, hf, hg⟩ := lies_lead (signs_lies (textA l)) (q := (textA l).size - k) (by omega) (by omega) (by omega)
    cases g with
    | nil => simp only [Lies] at hg; omega
    | cons x g =>
      obtain ⟨x1, x2, x3⟩ := hg
      have hle := lies_le x3
      have hbad := (text_signs l).2 x (by rw [e]; simp)
      have hd := sgn_dec _ _ x1
      rw [x2] at hbad hle
      rw [hd.2.2.2.1] at hbad
      rw [hd.2.1] at hle
      have hlong := good_long _ _ x1 hbad o1.1 o1.2
      unfold fullB at k4
      rw [g0, hlong] at k4
      have hz : ((textA l).extract ((textA l).size - k) (textA l).size).size = k := by rw [ByteArray.size_extract]; omega
      rw [hz, if_neg (by omega), if_pos (by omega)] at k4
      cases k4
end Go.Proofs.YtofhmecbcmahaaaDoor
