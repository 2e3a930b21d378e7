/- Several texts, one behind the other. -/
import Derived.Maps.AppendAt
import Derived.Laws.StructEq
import Derived.Test.YtbiodfeanngkdaaDoorRS
import Derived.Test.YtbiodfeanngkdaaDoorSpM
import Derived.Test.YtbiodfeanngkdaaDoorW4
import Derived.Test.YtbiodfeanngkdaaDoorW6
import Derived.Test.YtbiodfeanngkdaaDoorW7
/- Plain facts on seams: two texts melt just where no sign of both ends at the seam. -/
namespace Go.Proofs.YtbiodfeanngkdaaDoor
open Go.Lib

/-- Of how many bytes the encoding is, and its second byte, by the tables. -/
theorem tab_lead (b : Nat) (h1 : 194 ≤ b) (h2 : b ≤ 244) : ((Lib.firstT b % 8 : Nat) : Int) = longN b ∧ ((Lib.accLo (Lib.firstT b / 16) : Nat) : Int) = secLo b ∧ ((Lib.accHi (Lib.firstT b / 16) : Nat) : Int) = secHi b := by
  have key : ∀ f : Nat, Lib.firstT b = f → ((f % 8 : Nat) : Int) = longN b → ((Lib.accLo (f / 16) : Nat) : Int) = secLo b → ((Lib.accHi (f / 16) : Nat) : Int) = secHi b → ((Lib.firstT b % 8 : Nat) : Int) = longN b ∧ ((Lib.accLo (Lib.firstT b / 16) : Nat) : Int) = secLo b ∧ ((Lib.accHi (Lib.firstT b / 16) : Nat) : Int) = secHi b := by
    rintro f rfl a c d
    exact ⟨a, c, d⟩
  unfold longN secLo secHi at *
  rcases (show b < 224 ∨ b = 224 ∨ (225 ≤ b ∧ b < 237) ∨ b = 237 ∨ (238 ≤ b ∧ b < 240) ∨ b = 240 ∨ (241 ≤ b ∧ b < 244) ∨ b = 244 by omega) with h | rfl | h | rfl | h | rfl | h | rfl
  · refine key 2 (by unfold Lib.firstT; rw [if_neg (by omega), if_neg (by omega), if_pos h]) ?_ ?_ ?_
    · rw [if_neg (by omega), if_pos (by omega)]; rfl
    · rw [if_neg (by omega), if_neg (by omega)]; rfl
    · rw [if_neg (by omega), if_neg (by omega)]; rfl
  · exact key 19 rfl rfl rfl rfl
  · refine key 3 (by unfold Lib.firstT; rw [if_neg (by omega), if_neg (by omega), if_neg (by omega), if_neg (by omega), if_pos (by omega)]) ?_ ?_ ?_
    · rw [if_neg (by omega), if_neg (by omega), if_pos (by omega)]; rfl
    · rw [if_neg (by omega), if_neg (by omega)]; rfl
    · rw [if_neg (by omega), if_neg (by omega)]; rfl
  · exact key 35 rfl rfl rfl rfl
  · refine key 3 (by unfold Lib.firstT; rw [if_neg (by omega), if_neg (by omega), if_neg (by omega), if_neg (by omega), if_neg (by omega), if_neg (by omega), if_pos (by omega)]) ?_ ?_ ?_
    · rw [if_neg (by omega), if_neg (by omega), if_pos (by omega)]; rfl
    · rw [if_neg (by omega), if_neg (by omega)]; rfl
    · rw [if_neg (by omega), if_neg (by omega)]; rfl
  · exact key 52 rfl rfl rfl rfl
  · refine key 4 (by unfold Lib.firstT; rw [if_neg (by omega), if_neg (by omega), if_neg (by omega), if_neg (by omega), if_neg (by omega), if_neg (by omega), if_neg (by omega), if_neg (by omega), if_pos (by omega)]) ?_ ?_ ?_
    · rw [if_neg (by omega), if_neg (by omega), if_neg (by omega), if_pos (by omega)]; rfl
    · rw [if_neg (by omega), if_neg (by omega)]; rfl
    · rw [if_neg (by omega), if_neg (by omega)]; rfl
  · exact key 68 rfl rfl rfl rfl
theorem tab_none (b : Nat) (h : b < 194 ∨ 244 < b) : Lib.firstT b % 8 ≤ 1 := by
  unfold Lib.firstT
  repeat' split
  all_goals omega
theorem acc_in (i : Nat) (h : i ≤ 4) : 128 ≤ Lib.accLo i ∧ Lib.accHi i ≤ 191 := by
  unfold Lib.accLo Lib.accHi
  repeat' split
  all_goals omega
/-- What is open begins with a byte that begins encodings, and goes on with such as go on. -/
theorem open_bytes (t : ByteArray) (h0 : 0 < t.size) (h : fullB t = false) : (194 ≤ (t.get! 0).toNat ∧ (t.get! 0).toNat ≤ 244) ∧ (1 < t.size → 128 ≤ (t.get! 1).toNat ∧ (t.get! 1).toNat ≤ 191) ∧ (2 < t.size → 128 ≤ (t.get! 2).toNat ∧ (t.get! 2).toNat ≤ 191) ∧ t.size ≤ 3 := by
  unfold fullB at h
  rw [if_neg (by omega)] at h
  split at h
  · simp at h
  · rename_i h1
    split at h
    · simp at h
    · rename_i h2
      split at h
      · simp at h
      · rename_i h3
        have hl : 194 ≤ (t.get! 0).toNat ∧ (t.get! 0).toNat ≤ 244 := by
          by_cases c : (t.get! 0).toNat < 194 ∨ 244 < (t.get! 0).toNat
          · have := tab_none _ c; omega
          · omega
        have hb : Lib.firstT (t.get! 0).toNat / 16 ≤ 4 := by
          generalize (t.get! 0).toNat = b at *
          unfold Lib.firstT
          repeat' split
          all_goals omega
        have hs : Lib.firstT (t.get! 0).toNat % 8 ≤ 4 := by
          generalize (t.get! 0).toNat = b at *
          unfold Lib.firstT
          repeat' split
          all_goals omega
        have ha := acc_in _ hb
        exact ⟨hl, fun h => by omega, fun h => by omega, by omega⟩
/-- A good sign's front, that is not the whole of it, is open. -/
theorem front_open (s : ByteArray) (p e : Nat) (hp : p < s.size) (hb : badAt s p = false) (h1 : p < e) (h2 : e < p + (Utf8.decode s p).2) : fullB (s.extract p e) = false := by
  have hd := sgn_dec s p hp
  have ho := one_dec s p hp
  rw [hb] at ho
  simp only [Bool.false_eq_true, if_false] at ho
  have hz : (s.extract p e).size = e - p := by rw [ByteArray.size_extract]; omega
  have k0 := (s.get! p).toNat_lt
  unfold oneR at ho
  dsimp only at ho
  split at ho
  · have := congrArg OneR.bad ho; simp [badR] at this
  split at ho
  · have := congrArg OneR.len ho; simp at this; omega
  split at ho
  · have := congrArg OneR.bad ho; simp [badR] at this
  rename_i n0 n1 hc
  split at ho
  case isFalse => have := congrArg OneR.bad ho; simp [badR] at this
  rename_i hg
  have hlen := congrArg OneR.len ho
  simp only at hlen
  have hlead : 194 ≤ (s.get! p).toNat ∧ (s.get! p).toNat ≤ 244 := by
    have hx := n0
    have hy := n1
    unfold longN at hx hy
    repeat' split at hx
    all_goals repeat' split at hy
    all_goals omega
  obtain ⟨t1, t2, t3⟩ := tab_lead _ hlead.1 hlead.2
  have hc2 : p + 1 < s.size ∧ secondB ((s.get! p).toNat : Int) ((s.get! (p + 1)).toNat : Int) = true := by
    by_cases q : p + 1 < s.size ∧ secondB ((s.get! p).toNat : Int) ((s.get! (p + 1)).toNat : Int) = true
    · exact q
    · exact absurd q hc
  have hsec := hc2.2
  unfold secondB at hsec
  rw [Bool.and_eq_true, decide_eq_true_eq, decide_eq_true_eq] at hsec
  have g0 : (s.extract p e).get! 0 = s.get! p := get_part s p e 0 (by omega)
  unfold fullB
  rw [hz, g0, if_neg (by omega), if_neg (by omega), if_neg, if_neg]
  · rintro ⟨h3, h4⟩
    rw [get_part s p e 2 (by omega)] at h4
    unfold goOn at hg
    rw [Bool.and_eq_true, decide_eq_true_eq, decide_eq_true_eq] at hg
    rcases hg.1 with h | h
    · omega
    · unfold moreB at h
      rw [Bool.and_eq_true, Bool.and_eq_true, decide_eq_true_eq, decide_eq_true_eq, decide_eq_true_eq] at h
      omega
  · rintro ⟨h3, h4⟩
    rw [get_part s p e 1 (by omega)] at h4
    omega
/-- The bytes of a good sign behind its first go on. -/
theorem good_more (s : ByteArray) (p q : Nat) (_hp : p < s.size) (hb : badAt s p = false) (h1 : p < q) (h2 : q < p + (Utf8.decode s p).2) : 128 ≤ (s.get! q).toNat ∧ (s.get! q).toNat ≤ 191 := by
  have hd := Lib.decode_at s p
  unfold badAt at hb
  have hb := of_decide_eq_false hb
  have k0 := (s.get! p).toNat_lt
  have k1 := (s.get! (p + 1)).toNat_lt
  have k2 := (s.get! (p + 2)).toNat_lt
  have k3 := (s.get! (p + 3)).toNat_lt
  rcases Lib.decodeN_shape (s.size - p) (s.get! p).toNat (s.get! (p + 1)).toNat (s.get! (p + 2)).toNat (s.get! (p + 3)).toNat with ⟨c, e⟩ | ⟨c1, c2, c3, cv, e⟩ | ⟨c1, c2, c3, c4, cv, cs, e⟩ | ⟨c1, c2, c3, c4, c5, cv, cw, e⟩ | e
  · rw [hd, e] at h2; simp at h2; omega
  · rw [hd, e] at h2
    simp at h2
    obtain rfl : q = p + 1 := by omega
    omega
  · rw [hd, e] at h2
    simp at h2
    rcases (show q = p + 1 ∨ q = p + 2 by omega) with rfl | rfl <;> omega
  · rw [hd, e] at h2
    simp at h2
    rcases (show q = p + 1 ∨ q = p + 2 ∨ q = p + 3 by omega) with rfl | rfl | rfl <;> omega
  · exact absurd (by rw [hd, e]; exact ⟨rfl, rfl⟩) hb
theorem good_of_wide (s : ByteArray) (p : Nat) (h : 2 ≤ (Utf8.decode s p).2) : badAt s p = false := by
  unfold badAt
  refine decide_eq_false (fun e => ?_)
  omega

/-- Where signs lie, some sign holds each byte. -/
theorem lies_at {s : ByteArray} {q : Nat} : ∀ {l : List Sg} {p e : Nat}, Lies s p l e → p ≤ q → q < e → ∃ k, ∃ f g, l = f ++ sgn s k :: g ∧ Lies s p f k ∧ k ≤ q ∧ q < k + (Utf8.decode s k).2 ∧ k < s.size ∧ Lies s (k + (Utf8.decode s k).2) g e
  | [], p, e, h, h1, h2 => by simp only [Lies] at h; omega
  | x :: l, p, e, h, h1, h2 => by
    obtain ⟨a1, a2, a3⟩ := h
    have hd := (sgn_dec s p a1).2.1
    rw [a2, hd] at a3
    by_cases c : q < p + (Utf8.decode s p).2
    · exact ⟨p, [], l, by rw [a2]; rfl, rfl, h1, c, a1, a3⟩
    · obtain ⟨k, f, g, e1, e2, e3, e4, e5, e6⟩ := lies_at a3 (by omega) h2
      refine ⟨k, x :: f, g, by rw [e1]; rfl, ⟨a1, a2, ?_⟩, e3, e4, e5, e6⟩
      rw [a2, hd]
      exact e2
/-- Where a byte does not go on, a sign begins. -/
theorem lies_lead {s : ByteArray} {q : Nat} {l : List Sg} {p e : Nat} (h : Lies s p l e) (h1 : p ≤ q) (h2 : q < e) (hl : ¬ (128 ≤ (s.get! q).toNat ∧ (s.get! q).toNat ≤ 191)) : ∃ f g, l = f ++ g ∧ Lies s p f q ∧ Lies s q g e := by
  obtain ⟨k, f, g, e1, e2, e3, e4, e5, e6⟩ := lies_at h h1 h2
  by_cases c : k = q
  · subst c
    refine ⟨f, sgn s k :: g, e1, e2, e5, rfl, ?_⟩
    rw [(sgn_dec s k e5).2.1]
    exact e6
  · exact absurd (good_more s k q e5 (good_of_wide s k (by omega)) (by omega) e4) hl

theorem get_app_l (a b : ByteArray) (i : Nat) (h : i < a.size) : (a ++ b).get! i = a.get! i := by
  rw [← Lib.getD_get!', ← Lib.getD_get!', ByteArray.data_append, Array.toList_append]
  rw [Lib.size_eq] at h
  simp only [List.getD_eq_getElem?_getD, List.getElem?_append_left h]
theorem get_app_r (a b : ByteArray) (i : Nat) (h : a.size ≤ i) : (a ++ b).get! i = b.get! (i - a.size) := by
  rw [← Lib.getD_get!', ← Lib.getD_get!', ByteArray.data_append, Array.toList_append]
  rw [Lib.size_eq] at h ⊢
  simp only [List.getD_eq_getElem?_getD, List.getElem?_append_right h]
/-- Where two texts agree on the next four bytes, or end alike, they have the same sign. -/
theorem decode_same (s t : ByteArray) (p q : Nat) (hz : ∀ i, i ≤ 3 → (p + i < s.size ↔ q + i < t.size)) (hg : ∀ i, i ≤ 3 → p + i < s.size → s.get! (p + i) = t.get! (q + i)) (hp : p < s.size) : Utf8.decode s p = Utf8.decode t q := by
  rw [Lib.decode_at, Lib.decode_at]
  have g0 := hg 0 (by omega) hp
  have z1 := hz 1 (by omega)
  have z2 := hz 2 (by omega)
  have z3 := hz 3 (by omega)
  have z0 := hz 0 (by omega)
  simp only [Nat.add_zero] at g0 z0
  rw [g0]
  have a1 : 1 < s.size - p → (s.get! (p + 1)) = t.get! (q + 1) := fun h => hg 1 (by omega) (by omega)
  have a2 : 2 < s.size - p → (s.get! (p + 2)) = t.get! (q + 2) := fun h => hg 2 (by omega) (by omega)
  have a3 : 3 < s.size - p → (s.get! (p + 3)) = t.get! (q + 3) := fun h => hg 3 (by omega) (by omega)
  by_cases hc : s.size - p ≤ t.size - q
  · by_cases e : 3 < s.size - p
    · rw [a1 (by omega), a2 (by omega), a3 (by omega)]
      unfold Lib.decodeN
      simp only [show (1 < s.size - p) ↔ (1 < t.size - q) by omega, show (2 < s.size - p) ↔ (2 < t.size - q) by omega, show (3 < s.size - p) ↔ (3 < t.size - q) by omega]
    · obtain e' : s.size - p = t.size - q := by omega
      rw [e'] at a1 a2 a3 ⊢
      exact cutU _ _ _ _ _ _ _ _ _ (by omega) (Nat.le_refl _) (fun h => by rw [a1 h]) (fun h => by rw [a2 h]) (fun h => by rw [a3 h]) (by have := (sgn_dec t q (by omega)).2.2.2.2.2; rw [Lib.decode_at] at this; omega)
  · have e : 3 < s.size - p := by omega
    rw [a1 (by omega), a2 (by omega), a3 (by omega)]
    unfold Lib.decodeN
    simp only [show (1 < s.size - p) ↔ (1 < t.size - q) by omega, show (2 < s.size - p) ↔ (2 < t.size - q) by omega, show (3 < s.size - p) ↔ (3 < t.size - q) by omega]
theorem openN_at (a : ByteArray) : ∀ n, n ≤ a.size → (openN a n).size = 0 ∨ ∃ k, 1 ≤ k ∧ k ≤ n ∧ openN a n = a.extract (a.size - k) a.size ∧ fullB (a.extract (a.size - k) a.size) = false
  | 0, _ => by simp [openN]
  | n + 1, h => by
    unfold openN
    split
    · rcases openN_at a n (by omega) with e | ⟨k, h1, h2, h3⟩
      · exact .inl e
      · exact .inr ⟨k, h1, by omega, h3⟩
    · rename_i hf
      exact .inr ⟨n + 1, by omega, Nat.le_refl _, rfl, by simpa using hf⟩
theorem openN_long (a : ByteArray) : ∀ n k, n ≤ a.size → 1 ≤ k → k ≤ n → fullB (a.extract (a.size - k) a.size) = false → k ≤ (openN a n).size
  | 0, k, h, h1, h2, _ => by omega
  | n + 1, k, h, h1, h2, hf => by
    unfold openN
    split
    · rename_i hq
      refine openN_long a n k (by omega) h1 ?_ hf
      by_cases e : k = n + 1
      · subst e; rw [hf] at hq; simp at hq
      · omega
    · rw [ByteArray.size_extract]; omega
theorem firstL_cons {t : ByteArray} {x : Sg} {r : List Sg} (h : signs t = x :: r) : firstL t = x.len := by unfold firstL; rw [h]
theorem firstL_at (t : ByteArray) (h : 0 < t.size) : firstL t = (Utf8.decode t 0).2 := by
  obtain ⟨n, hn⟩ : ∃ n, t.size = n + 1 := ⟨t.size - 1, by omega⟩
  have e : signs t = sgn t 0 :: sgns t n (0 + (Utf8.decode t 0).2) := by unfold signs; rw [hn, sgns, if_pos h]
  rw [firstL_cons e]
  exact (sgn_dec t 0 h).2.1
theorem ba_ext {a b : ByteArray} (h : a.data.toList = b.data.toList) : a = b := by
  cases a; cases b
  simp only [Array.toList_inj] at h
  rw [h]
theorem meltsB_open (a b : ByteArray) : meltsB a b = true ↔ 0 < (openE a).size ∧ (openE a).size < firstL (openE a ++ b.extract 0 (min b.size 4)) := by
  unfold meltsB
  rw [Bool.and_eq_true, decide_eq_true_eq, Lib.toList_data]
  have : (!(openE a).data.toList.isEmpty) = true ↔ 0 < (openE a).size := by
    rw [Lib.size_eq]
    cases (openE a).data.toList <;> simp
  rw [this]
/-- How the sign at an open end goes on into what stands behind. -/
theorem seam_decode (a b : ByteArray) (k : Nat) (h1 : 1 ≤ k) (h2 : k ≤ 3) (h3 : k ≤ a.size) : Utf8.decode (a.extract (a.size - k) a.size ++ b.extract 0 (min b.size 4)) 0 = Utf8.decode (a ++ b) (a.size - k) := by
  have hz : (a.extract (a.size - k) a.size).size = k := by rw [ByteArray.size_extract]; omega
  have hy : (b.extract 0 (min b.size 4)).size = min b.size 4 := by rw [ByteArray.size_extract]; omega
  refine decode_same _ _ _ _ (fun i hi => ?_) (fun i hi hs => ?_) ?_
  · rw [ByteArray.size_append, ByteArray.size_append, hz, hy]
    omega
  · rw [ByteArray.size_append, hz, hy] at hs
    by_cases c : i < k
    · rw [get_app_l _ _ _ (by omega), get_app_l _ _ _ (by omega), get_part _ _ _ _ (by omega)]
      congr 1
      omega
    · rw [get_app_r _ _ _ (by omega), get_app_r _ _ _ (by omega), hz, get_part _ _ _ _ (by omega)]
      congr 1
      omega
  · rw [ByteArray.size_append, hz]; omega
/-- Two texts melt just where no sign of both begins or ends at the seam. -/
theorem melts_iff (a b : ByteArray) : meltsB a b = true ↔ ¬ ∃ l, Lies (a ++ b) 0 l a.size := by
  have hsz : (a ++ b).size = a.size + b.size := ByteArray.size_append
  rw [meltsB_open]
  constructor
  · rintro ⟨h0, h1⟩ ⟨l, hl⟩
    rcases openN_at a (min a.size 3) (by omega) with e | ⟨k, k1, k2, k3, k4⟩
    · unfold openE at h0; omega
    · have hk : (a.extract (a.size - k) a.size).size = k := by rw [ByteArray.size_extract]; omega
      have he : openE a = a.extract (a.size - k) a.size := k3
      rw [he, hk, firstL_at _ (by rw [ByteArray.size_append, hk]; omega), seam_decode a b k k1 (by omega) (by omega)] at h1
      obtain ⟨o1, o2, o3, o4⟩ := open_bytes _ (by omega) k4
      have g0 : (a ++ b).get! (a.size - k) = (a.extract (a.size - k) a.size).get! 0 := by
        rw [get_app_l _ _ _ (by omega), get_part _ _ _ _ (by omega)]
        rfl
      rw [← g0] at o1
      obtain ⟨f, g, _, _, hg⟩ := lies_lead hl (q := a.size - k) (by omega) (by omega) (by omega)
      cases g with
      | nil => simp only [Lies] at hg; omega
      | cons x g =>
        obtain ⟨x1, x2, x3⟩ := hg
        have := lies_le x3
        rw [x2, (sgn_dec _ _ x1).2.1] at this
        omega
  · intro hn
    by_cases ha : a.size = 0
    · exact absurd ⟨[], show 0 = a.size by omega⟩ hn
    by_cases hb : b.size = 0
    · exact absurd ⟨signs (a ++ b), by have := signs_lies (a ++ b); rw [hsz, hb] at this; exact this⟩ hn
    obtain ⟨p, f, g, e1, e2, e3, e4, e5, e6⟩ := lies_at (signs_lies (a ++ b)) (q := a.size) (by omega) (by omega)
    have hp : p < a.size := by
      by_cases c : p = a.size
      · subst c; exact absurd ⟨f, e2⟩ hn
      · omega
    have hgood := good_of_wide (a ++ b) p (by omega)
    have hw4 : (Utf8.decode (a ++ b) p).2 ≤ 4 := by
      have := (sgn (a ++ b) p).small
      rw [(sgn_dec _ p e5).2.1] at this
      exact this
    have hopen := front_open (a ++ b) p a.size e5 hgood hp e4
    have hx : (a ++ b).extract p a.size = a.extract (a.size - (a.size - p)) a.size := by
      refine ba_ext ?_
      rw [Lib.extract_data, Lib.extract_data, ByteArray.data_append, Array.toList_append, List.drop_append_of_le_length (by rw [← Lib.size_eq]; omega), List.take_append_of_le_length (by rw [List.length_drop, ← Lib.size_eq]; omega), show a.size - (a.size - p) = p by omega]
    rw [hx] at hopen
    have hlong := openN_long a (min a.size 3) (a.size - p) (by omega) (by omega) (by omega) hopen
    have hE : (openE a).size = a.size - p ∧ openE a = a.extract (a.size - (a.size - p)) a.size := by
      rcases openN_at a (min a.size 3) (by omega) with e | ⟨k, k1, k2, k3, k4⟩
      · omega
      · have hk : (a.extract (a.size - k) a.size).size = k := by rw [ByteArray.size_extract]; omega
        have he : openE a = a.extract (a.size - k) a.size := k3
        have : k = a.size - p := by
          have hkk : a.size - p ≤ k := by rw [← hk, ← k3]; exact hlong
          by_cases c : k = a.size - p
          · exact c
          · exfalso
            obtain ⟨o1, o2, o3, o4⟩ := open_bytes _ (by omega) k4
            have hfirst : 194 ≤ ((a ++ b).get! p).toNat := by
              have := (open_bytes _ (by rw [ByteArray.size_extract]; omega) hopen).1.1
              rw [get_part _ _ _ _ (by omega), ← get_app_l a b _ (by omega), show a.size - (a.size - p) + 0 = p by omega] at this
              exact this
            have g : ∀ i, i < k → (a.extract (a.size - k) a.size).get! i = (a ++ b).get! (a.size - k + i) := fun i hi => by
              rw [get_part _ _ _ _ (by omega), ← get_app_l a b _ (by omega)]
            rw [hk] at o2 o3 o4
            rcases (show p = a.size - k + 1 ∨ p = a.size - k + 2 by omega) with e | e
            · have := o2 (by omega)
              rw [g 1 (by omega), ← e] at this
              omega
            · have := o3 (by omega)
              rw [g 2 (by omega), ← e] at this
              omega
        subst this
        exact ⟨by rw [he, hk], he⟩
    refine ⟨by omega, ?_⟩
    rw [hE.1, hE.2]
    have hk : (a.extract (a.size - (a.size - p)) a.size).size = a.size - p := by rw [ByteArray.size_extract]; omega
    rw [firstL_at _ (by rw [ByteArray.size_append, hk]; omega), seam_decode a b (a.size - p) (by omega) (by omega) (by omega), show a.size - (a.size - p) = p by omega]
    omega
end Go.Proofs.YtbiodfeanngkdaaDoor

/- The contract of the statements' own all: the signs that utf.Signs goes over, as a list. -/
namespace Go.Proofs.YtbiodfeanngkdaaDoor
open Go.RowKit Go.Shelf
attribute [local go_sem] Oper.semAt_some

/-- Signs as the cells of a list. -/
def flatSg (l : List Sg) : List Value := l.flatMap fun x => [.int .i64 x.loc, .int .i64 x.len, .int .i32 x.rune, .bool x.bad]
theorem flatSg_snoc (l : List Sg) (x : Sg) : flatSg (l ++ [x]) = flatSg l ++ [.int .i64 x.loc, .int .i64 x.len, .int .i32 x.rune, .bool x.bad] := by simp [flatSg]
theorem infoSign : (Tryd.prog.info? 55).map (fun i => (i.zero, i.size, i.bytes)) = some (some (.agg #[.int .i64 0, .int .i64 0, .int .i32 0, .bool false]), 4, 24) := by kernel_rfl
def HoldsSigns (W : World) (base : Nat) (v : Value) (l : List Sg) : Prop := W.ownsRow base 55 4 v l.length (flatSg l)
theorem cell_four_new (w : World) (a b c d : Value) (t : TypeId) : ∀ j u, [a, b, c, d][j]? = some u → (w.alloc (.cells #[a, b, c, d] t)).cell? ((⟨w.heap.size, 0, none⟩ : Addr).add j) = some u := by
  intro j u hj
  match j, hj with
  | 0, hj => simp at hj; subst hj; simp [Addr.add]
  | 1, hj => simp at hj; subst hj; simp [Addr.add]
  | 2, hj => simp at hj; subst hj; simp [Addr.add]
  | 3, hj => simp at hj; subst hj; simp [Addr.add]
  | j + 4, hj => simp at hj

end Go.Proofs.YtbiodfeanngkdaaDoor

/- Contracts of the document's own Count, Pairs and all (surtitleref1), and of the statements' Alike. -/
namespace Go.Proofs.YtbiodfeanngkdaaDoor
open Go.RowKit

theorem spotAt_zero (s : ByteArray) : spotAt s 0 = ⟨0, 0, 0⟩ := rfl

theorem flatS_get : ∀ (l : List Sg) (n : Nat) (h : n < l.length), (flatSg l)[n * 4]? = some (.int .i64 l[n].loc) ∧ (flatSg l)[n * 4 + 1]? = some (.int .i64 l[n].len) ∧ (flatSg l)[n * 4 + 2]? = some (.int .i32 l[n].rune) ∧ (flatSg l)[n * 4 + 3]? = some (.bool l[n].bad)
  | [], _, h => by simp at h
  | x :: r, 0, _ => by simp [flatSg]
  | x :: r, n + 1, h => by
    have := flatS_get r n (by simpa using h)
    have e : flatSg (x :: r) = .int .i64 x.loc :: .int .i64 x.len :: .int .i32 x.rune :: .bool x.bad :: flatSg r := by simp [flatSg]
    rw [e, show (n + 1) * 4 = n * 4 + 1 + 1 + 1 + 1 by omega]
    simpa using this
/-- The four cells of a sign of the program's list. -/
def SAt (W : World) (g n : Nat) (x : Sg) : Prop := W.cell? ⟨g, n * 4, none⟩ = some (.int .i64 x.loc) ∧ W.cell? ⟨g, n * 4 + 1, none⟩ = some (.int .i64 x.len) ∧ W.cell? ⟨g, n * 4 + 2, none⟩ = some (.int .i32 x.rune) ∧ W.cell? ⟨g, n * 4 + 3, none⟩ = some (.bool x.bad)
theorem SAt.below {W W' : World} {g n m : Nat} {x : Sg} (h : SAt W g n x) (hb : Below m W W') (hg : g < m) : SAt W' g n x :=
  ⟨(hb.cell (p := ⟨g, n * 4, none⟩) hg).trans h.1, (hb.cell (p := ⟨g, n * 4 + 1, none⟩) hg).trans h.2.1, (hb.cell (p := ⟨g, n * 4 + 2, none⟩) hg).trans h.2.2.1, (hb.cell (p := ⟨g, n * 4 + 3, none⟩) hg).trans h.2.2.2⟩
theorem alls_at {W : World} {base e : Nat} {v : Value} {l : List Sg} (h : W.ownsRow base e 4 v l.length (flatSg l)) :
    ∃ oa cap, v = .slice oa l.length cap ∧ ∀ n (hn : n < l.length), ∃ g, oa = some ⟨g, 0, none⟩ ∧ g < W.heap.size ∧ base ≤ g ∧ SAt W g n l[n] := by
  obtain ⟨h1, ⟨rfl, h0⟩ | ⟨g, cap, cur, rfl, hg, hh, hn, hcap, hsz, htake⟩⟩ := h
  · exact ⟨none, 0, by rw [h0], fun n hn => by omega⟩
  · refine ⟨some ⟨g, 0, none⟩, cap, rfl, fun n hn => ⟨g, rfl, (Array.getElem?_eq_some_iff.1 hh).1, hg, ?_⟩⟩
    obtain ⟨f0, f1, f2, f3⟩ := flatS_get l n hn
    rw [← htake, List.getElem?_take, if_pos (by omega), Array.getElem?_toList] at f0 f1 f2 f3
    exact ⟨by simpa [World.cell?, hh] using f0, by simpa [World.cell?, hh] using f1, by simpa [World.cell?, hh] using f2, by simpa [World.cell?, hh] using f3⟩

theorem dec_bd (s : ByteArray) (p : Nat) : (Utf8.decode s p).1 ≤ 1114111 := by
  rw [Lib.decode_at]
  have k0 := (s.get! p).toNat_lt
  rcases Lib.decodeN_shape (s.size - p) (s.get! p).toNat (s.get! (p + 1)).toNat (s.get! (p + 2)).toNat (s.get! (p + 3)).toNat with ⟨c, e⟩ | ⟨c1, c2, c3, cv, e⟩ | ⟨c1, c2, c3, c4, cv, cs, e⟩ | ⟨c1, c2, c3, c4, c5, cv, cw, e⟩ | e
  all_goals
    rw [e]
    dsimp only
    omega
theorem lies_mem {s : ByteArray} {x : Sg} : ∀ {l : List Sg} {p e : Nat}, Lies s p l e → x ∈ l → ∃ q, q < s.size ∧ x = sgn s q
  | [], _, _, _, h => by simp at h
  | y :: l, p, e, h, hx => by
    obtain ⟨h1, h2, h3⟩ := h
    rcases List.mem_cons.1 hx with rfl | hx
    · exact ⟨p, h1, h2⟩
    · exact lies_mem h3 hx
theorem rune_bd {s : ByteArray} {x : Sg} (h : x ∈ signs s) : 0 ≤ x.rune ∧ x.rune ≤ 1114111 := by
  obtain ⟨q, h1, h2⟩ := lies_mem (signs_lies s) h
  have := dec_bd s q
  rw [h2, (sgn_dec s q h1).2.2.1]
  omega
end Go.Proofs.YtbiodfeanngkdaaDoor

/- The contract of the document's own Melts (surtitleref1), and what it says of utf.Melts. -/
namespace Go.Proofs.YtbiodfeanngkdaaDoor
open Go.RowKit

theorem extract_app_l (a b : ByteArray) : (a ++ b).extract 0 a.size = a := by
  refine ba_ext ?_
  rw [Lib.extract_data, List.drop_zero, Nat.sub_zero, ByteArray.data_append, Array.toList_append, Lib.size_eq, List.take_left]
theorem extract_app_r (a b : ByteArray) : (a ++ b).extract a.size (a.size + b.size) = b := by
  refine ba_ext ?_
  rw [Lib.extract_data, ByteArray.data_append, Array.toList_append, Lib.size_eq a, List.drop_left, Lib.size_eq b, List.take_of_length_le (by omega)]
theorem up_zero (l : List Sg) : l.map (Sg.up 0) = l := by
  induction l with
  | nil => rfl
  | cons x l ih => rw [List.map_cons, ih]; rfl
/-- Two texts melt just if the signs of both behind one another are not theirs. -/
theorem melts_signs (a b : ByteArray) : meltsB a b = true ↔ signs (a ++ b) ≠ signs a ++ (signs b).map (Sg.up a.size) := by
  have hsz : (a ++ b).size = a.size + b.size := ByteArray.size_append
  rw [melts_iff]
  constructor
  · intro h e
    have hl := signs_lies (a ++ b)
    rw [e] at hl
    obtain ⟨q, h1, h2⟩ := lies_split hl
    refine h ⟨signs a, ?_⟩
    have s1 := stepsF_b ⟨0, 0, 0⟩ h1
    have s2 := stepsF_b ⟨0, 0, 0⟩ (signs_lies a)
    rw [s1] at s2
    have : q = a.size := by simp at s2; omega
    rwa [this] at h1
  · rintro h ⟨l, hl⟩
    apply h
    obtain ⟨p, f, hf⟩ : ∃ m, ∃ f, f = l ++ m ∧ Lies (a ++ b) a.size m (a.size + b.size) := by
      refine ⟨sgns (a ++ b) (a ++ b).size a.size, _, rfl, ?_⟩
      have := sgns_lies (a ++ b) (a ++ b).size a.size (by omega) (by omega)
      rwa [hsz] at this ⊢
    have h1 : signs (a ++ b) = l ++ p := by
      refine lies_uniq (signs_lies (a ++ b)) ?_
      rw [hsz]
      exact lies_append hl hf.2
    have h2 := signs_part hl (by omega)
    rw [up_zero, extract_app_l] at h2
    have h3 := signs_part hf.2 (by omega)
    rw [extract_app_r] at h3
    rw [h1, h2, h3]

end Go.Proofs.YtbiodfeanngkdaaDoor
