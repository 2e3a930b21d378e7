/- Several texts, one behind the other. -/
import Derived.Lib.MapLaws
import Derived.Laws.Cover4
import Derived.Laws.IdiomStrings
import Derived.WalkKit
import Derived.WalkSpells
import Derived.WalkLawsBesides
import Derived.Laws.NewBlocks
import Derived.Deep.RegionHeld
import Derived.Lib.RuneCountTail
import Derived.Maps.AppendAt
import Derived.Test.YthhhglfcacoejaaGreatDoorGS
import Derived.Test.YthhhglfcacoejaaGreatDoorW1
import Derived.Test.YthhhglfcacoejaaGreatDoorW4
/- Plain facts on encodings: what a rune's encoding is read as. -/
namespace Go.Proofs.YthhhglfcacoejaaGreatDoor
open Go.Lib

/-- What a number is as a rune: itself, if it has an encoding, else U+FFFD. -/
def fixN (n : Int) : Nat := if Utf8.valid n = true then n.toNat else 65533

def encN (c : Nat) : List UInt8 :=
  if c < 128 then [UInt8.ofNat c]
  else if c < 2048 then [UInt8.ofNat (192 + c / 64), UInt8.ofNat (128 + c % 64)]
  else if c < 65536 then [UInt8.ofNat (224 + c / 4096), UInt8.ofNat (128 + c / 64 % 64), UInt8.ofNat (128 + c % 64)]
  else [UInt8.ofNat (240 + c / 262144), UInt8.ofNat (128 + c / 4096 % 64), UInt8.ofNat (128 + c / 64 % 64), UInt8.ofNat (128 + c % 64)]
theorem encode_data (n : Int) : (Utf8.encode n).data.toList = encN (fixN n) := by
  unfold Utf8.encode encN fixN
  cases hv : Utf8.valid n
  · rfl
  · simp only [if_true]
    repeat' split
    all_goals first | rfl | omega

def okN (c : Nat) : Prop := c < 55296 ∨ (57344 ≤ c ∧ c ≤ 1114111)
theorem fix_ok (n : Int) : okN (fixN n) := by
  unfold fixN okN
  split
  · rename_i h
    simp [Utf8.valid] at h
    omega
  · omega

theorem dec_enc (c : Nat) (h : okN c) (r : List UInt8) : decodeL (encN c ++ r) = (c, (encN c).length) := by
  rw [decodeL_N]
  unfold okN at h
  unfold encN
  by_cases h1 : c < 128
  · rw [if_pos h1]
    simp only [List.cons_append, List.nil_append, List.getD_cons_zero, UInt8.toNat_ofNat']
    unfold decodeN
    rw [if_pos (by omega)]
    simp
    omega
  · rw [if_neg h1]
    by_cases h2 : c < 2048
    · rw [if_pos h2]
      simp only [List.cons_append, List.nil_append, List.getD_cons_zero, List.getD_cons_succ, UInt8.toNat_ofNat']
      unfold decodeN
      rw [if_neg (by omega), if_pos ⟨by omega, by simp, by omega⟩, if_pos (by omega)]
      simp only [List.length_cons, List.length_nil, Prod.mk.injEq, and_true]
      omega
    · rw [if_neg h2]
      by_cases h3 : c < 65536
      · rw [if_pos h3]
        simp only [List.cons_append, List.nil_append, List.getD_cons_zero, List.getD_cons_succ, UInt8.toNat_ofNat']
        unfold decodeN
        rw [if_neg (by omega), if_neg (by omega), if_pos ⟨by omega, ⟨by simp, by omega⟩, by simp, by omega⟩, if_pos (by omega)]
        simp only [List.length_cons, List.length_nil, Prod.mk.injEq, and_true]
        omega
      · rw [if_neg h3]
        simp only [List.cons_append, List.nil_append, List.getD_cons_zero, List.getD_cons_succ, UInt8.toNat_ofNat']
        unfold decodeN
        rw [if_neg (by omega), if_neg (by omega), if_neg (by omega), if_pos ⟨by omega, ⟨by simp, by omega⟩, ⟨by simp, by omega⟩, by simp, by omega⟩, if_pos (by omega)]
        simp only [List.length_cons, List.length_nil, Prod.mk.injEq, and_true]
        omega
theorem encN_length (c : Nat) : 1 ≤ (encN c).length ∧ (encN c).length ≤ 4 := by
  unfold encN
  repeat' split
  all_goals simp

/-- The bytes of runes, one behind the other. -/
def textL : List Int → List UInt8
  | [] => []
  | n :: l => encN (fixN n) ++ textL l
theorem runesBytes_data (l : List Int) : (runesBytes l).data.toList = textL l := by
  have key : ∀ (l : List Int) (s : ByteArray), (l.foldl (fun r n => r ++ Utf8.encode n) s).data.toList = s.data.toList ++ textL l := by
    intro l
    induction l with
    | nil => intro s; simp [textL]
    | cons n l ih =>
      intro s
      rw [List.foldl_cons, ih, ByteArray.data_append, Array.toList_append, encode_data, textL, List.append_assoc]
  have := key l ByteArray.empty
  simpa [runesBytes] using this
theorem textL_length (l : List Int) : l.length ≤ (textL l).length := by
  induction l with
  | nil => simp [textL]
  | cons n l ih =>
    have := encN_length (fixN n)
    simp only [textL, List.length_append, List.length_cons]
    omega

/-- The runes of the text of runes. -/
theorem runes_text (s : ByteArray) : ∀ (l : List Int) (bound pos : Nat) (acc : Array Value), s.data.toList.drop pos = textL l → l.length ≤ bound → pos + (textL l).length = s.size →
    Conv.runesFrom s bound pos acc = acc ++ (l.map fun n => Value.int .i32 (fixN n : Nat)).toArray := by
  intro l
  induction l with
  | nil =>
    intro bound pos acc hd _ hp
    cases bound with
    | zero => simp [Conv.runesFrom]
    | succ b => simp [Conv.runesFrom, textL] at hp ⊢; intro h; omega
  | cons n l ih =>
    intro bound pos acc hd hb hp
    cases bound with
    | zero => simp at hb
    | succ b =>
      have hdec : Utf8.decode s pos = (fixN n, (encN (fixN n)).length) := by
        rw [← decodeL_drop, hd, textL, dec_enc _ (fix_ok n)]
      have hlen := encN_length (fixN n)
      simp only [textL, List.length_append] at hp
      unfold Conv.runesFrom
      rw [if_pos (by omega), hdec]
      dsimp only
      rw [ih b (pos + (encN (fixN n)).length) _ ?_ (by simpa using hb) (by omega)]
      · simp
      · rw [← List.drop_drop, hd, textL]; simp
end Go.Proofs.YthhhglfcacoejaaGreatDoor

/- Plain facts on signs: a good sign is its rune's own encoding; a bad one is a byte of 0x80 or above. -/
namespace Go.Proofs.YthhhglfcacoejaaGreatDoor
open Go.Lib

theorem encN_take (l : List UInt8) (hne : l ≠ []) (hv : ¬ ((decodeL l).1 = 65533 ∧ (decodeL l).2 = 1)) : encN (decodeL l).1 = l.take (decodeL l).2 ∧ okN (decodeL l).1 := by
  have hl : 0 < l.length := List.length_pos_iff.2 hne
  rw [decodeL_N] at hv ⊢
  have k0 := (l.getD 0 0).toNat_lt
  have k1 := (l.getD 1 0).toNat_lt
  have k2 := (l.getD 2 0).toNat_lt
  have k3 := (l.getD 3 0).toNat_lt
  have ob : ∀ (n : Nat) (x : UInt8), n = x.toNat → UInt8.ofNat n = x := fun n x h => by rw [h]; simp
  unfold encN okN
  rcases decodeN_shape l.length (l.getD 0 0).toNat (l.getD 1 0).toNat (l.getD 2 0).toNat (l.getD 3 0).toNat with ⟨c, e⟩ | ⟨c1, c2, c3, cv, e⟩ | ⟨c1, c2, c3, c4, cv, cs, e⟩ | ⟨c1, c2, c3, c4, c5, cv, cw, e⟩ | e
  · rw [e]
    refine ⟨?_, by dsimp only; omega⟩
    dsimp only
    rw [if_pos c, takeA l hl, ob _ _ rfl]
  · rw [e]
    refine ⟨?_, by dsimp only; omega⟩
    dsimp only
    rw [if_neg (by omega), if_pos (by omega), takeB l c2, ob _ (l.getD 0 0) (by omega), ob _ (l.getD 1 0) (by omega)]
  · rw [e]
    refine ⟨?_, by dsimp only; omega⟩
    dsimp only
    rw [if_neg (by omega), if_neg (by omega), if_pos (by omega), takeC l c2, ob _ (l.getD 0 0) (by omega), ob _ (l.getD 1 0) (by omega), ob _ (l.getD 2 0) (by omega)]
  · rw [e]
    refine ⟨?_, by dsimp only; omega⟩
    dsimp only
    rw [if_neg (by omega), if_neg (by omega), if_neg (by omega), takeD l c2, ob _ (l.getD 0 0) (by omega), ob _ (l.getD 1 0) (by omega), ob _ (l.getD 2 0) (by omega), ob _ (l.getD 3 0) (by omega)]
  · exact absurd (by rw [e]; exact ⟨rfl, rfl⟩) hv
theorem fix_of_ok (c : Nat) (h : okN c) : fixN (c : Int) = c := by
  unfold okN at h
  unfold fixN
  rw [if_pos (by simp [Utf8.valid]; omega)]
  simp

/-- The bad sign. -/
def badAt (s : ByteArray) (p : Nat) : Bool := decide ((Utf8.decode s p).1 = 65533 ∧ (Utf8.decode s p).2 = 1)

theorem isPre_iff (a b : ByteArray) : isPre a b = true ↔ a.data.toList <+: b.data.toList := by
  unfold isPre
  rw [Bool.and_eq_true, decide_eq_true_eq, beq_iff_eq, toList_data, toList_data, extract_data, List.drop_zero, Nat.sub_zero, size_eq a, size_eq b]
  constructor
  · rintro ⟨_, h⟩; rw [← h]; exact List.take_prefix _ _
  · rintro h; exact ⟨h.length_le, (List.prefix_iff_eq_take.1 h).symm⟩

theorem sgn_good (s : ByteArray) (p : Nat) (hp : p < s.size) (h : badAt s p = false) :
    (sgn s p).loc = p ∧ (sgn s p).len = (Utf8.decode s p).2 ∧ (sgn s p).rune = (Utf8.decode s p).1 ∧ (sgn s p).bad = false ∧ (Utf8.encode ((Utf8.decode s p).1 : Int)).data.toList = (s.data.toList.drop p).take (Utf8.decode s p).2 ∧ p + (Utf8.decode s p).2 ≤ s.size := by
  have hne : s.data.toList.drop p ≠ [] := by
    have := size_eq s
    intro e
    have := congrArg List.length e
    rw [List.length_drop, List.length_nil] at this
    omega
  have hb : ¬ ((decodeL (s.data.toList.drop p)).1 = 65533 ∧ (decodeL (s.data.toList.drop p)).2 = 1) := by rw [decodeL_drop]; exact of_decide_eq_false h
  obtain ⟨h1, h2⟩ := encN_take _ hne hb
  have h3 := decodeL_le _ hne
  rw [decodeL_drop] at h1 h2 h3
  have h4 : (Utf8.encode ((Utf8.decode s p).1 : Int)).data.toList = (s.data.toList.drop p).take (Utf8.decode s p).2 := by rw [encode_data, fix_of_ok _ h2, h1]
  have h5 : p + (Utf8.decode s p).2 ≤ s.size := by rw [List.length_drop, ← size_eq] at h3; omega
  have h6 : isPre (Utf8.encode ((Utf8.decode s p).1 : Int)) (s.extract p s.size) = true := by
    have hin : List.take (s.size - p) (List.drop p s.data.toList) = List.drop p s.data.toList := List.take_of_length_le (by rw [List.length_drop, ← size_eq]; omega)
    rw [isPre_iff, h4, extract_data, hin]
    exact List.take_prefix _ _
  have h7 : (Utf8.encode ((Utf8.decode s p).1 : Int)).size = (Utf8.decode s p).2 := by
    rw [size_eq, h4, List.length_take, List.length_drop, ← size_eq]
    omega
  unfold sgn sgnR
  rw [if_pos h6]
  refine ⟨?_, ?_, ?_, ?_, h4, h5⟩
  · dsimp only
  · dsimp only
    exact h7
  · dsimp only
  · dsimp only

theorem sgn_bad (s : ByteArray) (p : Nat) (h : badAt s p = true) :
    (sgn s p).loc = p ∧ (sgn s p).len = 1 ∧ (sgn s p).rune = 65533 ∧ (sgn s p).bad = true ∧ 128 ≤ (s.get! p).toNat ∧ Utf8.decode s p = (65533, 1) := by
  obtain ⟨h1, h2⟩ := of_decide_eq_true h
  have hd : Utf8.decode s p = (65533, 1) := Prod.ext h1 h2
  have h128 : 128 ≤ (s.get! p).toNat := by
    have := decode_at s p
    rw [hd] at this
    unfold decodeN at this
    by_cases hb : (s.get! p).toNat < 128
    · rw [if_pos hb] at this
      have := congrArg Prod.fst this
      simp at this
      omega
    · omega
  have h6 : isPre (Utf8.encode ((Utf8.decode s p).1 : Int)) (s.extract p s.size) = false := by
    cases hq : isPre (Utf8.encode ((Utf8.decode s p).1 : Int)) (s.extract p s.size)
    · rfl
    · exfalso
      rw [isPre_iff, extract_data, List.take_of_length_le (by rw [List.length_drop, ← size_eq]; omega), hd] at hq
      obtain ⟨r, hr⟩ := hq
      have hh := dec_enc 65533 (by unfold okN; omega) r
      rw [show (Utf8.encode ((65533 : Nat) : Int)).data.toList = encN 65533 from rfl] at hr
      rw [hr, decodeL_drop, hd] at hh
      simp [encN] at hh
  unfold sgn sgnR
  rw [if_neg (by rw [h6]; simp)]
  exact ⟨rfl, rfl, rfl, rfl, h128, hd⟩
end Go.Proofs.YthhhglfcacoejaaGreatDoor

/- Contracts of the document's own small functions on bytes (surtitleref1): long, second, more, rest. -/
namespace Go.Proofs.YthhhglfcacoejaaGreatDoor
open Go.RowKit

/-- Of how many bytes the encoding is that a byte begins; 0: none. -/
def longN (c : Int) : Int := if c < 128 then 1 else if 194 ≤ c ∧ c ≤ 223 then 2 else if 224 ≤ c ∧ c ≤ 239 then 3 else if 240 ≤ c ∧ c ≤ 244 then 4 else 0
set_option maxHeartbeats 400000 in
theorem long_any (c : Int) (w : World) : Calls Tryz.prog 125 #[.int .u8 c] w fun e w' => e = .returned (.int .i64 (longN c)) ∧ w' = w := by
  unfold longN
  by_cases h1 : c < 128
  · rw [if_pos h1]
    go_enter Tryz.func125, Tryz.ntmps125
    go_wp2
    go_ret
    exact ⟨rfl, rfl⟩
  · rw [if_neg h1]
    by_cases h2 : 194 ≤ c ∧ c ≤ 223
    · rw [if_pos h2]
      obtain ⟨h2, h3⟩ := h2
      go_enter Tryz.func125, Tryz.ntmps125
      go_wp2
      go_ret
      exact ⟨rfl, rfl⟩
    · rw [if_neg h2]
      by_cases h4 : 224 ≤ c ∧ c ≤ 239
      · rw [if_pos h4]
        obtain ⟨h4, h5⟩ := h4
        clear h2
        go_enter Tryz.func125, Tryz.ntmps125
        go_wp2
        go_ret
        exact ⟨rfl, rfl⟩
      · rw [if_neg h4]
        by_cases h6 : 240 ≤ c ∧ c ≤ 244
        · rw [if_pos h6]
          obtain ⟨h6, h7⟩ := h6
          clear h2 h4
          go_enter Tryz.func125, Tryz.ntmps125
          go_wp2
          go_ret
          exact ⟨rfl, rfl⟩
        · rw [if_neg h6]
          have hr : c < 194 ∨ 244 < c := by omega
          clear h2 h4 h6
          rcases hr with hr | hr
          all_goals
            go_enter Tryz.func125, Tryz.ntmps125
            go_wp2
            go_ret
            exact ⟨rfl, rfl⟩

/-- From which to which byte the second one may be, behind a first one. -/
def secLo (c : Int) : Int := if c = 224 then 160 else if c = 240 then 144 else 128
def secHi (c : Int) : Int := if c = 237 then 159 else if c = 244 then 143 else 191
def secondB (c d : Int) : Bool := decide (secLo c ≤ d) && decide (d ≤ secHi c)
set_option maxHeartbeats 1000000 in
theorem second_any (c d : Int) (w : World) : Calls Tryz.prog 126 #[.int .u8 c, .int .u8 d] w fun e w' => e = .returned (.bool (secondB c d)) ∧ w' = w := by
  by_cases e224 : c = 224
  · subst e224
    by_cases h1 : d < 160
    · rw [show secondB 224 d = false from by unfold secondB; rw [show secLo 224 = 160 from rfl, show secHi 224 = 191 from rfl]; simp; omega]
      go_enter Tryz.func126, Tryz.ntmps126
      go_wp2
      go_ret
      exact ⟨rfl, rfl⟩
    · by_cases h2 : d ≤ 191
      · rw [show secondB 224 d = true from by unfold secondB; rw [show secLo 224 = 160 from rfl, show secHi 224 = 191 from rfl]; simp; omega]
        go_enter Tryz.func126, Tryz.ntmps126
        go_wp2
        go_ret
        exact ⟨rfl, rfl⟩
      · rw [show secondB 224 d = false from by unfold secondB; rw [show secLo 224 = 160 from rfl, show secHi 224 = 191 from rfl]; simp; omega]
        go_enter Tryz.func126, Tryz.ntmps126
        go_wp2
        go_ret
        exact ⟨rfl, rfl⟩
  · have t224 : (c == 224) = false := beq_eq_false_iff_ne.2 e224
    by_cases e237 : c = 237
    · subst e237
      by_cases h1 : d < 128
      · rw [show secondB 237 d = false from by unfold secondB; rw [show secLo 237 = 128 from rfl, show secHi 237 = 159 from rfl]; simp; omega]
        go_enter Tryz.func126, Tryz.ntmps126
        go_wp2
        go_ret
        exact ⟨rfl, rfl⟩
      · by_cases h2 : d ≤ 159
        · rw [show secondB 237 d = true from by unfold secondB; rw [show secLo 237 = 128 from rfl, show secHi 237 = 159 from rfl]; simp; omega]
          go_enter Tryz.func126, Tryz.ntmps126
          go_wp2
          go_ret
          exact ⟨rfl, rfl⟩
        · rw [show secondB 237 d = false from by unfold secondB; rw [show secLo 237 = 128 from rfl, show secHi 237 = 159 from rfl]; simp; omega]
          go_enter Tryz.func126, Tryz.ntmps126
          go_wp2
          go_ret
          exact ⟨rfl, rfl⟩
    · have t237 : (c == 237) = false := beq_eq_false_iff_ne.2 e237
      by_cases e240 : c = 240
      · subst e240
        by_cases h1 : d < 144
        · rw [show secondB 240 d = false from by unfold secondB; rw [show secLo 240 = 144 from rfl, show secHi 240 = 191 from rfl]; simp; omega]
          go_enter Tryz.func126, Tryz.ntmps126
          go_wp2
          go_ret
          exact ⟨rfl, rfl⟩
        · by_cases h2 : d ≤ 191
          · rw [show secondB 240 d = true from by unfold secondB; rw [show secLo 240 = 144 from rfl, show secHi 240 = 191 from rfl]; simp; omega]
            go_enter Tryz.func126, Tryz.ntmps126
            go_wp2
            go_ret
            exact ⟨rfl, rfl⟩
          · rw [show secondB 240 d = false from by unfold secondB; rw [show secLo 240 = 144 from rfl, show secHi 240 = 191 from rfl]; simp; omega]
            go_enter Tryz.func126, Tryz.ntmps126
            go_wp2
            go_ret
            exact ⟨rfl, rfl⟩
      · have t240 : (c == 240) = false := beq_eq_false_iff_ne.2 e240
        by_cases e244 : c = 244
        · subst e244
          by_cases h1 : d < 128
          · rw [show secondB 244 d = false from by unfold secondB; rw [show secLo 244 = 128 from rfl, show secHi 244 = 143 from rfl]; simp; omega]
            go_enter Tryz.func126, Tryz.ntmps126
            go_wp2
            go_ret
            exact ⟨rfl, rfl⟩
          · by_cases h2 : d ≤ 143
            · rw [show secondB 244 d = true from by unfold secondB; rw [show secLo 244 = 128 from rfl, show secHi 244 = 143 from rfl]; simp; omega]
              go_enter Tryz.func126, Tryz.ntmps126
              go_wp2
              go_ret
              exact ⟨rfl, rfl⟩
            · rw [show secondB 244 d = false from by unfold secondB; rw [show secLo 244 = 128 from rfl, show secHi 244 = 143 from rfl]; simp; omega]
              go_enter Tryz.func126, Tryz.ntmps126
              go_wp2
              go_ret
              exact ⟨rfl, rfl⟩
        · have t244 : (c == 244) = false := beq_eq_false_iff_ne.2 e244
          have l1 : secLo c = 128 := by unfold secLo; rw [if_neg e224, if_neg e240]
          have l2 : secHi c = 191 := by unfold secHi; rw [if_neg e237, if_neg e244]
          have L1 : Hid (secLo c = 128) := l1
          have L2 : Hid (secHi c = 191) := l2
          clear l1 l2 e224 e237 e240 e244
          by_cases h1 : d < 128
          · rw [show secondB c d = false from by unfold secondB; rw [L1.out, L2.out]; simp; omega]
            go_enter Tryz.func126, Tryz.ntmps126
            go_wp2
            go_ret
            exact ⟨rfl, rfl⟩
          · by_cases h2 : d ≤ 191
            · rw [show secondB c d = true from by unfold secondB; rw [L1.out, L2.out]; simp; omega]
              go_enter Tryz.func126, Tryz.ntmps126
              go_wp2
              go_ret
              exact ⟨rfl, rfl⟩
            · rw [show secondB c d = false from by unfold secondB; rw [L1.out, L2.out]; simp; omega]
              go_enter Tryz.func126, Tryz.ntmps126
              go_wp2
              go_ret
              exact ⟨rfl, rfl⟩

/-- The bytes of s, laid out from the beginning of a block on. -/
def BytesAt (W : World) (B : Nat) (s : ByteArray) : Prop := ∀ k (h : k < s.size), W.cell? ⟨B, k, none⟩ = some (.int .u8 s[k].toNat)

set_option maxHeartbeats 400000 in
theorem rest_any (w : World) (B cap : Nat) (s : ByteArray) (k : Nat) (hk : k < s.size) (_hs : s.size ≤ 140737488355328) (hb : BytesAt w B s) :
    Calls Tryz.prog 127 #[.slice (some ⟨B, 0, none⟩) s.size cap, .int .i64 k] w fun e w' => e = .returned (.int .i64 (s[k].toNat - 128)) ∧ w' = w := by
  have hc := hb k hk
  clear hb
  have hlt := s[k].toNat_lt
  go_enter Tryz.func127, Tryz.ntmps127
  go_wp2
  go_ret
  exact ⟨rfl, rfl⟩

def moreB (s : ByteArray) (k : Nat) : Bool := decide (k < s.size) && (decide (128 ≤ (s.get! k).toNat) && decide ((s.get! k).toNat ≤ 191))
set_option maxHeartbeats 400000 in
theorem more_any (w : World) (B cap : Nat) (s : ByteArray) (k : Nat) (_hs : s.size ≤ 140737488355328) (hb : BytesAt w B s) :
    Calls Tryz.prog 128 #[.slice (some ⟨B, 0, none⟩) s.size cap, .int .i64 k] w fun e w' => e = .returned (.bool (moreB s k)) ∧ w' = w := by
  by_cases hk : k < s.size
  · have hc := hb k hk
    clear hb
    have hg : s.get! k = s[k] := get_at s k hk
    by_cases h1 : 128 ≤ s[k].toNat
    · by_cases h2 : s[k].toNat ≤ 191
      · rw [show moreB s k = true from by unfold moreB; rw [hg]; simp [hk, h1, h2]]
        clear hg
        go_enter Tryz.func128, Tryz.ntmps128
        go_wp2
        go_ret
        exact ⟨by simp; omega, rfl⟩
      · rw [show moreB s k = false from by unfold moreB; rw [hg]; simp [hk, h2]]
        clear hg
        go_enter Tryz.func128, Tryz.ntmps128
        go_wp2
        go_ret
        exact ⟨by simp; omega, rfl⟩
    · rw [show moreB s k = false from by unfold moreB; rw [hg]; simp [hk, h1]]
      clear hg
      go_enter Tryz.func128, Tryz.ntmps128
      go_wp2
      go_ret
      exact ⟨rfl, rfl⟩
  · clear hb
    rw [show moreB s k = false from by unfold moreB; simp [hk]]
    go_enter Tryz.func128, Tryz.ntmps128
    go_wp2
    go_ret
    exact ⟨rfl, rfl⟩
end Go.Proofs.YthhhglfcacoejaaGreatDoor

/- The contract of the document's own one (surtitleref1): the sign at a place of laid bytes. -/
namespace Go.Proofs.YthhhglfcacoejaaGreatDoor
open Go.RowKit

/-- What is gathered of the bytes behind the first, up to the k-th. -/
def rr (s : ByteArray) (p : Nat) : Nat → Int
  | 0 => 0
  | 1 => 0
  | 2 => ((s.get! (p + 1)).toNat : Int) - 128
  | k + 3 => 64 * rr s p (k + 2) + (((s.get! (p + (k + 2))).toNat : Int) - 128)

structure OneR where
  len : Nat
  rune : Int
  bad : Bool
def OneR.val (x : OneR) (p : Nat) : Value := .agg #[.int .i64 p, .int .i64 x.len, .int .i64 x.rune, .bool x.bad]
def badR : OneR := ⟨1, 65533, true⟩
def leadN (n : Nat) (c : Int) : Int := if n = 2 then 64 * (c - 192) else if n = 3 then 4096 * (c - 224) else 262144 * (c - 240)
/-- Are the bytes behind the second, up to the n-th, such as go on? -/
def goOn (s : ByteArray) (p n : Nat) : Bool := decide (n ≤ 2 ∨ moreB s (p + 2) = true) && decide (n ≤ 3 ∨ moreB s (p + 3) = true)
def oneR (s : ByteArray) (p : Nat) : OneR :=
  let c : Int := (s.get! p).toNat
  if longN c = 0 then badR else if longN c = 1 then ⟨1, c, false⟩
  else if ¬ (p + 1 < s.size ∧ secondB c (s.get! (p + 1)).toNat = true) then badR
  else if goOn s p (longN c).toNat = true then ⟨(longN c).toNat, rr s p (longN c).toNat + leadN (longN c).toNat c, false⟩ else badR

theorem hideO {p : Prop} (h : p) : Hid p := h
theorem longN_cases (c : Int) : longN c = 0 ∨ longN c = 1 ∨ longN c = 2 ∨ longN c = 3 ∨ longN c = 4 := by
  unfold longN
  by_cases h1 : c < 128
  · rw [if_pos h1]; simp
  rw [if_neg h1]
  by_cases h2 : 194 ≤ c ∧ c ≤ 223
  · rw [if_pos h2]; simp
  rw [if_neg h2]
  by_cases h3 : 224 ≤ c ∧ c ≤ 239
  · rw [if_pos h3]; simp
  rw [if_neg h3]
  by_cases h4 : 240 ≤ c ∧ c ≤ 244
  · rw [if_pos h4]; simp
  rw [if_neg h4]; simp
theorem rr_le (s : ByteArray) (p k : Nat) (hk : k ≤ 4) : -128 * 5000 ≤ rr s p k ∧ rr s p k ≤ 128 * 5000 := by
  have h1 := (s.get! (p + 1)).toNat_lt
  have h2 := (s.get! (p + 2)).toNat_lt
  have h3 := (s.get! (p + 3)).toNat_lt
  rcases (show k = 0 ∨ k = 1 ∨ k = 2 ∨ k = 3 ∨ k = 4 by omega) with rfl | rfl | rfl | rfl | rfl <;> simp only [rr, Nat.zero_add, Nat.reduceAdd] <;> omega

theorem more_q (w : World) (B cap : Nat) (s : ByteArray) (k : Nat) (q : Int) (hq : q = k) (hs : s.size ≤ 140737488355328) (hb : BytesAt w B s) :
    Calls Tryz.prog 128 #[.slice (some ⟨B, 0, none⟩) s.size cap, .int .i64 q] w fun e w' => e = .returned (.bool (moreB s k)) ∧ w' = w := by subst hq; exact more_any w B cap s k hs hb
theorem rest_q (w : World) (B cap : Nat) (s : ByteArray) (k : Nat) (q : Int) (hq : q = k) (hk : k < s.size) (hs : s.size ≤ 140737488355328) (hb : BytesAt w B s) :
    Calls Tryz.prog 127 #[.slice (some ⟨B, 0, none⟩) s.size cap, .int .i64 q] w fun e w' => e = .returned (.int .i64 ((s.get! k).toNat - 128)) ∧ w' = w := by
  subst hq
  have e : s.get! k = s[k] := get_at s k hk
  rw [e]
  exact rest_any w B cap s k hk hs hb
theorem BytesAt.alloc {w : World} {B : Nat} {s : ByteArray} (h : BytesAt w B s) (hB : B < w.heap.size) (o : Obj) : BytesAt (w.alloc o) B s := fun k hk => by rw [World.cell?_alloc_past o B k hB]; exact h k hk
theorem BytesAt.drew {w : World} {B : Nat} {s : ByteArray} (h : BytesAt w B s) : BytesAt w.drew B s := fun k hk => h k hk
theorem more_lt {s : ByteArray} {k : Nat} (h : moreB s k = true) : k < s.size := by unfold moreB at h; rw [Bool.and_eq_true] at h; exact of_decide_eq_true h.1

set_option maxRecDepth 100000 in
set_option maxHeartbeats 2000000 in
theorem one_n (w : World) (B cap : Nat) (s : ByteArray) (p : Nat) (c : Int) (n : Nat) (hp : p < s.size) (hs : s.size ≤ 1048576) (hb : BytesAt w B s) (ec : (s[p].toNat : Int) = c) (h2 : 2 ≤ n) (h4 : n ≤ 4) (hn : longN c = n) :
    Calls Tryz.prog 117 #[.slice (some ⟨B, 0, none⟩) s.size cap, .int .i64 p] w fun e w' => e = .returned ((oneR s p).val p) ∧ Below w.heap.size w w' := by
  have hBz : B < w.heap.size := World.block_lt_of_cell? w _ (hb p hp)
  have hc := hb p hp
  have hg : s.get! p = s[p] := get_at s p hp
  have hlt := s[p].toNat_lt
  have hc0 : 0 ≤ c := by omega
  have hc1 : c < 256 := by omega
  rw [ec] at hc
  have t0 : ((n : Int) == 0) = false := beq_eq_false_iff_ne.2 (by omega)
  have t1 : ((n : Int) == 1) = false := beq_eq_false_iff_ne.2 (by omega)
  have ONE : oneR s p = if ¬ (p + 1 < s.size ∧ secondB c (s.get! (p + 1)).toNat = true) then badR else if goOn s p n = true then ⟨n, rr s p n + leadN n c, false⟩ else badR := by
    unfold oneR
    rw [hg, ec]
    dsimp only
    rw [hn, if_neg (by omega), if_neg (by omega), Int.toNat_natCast]
  by_cases hp1 : p + 1 < s.size
  · have hd := hb (p + 1) hp1
    have hg1 : s.get! (p + 1) = s[p + 1] := get_at s (p + 1) hp1
    have tg : decide ((s.size : Int) ≤ (p : Int) + 1) = false := decide_eq_false (by omega)
    have tw : IntKind.i64.wrap ((p : Int) + 1) = (p : Int) + 1 := by rw [IntKind.wrap_i64]; omega
    have tv : decide ((s.size : Int) ≤ IntKind.i64.wrap ((p : Int) + 1)) = false := by rw [tw]; exact tg
    have i0 : (0 : Int) ≤ (p : Int) := by omega
    have i1 : (p : Int) < (s.size : Int) := by omega
    have i2 : (p : Int) + 1 < (s.size : Int) := by omega
    obtain ⟨d, ed⟩ : ∃ d : Int, (s[p + 1].toNat : Int) = d := ⟨_, rfl⟩
    rw [ed] at hd
    rw [hg1, ed] at ONE
    cases hsec : secondB c d with
    | false =>
      have R : oneR s p = badR := by rw [ONE, if_pos (by rw [hsec]; simp)]
      rw [R]
      clear R ONE hg hg1 hb
      go_enter Tryz.func117, Tryz.ntmps117
      go_wp2_with (go_at_call 125; refine (long_any c _).mono ?_; rintro e w' ⟨rfl, rfl⟩; rw [hn])
      go_region_held (fun w' => w'.cell? ⟨B, p, none⟩ = some (.int .u8 c) ∧ w'.cell? ⟨B, p + 1, none⟩ = some (.int .u8 d)) (go_keep) (first | (go_at_call 126; refine (second_any c d _).mono ?_; rintro e w' ⟨rfl, rfl⟩; rw [hsec]))
      all_goals go_wp2
      all_goals exact bodyPost_ret (v := badR.val p) (by simp [results, Tryz.results117, go_sem, badR, OneR.val]) rfl ⟨rfl, (((Below.refl _ w).alloc (Nat.le_refl _) _).alloc (by simp) _).drew⟩
    | true =>
      have GO : Hid (oneR s p = if goOn s p n = true then ⟨n, rr s p n + leadN n c, false⟩ else badR) := by
        show oneR s p = _
        rw [ONE, if_neg (fun h => h ⟨hp1, hsec⟩)]
      have hr2 : rr s p 2 = d - 128 := by simp only [rr]; rw [hg1, ed]
      have HB : Hid (BytesAt w B s) := hb
      clear ONE hg hb
      go_enter Tryz.func117, Tryz.ntmps117
      go_wp2_with (go_at_call 125; refine (long_any c _).mono ?_; rintro e w' ⟨rfl, rfl⟩; rw [hn])
      go_region_held (fun w' => w'.cell? ⟨B, p, none⟩ = some (.int .u8 c) ∧ w'.cell? ⟨B, p + 1, none⟩ = some (.int .u8 d)) (go_keep) (first | (go_at_call 126; refine (second_any c d _).mono ?_; rintro e w' ⟨rfl, rfl⟩; rw [hsec]))
      all_goals go_wp2_with (go_at_call 127; refine (rest_q _ B cap s (p + 1) _ (by omega) hp1 (by omega) ((HB.out.alloc hBz _).alloc (by simp; omega) _).drew).mono ?_; rintro e w' ⟨rfl, rfl⟩; rw [hg1, ed])
      go_loopw [7, 8] (fun r i wr => wr = ((w.alloc (.cells #[.int .i64 0, .int .i64 0, .int .i64 0, .bool false] 201)).alloc (.cells #[.int .i64 p, .int .i64 1, .int .i64 65533, .bool true] 201)).drew ∧ ∃ k : Nat, i = .int .i64 k ∧ r = .int .i64 (rr s p k) ∧ 2 ≤ k ∧ k ≤ n ∧ Hid (∀ j, 2 ≤ j → j < k → moreB s (p + j) = true)) (fun _ i _ => n - (intOf i).toNat)
      case atStart => exact ⟨rfl, 2, rfl, by rw [hr2], by omega, h2, fun j h1 h2 => by omega⟩
      case round =>
        obtain ⟨rfl, k, rfl, rfl, hk2, hkn, HM⟩ := hrel
        have HA := hideO (((HB.out.alloc hBz (.cells #[.int .i64 0, .int .i64 0, .int .i64 0, .bool false] 201)).alloc (by simp; omega) (.cells #[.int .i64 p, .int .i64 1, .int .i64 65533, .bool true] 201)).drew)
        obtain ⟨hR1, hR2⟩ := rr_le s p k (by omega)
        by_cases hkn2 : k < n
        · cases hm : moreB s (p + k) with
          | true =>
            have hlt2 := more_lt hm
            have HM2 : Hid (∀ j, 2 ≤ j → j < k + 1 → moreB s (p + j) = true) := fun j h1 h2 => by
              by_cases e : j = k
              · rw [e]; exact hm
              · exact HM.out j h1 (by omega)
            have hR3 : rr s p (k + 1) = 64 * rr s p k + (((s.get! (p + k)).toNat : Int) - 128) := by
              obtain ⟨j, rfl⟩ : ∃ j, k = j + 2 := ⟨k - 2, by omega⟩
              rfl
            have hb3 := (s.get! (p + k)).toNat_lt
            obtain ⟨R, eR⟩ : ∃ R, rr s p k = R := ⟨_, rfl⟩
            obtain ⟨y, ey⟩ : ∃ y : Int, ((s.get! (p + k)).toNat : Int) = y := ⟨_, rfl⟩
            have hy0 : 0 ≤ y := by omega
            have hy1 : y < 256 := by omega
            rw [eR] at hR1 hR2 hR3 ⊢
            rw [ey] at hR3
            have HR3 := hideO hR3
            clear hR3 hr2 hb3
            go_wp2_with (first | (go_at_call 128; refine (more_q _ B cap s (p + k) _ (by omega) (by omega) HA.out).mono ?_; rintro e w' ⟨rfl, rfl⟩; rw [hm]) | (go_at_call 127; refine (rest_q _ B cap s (p + k) _ (by omega) hlt2 (by omega) HA.out).mono ?_; rintro e w' ⟨rfl, rfl⟩; rw [ey]))
            exact ⟨⟨by trivial, k + 1, by go_num, by rw [HR3.out], by omega, by omega, HM2⟩, by simp [intOf]; omega⟩
          | false =>
            have R : oneR s p = badR := by
              rw [GO.out, if_neg]
              unfold goOn
              intro h
              rw [Bool.and_eq_true, decide_eq_true_eq, decide_eq_true_eq] at h
              rcases (show k = 2 ∨ k = 3 by omega) with rfl | rfl
              · rcases h.1 with h | h
                · omega
                · rw [hm] at h; cases h
              · rcases h.2 with h | h
                · omega
                · rw [hm] at h; cases h
            have HR := hideO R
            clear R hr2
            go_wp2_with (go_at_call 128; refine (more_q _ B cap s (p + k) _ (by omega) (by omega) HA.out).mono ?_; rintro e w' ⟨rfl, rfl⟩; rw [hm])
            exact bodyPost_ret (v := badR.val p) (by simp [results, Tryz.results117, go_sem, badR, OneR.val]) rfl ⟨by rw [HR.out], (((Below.refl _ w).alloc (Nat.le_refl _) _).alloc (by simp) _).drew⟩
        · obtain rfl : k = n := by omega
          have R : oneR s p = ⟨k, rr s p k + leadN k c, false⟩ := by
            rw [GO.out, if_pos]
            unfold goOn
            rw [Bool.and_eq_true, decide_eq_true_eq, decide_eq_true_eq]
            refine ⟨?_, ?_⟩
            · by_cases h : k ≤ 2
              · exact .inl h
              · exact .inr (HM.out 2 (by omega) (by omega))
            · by_cases h : k ≤ 3
              · exact .inl h
              · exact .inr (HM.out 3 (by omega) (by omega))
          obtain ⟨Rv, eR⟩ : ∃ R, rr s p k = R := ⟨_, rfl⟩
          rw [eR] at hR1 hR2 R ⊢
          have HR := hideO R
          clear R hr2 eR HM GO
          rcases (show k = 2 ∨ k = 3 ∨ k = 4 by omega) with rfl | rfl | rfl
          · go_wp2
            exact bodyPost_ret (v := OneR.val ⟨2, Rv + 64 * (c - 192), false⟩ p) (by simp [results, Tryz.results117, go_sem, OneR.val]) rfl ⟨by rw [HR.out]; rfl, (((Below.refl _ w).alloc (Nat.le_refl _) _).alloc (by simp) _).drew⟩
          · go_wp2
            exact bodyPost_ret (v := OneR.val ⟨3, Rv + 4096 * (c - 224), false⟩ p) (by simp [results, Tryz.results117, go_sem, OneR.val]) rfl ⟨by rw [HR.out]; rfl, (((Below.refl _ w).alloc (Nat.le_refl _) _).alloc (by simp) _).drew⟩
          · go_wp2
            exact bodyPost_ret (v := OneR.val ⟨4, Rv + 262144 * (c - 240), false⟩ p) (by simp [results, Tryz.results117, go_sem, OneR.val]) rfl ⟨by rw [HR.out]; rfl, (((Below.refl _ w).alloc (Nat.le_refl _) _).alloc (by simp) _).drew⟩
  · have tg : decide ((s.size : Int) ≤ (p : Int) + 1) = true := decide_eq_true (by omega)
    have tw : IntKind.i64.wrap ((p : Int) + 1) = (p : Int) + 1 := by rw [IntKind.wrap_i64]; omega
    have tv : decide ((s.size : Int) ≤ IntKind.i64.wrap ((p : Int) + 1)) = true := by rw [tw]; exact tg
    have R : oneR s p = badR := by rw [ONE, if_pos (fun h => hp1 h.1)]
    rw [R]
    clear R ONE hg hb
    go_enter Tryz.func117, Tryz.ntmps117
    go_wp2_with (go_at_call 125; refine (long_any c _).mono ?_; rintro e w' ⟨rfl, rfl⟩; rw [hn])
    go_region
    all_goals go_wp2
    exact bodyPost_ret (v := badR.val p) (by simp [results, Tryz.results117, go_sem, badR, OneR.val]) rfl ⟨rfl, (((Below.refl _ w).alloc (Nat.le_refl _) _).alloc (by simp) _).drew⟩

set_option maxHeartbeats 1000000 in
theorem one_any (w : World) (B cap : Nat) (s : ByteArray) (p : Nat) (hp : p < s.size) (hs : s.size ≤ 1048576) (hb : BytesAt w B s) :
    Calls Tryz.prog 117 #[.slice (some ⟨B, 0, none⟩) s.size cap, .int .i64 p] w fun e w' => e = .returned ((oneR s p).val p) ∧ Below w.heap.size w w' := by
  have hBz : B < w.heap.size := World.block_lt_of_cell? w _ (hb p hp)
  have hc := hb p hp
  have hg : s.get! p = s[p] := get_at s p hp
  have hlt := s[p].toNat_lt
  obtain ⟨c, ec⟩ : ∃ c : Int, (s[p].toNat : Int) = c := ⟨_, rfl⟩
  rcases longN_cases c with hn | hn | hn | hn | hn
  · have R : oneR s p = badR := by unfold oneR; rw [hg, ec]; simp only [hn]; simp
    rw [R]
    clear R hg hb
    rw [ec] at hc
    go_enter Tryz.func117, Tryz.ntmps117
    go_wp2_with (go_at_call 125; refine (long_any c _).mono ?_; rintro e w' ⟨rfl, rfl⟩; rw [hn])
    exact bodyPost_ret (v := badR.val p) (by simp [results, Tryz.results117, go_sem, badR, OneR.val]) rfl ⟨rfl, ((Below.refl _ w).alloc (Nat.le_refl _) _).alloc (by simp) _⟩
  · have R : oneR s p = ⟨1, c, false⟩ := by unfold oneR; rw [hg, ec]; simp only [hn]; simp
    rw [R]
    clear R hg hb
    have hc0 : 0 ≤ c := by omega
    have hc1 : c < 256 := by omega
    rw [ec] at hc
    go_enter Tryz.func117, Tryz.ntmps117
    go_wp2_with (go_at_call 125; refine (long_any c _).mono ?_; rintro e w' ⟨rfl, rfl⟩; rw [hn])
    exact bodyPost_ret (v := OneR.val ⟨1, c, false⟩ p) (by simp [results, Tryz.results117, go_sem, OneR.val]) rfl ⟨rfl, ((Below.refl _ w).alloc (Nat.le_refl _) _).alloc (by simp) _⟩
  · exact one_n w B cap s p c 2 hp hs hb ec (by omega) (by omega) hn
  · exact one_n w B cap s p c 3 hp hs hb ec (by omega) (by omega) hn
  · exact one_n w B cap s p c 4 hp hs hb ec (by omega) (by omega) hn
end Go.Proofs.YthhhglfcacoejaaGreatDoor

/- Plain facts on signs and places: the document's sign at a place is the program's; places rise in all units; the signs of a part. -/
namespace Go.Proofs.YthhhglfcacoejaaGreatDoor
open Go.Lib
theorem badAt_of {s : ByteArray} {p a b : Nat} (h : Utf8.decode s p = (a, b)) (hb : b ≠ 1) : badAt s p = false := by
  unfold badAt; rw [h]; simp [hb]
theorem badAt_ff {s : ByteArray} {p : Nat} (h : Utf8.decode s p = (65533, 1)) : badAt s p = true := by
  unfold badAt; rw [h]; rfl
/-- The document's sign at a place, by the model's decode. -/
theorem one_dec (s : ByteArray) (p : Nat) (hp : p < s.size) : oneR s p = if badAt s p = true then badR else ⟨(Utf8.decode s p).2, ((Utf8.decode s p).1 : Nat), false⟩ := by
  have hd := decode_at s p
  have k0 := (s.get! p).toNat_lt
  have k1 := (s.get! (p + 1)).toNat_lt
  have k2 := (s.get! (p + 2)).toNat_lt
  have k3 := (s.get! (p + 3)).toNat_lt
  have g2 : goOn s p 2 = true := by simp [goOn]
  have g3 : goOn s p 3 = decide (p + 2 < s.size ∧ 128 ≤ (s.get! (p + 2)).toNat ∧ (s.get! (p + 2)).toNat ≤ 191) := by simp [goOn, moreB]
  have g4 : goOn s p 4 = decide ((p + 2 < s.size ∧ 128 ≤ (s.get! (p + 2)).toNat ∧ (s.get! (p + 2)).toNat ≤ 191) ∧ (p + 3 < s.size ∧ 128 ≤ (s.get! (p + 3)).toNat ∧ (s.get! (p + 3)).toNat ≤ 191)) := by simp [goOn, moreB]
  have r2 : rr s p 2 = ((s.get! (p + 1)).toNat : Int) - 128 := rfl
  have r3 : rr s p 3 = 64 * (((s.get! (p + 1)).toNat : Int) - 128) + (((s.get! (p + 2)).toNat : Int) - 128) := rfl
  have r4 : rr s p 4 = 64 * (64 * (((s.get! (p + 1)).toNat : Int) - 128) + (((s.get! (p + 2)).toNat : Int) - 128)) + (((s.get! (p + 3)).toNat : Int) - 128) := rfl
  unfold oneR
  dsimp only
  generalize (s.get! p).toNat = b0 at *
  generalize (s.get! (p + 1)).toNat = b1 at *
  generalize (s.get! (p + 2)).toNat = b2 at *
  generalize (s.get! (p + 3)).toNat = b3 at *
  by_cases h1 : b0 < 128
  · have e : Utf8.decode s p = (b0, 1) := by rw [hd, decodeN, if_pos h1]
    have l : longN b0 = 1 := by unfold longN; rw [if_pos (by omega)]
    have nb : badAt s p = false := by unfold badAt; rw [e]; simp; omega
    rw [l, nb, e]; rfl
  by_cases h2 : b0 < 194 ∨ 244 < b0
  · have e : Utf8.decode s p = (65533, 1) := by
      rw [hd, decodeN, if_neg h1]
      repeat' split
      all_goals first | rfl | (exfalso; omega)
    have l : longN b0 = 0 := by unfold longN; rw [if_neg (by omega), if_neg (by omega), if_neg (by omega), if_neg (by omega)]
    rw [l, badAt_ff e]; rfl
  by_cases h3 : b0 < 224
  · have l : longN b0 = 2 := by unfold longN; rw [if_neg (by omega), if_pos (by omega)]
    rw [l, if_neg (by omega), if_neg (by omega), show (2 : Int).toNat = 2 from rfl, g2, if_pos rfl, r2, show leadN 2 (b0 : Int) = 64 * ((b0 : Int) - 192) from rfl]
    have sb : secondB b0 b1 = decide (b1 / 64 = 2) := by
      unfold secondB secLo secHi
      rw [if_neg (by omega), if_neg (by omega), if_neg (by omega), if_neg (by omega), ← Bool.decide_and]
      exact decide_eq_decide.2 (by omega)
    rw [sb]
    by_cases c : p + 1 < s.size ∧ decide (b1 / 64 = 2) = true
    · have c' := of_decide_eq_true c.2
      have e : Utf8.decode s p = (b0 % 32 * 64 + b1 % 64, 2) := by rw [hd, decodeN, if_neg h1, if_pos (by omega), if_pos (by omega)]
      rw [if_neg (fun h => h c), badAt_of e (by omega), e]
      simp only [Bool.false_eq_true, if_false, OneR.mk.injEq, true_and, and_true]
      omega
    · have e : Utf8.decode s p = (65533, 1) := by
        rw [hd, decodeN, if_neg h1, if_neg (fun h => c ⟨by omega, decide_eq_true (by omega)⟩), if_neg (by omega), if_neg (by omega)]
      rw [if_pos c, badAt_ff e]; rfl
  by_cases h4 : b0 < 240
  · have l : longN b0 = 3 := by unfold longN; rw [if_neg (by omega), if_neg (by omega), if_pos (by omega)]
    rw [l, if_neg (by omega), if_neg (by omega), show (3 : Int).toNat = 3 from rfl, g3, r3, show leadN 3 (b0 : Int) = 4096 * ((b0 : Int) - 224) from rfl]
    have sb : secondB b0 b1 = decide ((b1 / 64 = 2) ∧ (b0 = 224 → 160 ≤ b1) ∧ (b0 = 237 → b1 ≤ 159)) := by
      unfold secondB secLo secHi
      rw [← Bool.decide_and]
      refine decide_eq_decide.2 ?_
      repeat' split
      all_goals omega
    rw [sb]
    by_cases c : p + 1 < s.size ∧ decide ((b1 / 64 = 2) ∧ (b0 = 224 → 160 ≤ b1) ∧ (b0 = 237 → b1 ≤ 159)) = true
    · have c' := of_decide_eq_true c.2
      by_cases c2 : p + 2 < s.size ∧ 128 ≤ b2 ∧ b2 ≤ 191
      · have e : Utf8.decode s p = (b0 % 16 * 4096 + b1 % 64 * 64 + b2 % 64, 3) := by rw [hd, decodeN, if_neg h1, if_neg (by omega), if_pos (by omega), if_pos (by omega)]
        rw [if_neg (fun h => h c), badAt_of e (by omega), e, if_pos (decide_eq_true c2)]
        simp only [Bool.false_eq_true, if_false, OneR.mk.injEq, true_and, and_true]
        omega
      · have e : Utf8.decode s p = (65533, 1) := by
          rw [hd, decodeN, if_neg h1, if_neg (by omega), if_neg (fun h => c2 (by omega)), if_neg (by omega)]
        rw [if_neg (fun h => h c), if_neg (by simpa using c2), badAt_ff e]; rfl
    · have e : Utf8.decode s p = (65533, 1) := by
        rw [hd, decodeN, if_neg h1, if_neg (by omega)]
        split
        · rw [if_neg]
          intro h
          exact c ⟨by omega, decide_eq_true (by omega)⟩
        · rw [if_neg (by omega)]
      rw [if_pos c, badAt_ff e]; rfl
  · have l : longN b0 = 4 := by unfold longN; rw [if_neg (by omega), if_neg (by omega), if_neg (by omega), if_pos (by omega)]
    rw [l, if_neg (by omega), if_neg (by omega), show (4 : Int).toNat = 4 from rfl, g4, r4, show leadN 4 (b0 : Int) = 262144 * ((b0 : Int) - 240) from rfl]
    have sb : secondB b0 b1 = decide ((b1 / 64 = 2) ∧ (b0 = 240 → 144 ≤ b1) ∧ (b0 = 244 → b1 ≤ 143)) := by
      unfold secondB secLo secHi
      rw [← Bool.decide_and]
      refine decide_eq_decide.2 ?_
      repeat' split
      all_goals omega
    rw [sb]
    by_cases c : p + 1 < s.size ∧ decide ((b1 / 64 = 2) ∧ (b0 = 240 → 144 ≤ b1) ∧ (b0 = 244 → b1 ≤ 143)) = true
    · have c' := of_decide_eq_true c.2
      by_cases c2 : (p + 2 < s.size ∧ 128 ≤ b2 ∧ b2 ≤ 191) ∧ (p + 3 < s.size ∧ 128 ≤ b3 ∧ b3 ≤ 191)
      · have e : Utf8.decode s p = (b0 % 8 * 262144 + b1 % 64 * 4096 + b2 % 64 * 64 + b3 % 64, 4) := by rw [hd, decodeN, if_neg h1, if_neg (by omega), if_neg (by omega), if_pos (by omega), if_pos (by omega)]
        rw [if_neg (fun h => h c), badAt_of e (by omega), e, if_pos (decide_eq_true c2)]
        simp only [Bool.false_eq_true, if_false, OneR.mk.injEq, true_and, and_true]
        omega
      · have e : Utf8.decode s p = (65533, 1) := by
          rw [hd, decodeN, if_neg h1, if_neg (by omega), if_neg (by omega), if_neg (fun h => c2 (by omega))]
        rw [if_neg (fun h => h c), if_neg (by simpa using c2), badAt_ff e]; rfl
    · have e : Utf8.decode s p = (65533, 1) := by
        rw [hd, decodeN, if_neg h1, if_neg (by omega), if_neg (by omega)]
        split
        · rw [if_neg]
          intro h
          exact c ⟨by omega, decide_eq_true (by omega)⟩
        · rfl
      rw [if_pos c, badAt_ff e]; rfl

/-- The sign at a place, by the model's decode. -/
theorem sgn_dec (s : ByteArray) (p : Nat) (hp : p < s.size) : (sgn s p).loc = p ∧ (sgn s p).len = (Utf8.decode s p).2 ∧ (sgn s p).rune = ((Utf8.decode s p).1 : Nat) ∧ (sgn s p).bad = badAt s p ∧ 1 ≤ (Utf8.decode s p).2 ∧ p + (Utf8.decode s p).2 ≤ s.size := by
  have hw := Lib.decode_width_pos s p hp
  cases h : badAt s p
  · obtain ⟨a, b, c, d, _, f⟩ := sgn_good s p hp h
    exact ⟨a, b, c, d, hw, f⟩
  · obtain ⟨a, b, c, d, _, f⟩ := sgn_bad s p h
    rw [f]
    exact ⟨a, b, c, d, by simp, by simp; omega⟩
theorem sg_ext {x y : Sg} (h1 : x.loc = y.loc) (h2 : x.len = y.len) (h3 : x.rune = y.rune) (h4 : x.bad = y.bad) : x = y := by
  cases x; cases y; simp_all

/-- Signs that lie one behind the other in s, from p up to e. -/
def Lies (s : ByteArray) : Nat → List Sg → Nat → Prop
  | p, [], e => p = e
  | p, x :: r, e => p < s.size ∧ x = sgn s p ∧ Lies s (p + x.len) r e
theorem sgns_lies (s : ByteArray) : ∀ f p, s.size ≤ p + f → p ≤ s.size → Lies s p (sgns s f p) s.size
  | 0, p, h, h2 => by simp only [sgns, Lies]; omega
  | f + 1, p, h, h2 => by
    unfold sgns
    by_cases hp : p < s.size
    · obtain ⟨a, b, _, _, c, d⟩ := sgn_dec s p hp
      rw [if_pos hp]
      refine ⟨hp, rfl, ?_⟩
      rw [b]
      exact sgns_lies s f _ (by omega) d
    · rw [if_neg hp]
      simp only [Lies]
      omega
theorem signs_lies (s : ByteArray) : Lies s 0 (signs s) s.size := sgns_lies s s.size 0 (by omega) (by omega)
theorem lies_le {s : ByteArray} : ∀ {l : List Sg} {p e : Nat}, Lies s p l e → p + l.length ≤ e
  | [], p, e, h => by simp only [Lies] at h; simp; omega
  | x :: r, p, e, h => by
    obtain ⟨h1, h2, h3⟩ := h
    have := lies_le h3
    have hd := sgn_dec s p h1
    rw [h2] at this
    simp only [List.length_cons]
    omega
theorem lies_fit {s : ByteArray} : ∀ {l : List Sg} {p e : Nat}, Lies s p l e → p ≤ s.size → e ≤ s.size
  | [], p, e, h, hp => by simp only [Lies] at h; omega
  | x :: r, p, e, h, hp => by
    obtain ⟨h1, h2, h3⟩ := h
    have hd := sgn_dec s p h1
    exact lies_fit h3 (by rw [h2]; omega)
theorem lies_append {s : ByteArray} : ∀ {l m : List Sg} {p q e : Nat}, Lies s p l q → Lies s q m e → Lies s p (l ++ m) e
  | [], m, p, q, e, h, k => by simp only [Lies] at h; subst h; exact k
  | x :: r, m, p, q, e, h, k => ⟨h.1, h.2.1, lies_append h.2.2 k⟩
theorem lies_split {s : ByteArray} : ∀ {l m : List Sg} {p e : Nat}, Lies s p (l ++ m) e → ∃ q, Lies s p l q ∧ Lies s q m e
  | [], m, p, e, h => ⟨p, rfl, h⟩
  | x :: r, m, p, e, h => by
    obtain ⟨h1, h2, h3⟩ := h
    obtain ⟨q, a, b⟩ := lies_split h3
    exact ⟨q, ⟨h1, h2, a⟩, b⟩
theorem lies_uniq {s : ByteArray} : ∀ {l m : List Sg} {p e : Nat}, Lies s p l e → Lies s p m e → l = m
  | [], [], _, _, _, _ => rfl
  | [], y :: m, p, e, h, k => by
    have := lies_le k
    simp only [Lies] at h
    simp only [List.length_cons] at this
    omega
  | x :: l, [], p, e, h, k => by
    have := lies_le h
    simp only [Lies] at k
    simp only [List.length_cons] at this
    omega
  | x :: l, y :: m, p, e, h, k => by
    obtain ⟨h1, h2, h3⟩ := h
    obtain ⟨k1, k2, k3⟩ := k
    rw [h2] at h3 ⊢
    rw [k2] at k3 ⊢
    rw [lies_uniq h3 k3]

/-- The places from p on, ahead of each sign and behind the last. -/
def spotsF (p : Spot) : List Sg → List Spot
  | [] => [p]
  | x :: r => p :: spotsF (p.step x) r
def stepsF (p : Spot) (l : List Sg) : Spot := l.foldl Spot.step p
theorem stepsF_snoc (p : Spot) (l : List Sg) (x : Sg) : stepsF p (l ++ [x]) = (stepsF p l).step x := by simp [stepsF, List.foldl_append]
theorem trail_end (l : List Sg) : (trail l).2 = stepsF ⟨0, 0, 0⟩ l := by
  refine snoc_ind (P := fun l => (trail l).2 = stepsF ⟨0, 0, 0⟩ l) rfl (fun l x ih => ?_) l
  rw [trail_snoc, stepsF_snoc, ih]
theorem spotsF_snoc (x : Sg) : ∀ (l : List Sg) (p : Spot), spotsF p (l ++ [x]) = spotsF p l ++ [stepsF p (l ++ [x])]
  | [], p => by simp [spotsF, stepsF]
  | y :: r, p => by
    simp only [List.cons_append, spotsF, spotsF_snoc x r (p.step y)]
    rfl
theorem spots_eq (s : ByteArray) : spotsL s = spotsF ⟨0, 0, 0⟩ (signs s) := by
  unfold spotsL
  generalize signs s = l
  refine snoc_ind (P := fun l => (trail l).1 ++ [(trail l).2] = spotsF ⟨0, 0, 0⟩ l) rfl (fun l x ih => ?_) l
  rw [spotsF_snoc, ← ih, trail_snoc]
  simp only [trail_end, stepsF_snoc]
/-- b lies behind a, in every unit. -/
def Behind (a b : Spot) : Prop := a.b < b.b ∧ a.c < b.c ∧ a.d < b.d
theorem behind_step {s : ByteArray} {p : Nat} (hp : p < s.size) (a : Spot) : Behind a (a.step (sgn s p)) := by
  have hd := sgn_dec s p hp
  have hq := pairsI_bd (sgn s p).rune
  unfold Behind Spot.step
  dsimp only
  omega
theorem spotsF_behind {s : ByteArray} : ∀ {l : List Sg} {p e : Nat} (a : Spot), Lies s p l e → ∀ q ∈ spotsF a l, q = a ∨ Behind a q
  | [], p, e, a, h, q, hq => by simp [spotsF] at hq; exact .inl hq
  | x :: r, p, e, a, h, q, hq => by
    obtain ⟨h1, h2, h3⟩ := h
    rw [h2] at h3 hq
    have hb := behind_step h1 a
    simp only [spotsF, List.mem_cons] at hq
    rcases hq with rfl | hq
    · exact .inl rfl
    · right
      rcases spotsF_behind (a.step (sgn s p)) h3 q hq with rfl | h
      · exact hb
      · unfold Behind at *; omega
theorem spotsF_rise {s : ByteArray} : ∀ {l : List Sg} {p e : Nat} (a : Spot), Lies s p l e → (spotsF a l).Pairwise Behind
  | [], p, e, a, h => by simp [spotsF]
  | x :: r, p, e, a, h => by
    obtain ⟨h1, h2, h3⟩ := h
    rw [h2] at h3 ⊢
    have hb := behind_step h1 a
    simp only [spotsF, List.pairwise_cons]
    refine ⟨fun q hq => ?_, spotsF_rise _ h3⟩
    rcases spotsF_behind (a.step (sgn s p)) h3 q hq with rfl | h
    · exact hb
    · unfold Behind at *; omega
theorem spots_rise (s : ByteArray) : (spotsL s).Pairwise Behind := by rw [spots_eq]; exact spotsF_rise _ (signs_lies s)
theorem behind_get {a b : Spot} (h : Behind a b) (u : Int) : a.get u < b.get u := by
  unfold Behind at h
  unfold Spot.get
  repeat' split
  all_goals omega

theorem findL_mem (u : Int) {q : Spot} : ∀ {L : List Spot}, L.Pairwise Behind → q ∈ L → findL u (q.get u) L = (q, 0)
  | [], _, h => by simp at h
  | a :: L, hr, h => by
    rw [List.pairwise_cons] at hr
    rcases List.mem_cons.1 h with rfl | h
    · simp [findL]
    · have := behind_get (hr.1 q h) u
      rw [findL, if_neg (by omega), if_neg (by omega), findL_mem u hr.2 h]
theorem findL_ok (u loc : Int) : ∀ {L : List Spot}, (findL u loc L).2 = 0 → (findL u loc L).1 ∈ L ∧ (findL u loc L).1.get u = loc
  | [], h => by simp [findL] at h
  | a :: L, h => by
    unfold findL at h ⊢
    split at h
    · rename_i e
      rw [if_pos e]
      exact ⟨by simp, e⟩
    · rename_i e
      rw [if_neg e]
      split at h
      · simp at h
      · rename_i e2
        rw [if_neg e2]
        have := findL_ok u loc h
        exact ⟨List.mem_cons_of_mem _ this.1, this.2⟩
theorem findL_errs (u loc : Int) : ∀ (L : List Spot), (findL u loc L).2 = 0 ∨ (findL u loc L = (zeroSpot, 21) ∧ ∃ q ∈ L, loc < q.get u) ∨ (findL u loc L = (zeroSpot, 1) ∧ ∀ q ∈ L, q.get u < loc)
  | [] => by simp [findL]
  | a :: L => by
    unfold findL
    split
    · exact .inl rfl
    · split
      · exact .inr (.inl ⟨rfl, a, by simp, by assumption⟩)
      · rcases findL_errs u loc L with h | ⟨h, q, hq, hl⟩ | ⟨h, hq⟩
        · exact .inl h
        · exact .inr (.inl ⟨h, q, List.mem_cons_of_mem _ hq, hl⟩)
        · refine .inr (.inr ⟨h, fun q hm => ?_⟩)
          rcases List.mem_cons.1 hm with rfl | hm
          · omega
          · exact hq q hm
theorem rise_of_get {L : List Spot} (hr : L.Pairwise Behind) {a b : Spot} (ha : a ∈ L) (hb : b ∈ L) (u v : Int) (h : a.get u < b.get u) : a.get v < b.get v := by
  induction L with
  | nil => simp at ha
  | cons x L ih =>
    rw [List.pairwise_cons] at hr
    rcases List.mem_cons.1 ha with e | ka <;> rcases List.mem_cons.1 hb with e' | kb
    · subst e e'; omega
    · subst e; exact behind_get (hr.1 b kb) v
    · subst e'; have := behind_get (hr.1 a ka) u; omega
    · exact ih hr.2 ka kb
theorem same_of_get {L : List Spot} (hr : L.Pairwise Behind) {a b : Spot} (ha : a ∈ L) (hb : b ∈ L) (u : Int) (h : a.get u = b.get u) : a = b := by
  induction L with
  | nil => simp at ha
  | cons x L ih =>
    rw [List.pairwise_cons] at hr
    rcases List.mem_cons.1 ha with e | ka <;> rcases List.mem_cons.1 hb with e' | kb
    · rw [e, e']
    · subst e; have := behind_get (hr.1 b kb) u; omega
    · subst e'; have := behind_get (hr.1 a ka) u; omega
    · exact ih hr.2 ka kb

/-- The last place of a text. -/
def lastS (s : ByteArray) : Spot := stepsF ⟨0, 0, 0⟩ (signs s)
theorem spotsF_mem (a : Spot) : ∀ (l m : List Sg), stepsF a l ∈ spotsF a (l ++ m)
  | [], [] => by simp [spotsF, stepsF]
  | [], y :: m => by simp [spotsF, stepsF]
  | x :: l, m => by
    simp only [List.cons_append, spotsF, List.mem_cons]
    exact .inr (spotsF_mem (a.step x) l m)
theorem spotsF_of (a : Spot) : ∀ (l : List Sg) (q : Spot), q ∈ spotsF a l → ∃ k, k ≤ l.length ∧ q = stepsF a (l.take k)
  | [], q, h => by simp [spotsF] at h; exact ⟨0, by simp, by simp [stepsF, h]⟩
  | x :: l, q, h => by
    simp only [spotsF, List.mem_cons] at h
    rcases h with rfl | h
    · exact ⟨0, by simp, by simp [stepsF]⟩
    · obtain ⟨k, hk, e⟩ := spotsF_of (a.step x) l q h
      exact ⟨k + 1, by simp; omega, by rw [e]; simp [stepsF]⟩
/-- The place ahead of the k-th sign. -/
def spotAt (s : ByteArray) (k : Nat) : Spot := stepsF ⟨0, 0, 0⟩ ((signs s).take k)
theorem spotAt_mem (s : ByteArray) (k : Nat) : spotAt s k ∈ spotsL s := by
  rw [spots_eq]
  have := spotsF_mem ⟨0, 0, 0⟩ ((signs s).take k) ((signs s).drop k)
  rwa [List.take_append_drop] at this
theorem spotAt_of {s : ByteArray} {q : Spot} (h : q ∈ spotsL s) : ∃ k, k ≤ (signs s).length ∧ q = spotAt s k := by rw [spots_eq] at h; exact spotsF_of _ _ _ h
theorem stepsF_c (l : List Sg) (a : Spot) : (stepsF a l).c = a.c + l.length := by
  induction l generalizing a with
  | nil => simp [stepsF]
  | cons x l ih =>
    have := ih (a.step x)
    simp only [stepsF, List.foldl_cons, List.length_cons] at this ⊢
    rw [this]
    simp only [Spot.step]
    omega
theorem stepsF_b {s : ByteArray} : ∀ {l : List Sg} {p e : Nat} (a : Spot), Lies s p l e → (stepsF a l).b = a.b + (e - p)
  | [], p, e, a, h => by simp only [Lies] at h; subst h; simp [stepsF]
  | x :: l, p, e, a, h => by
    obtain ⟨h1, h2, h3⟩ := h
    have := stepsF_b (a.step x) h3
    simp only [stepsF, List.foldl_cons] at this ⊢
    rw [this]
    simp only [Spot.step]
    have := lies_le h3
    omega
theorem spotAt_c (s : ByteArray) (k : Nat) (hk : k ≤ (signs s).length) : (spotAt s k).c = k := by
  unfold spotAt
  rw [stepsF_c, List.length_take]
  simp
  omega
theorem lies_take {s : ByteArray} {l : List Sg} {p e : Nat} (h : Lies s p l e) (k : Nat) : ∃ q, Lies s p (l.take k) q ∧ Lies s q (l.drop k) e := by
  rw [← List.take_append_drop k l] at h
  exact lies_split h
theorem lies_loc {s : ByteArray} {l : List Sg} {p e k : Nat} (h : Lies s p l e) (hk : k < l.length) : ∃ q, Lies s p (l.take k) q ∧ q < s.size ∧ l[k] = sgn s q ∧ Lies s (q + (sgn s q).len) (l.drop (k + 1)) e := by
  obtain ⟨q, a, b⟩ := lies_take h k
  rw [List.drop_eq_getElem_cons hk] at b
  obtain ⟨b1, b2, b3⟩ := b
  rw [b2] at b3
  exact ⟨q, a, b1, b2, b3⟩
theorem spotAt_b (s : ByteArray) (k : Nat) (hk : k < (signs s).length) : (spotAt s k).b = (signs s)[k].loc := by
  obtain ⟨q, h1, h2, h3, _⟩ := lies_loc (signs_lies s) hk
  have := stepsF_b ⟨0, 0, 0⟩ h1
  unfold spotAt
  rw [this, h3, (sgn_dec s q h2).1]
  simp
theorem lastS_eq (s : ByteArray) : lastS s = spotAt s (signs s).length := by unfold lastS spotAt; rw [List.take_length]
theorem lastS_b (s : ByteArray) : (lastS s).b = s.size := by
  have := stepsF_b ⟨0, 0, 0⟩ (signs_lies s)
  unfold lastS
  rw [this]
  simp
theorem lastS_c (s : ByteArray) : (lastS s).c = (signs s).length := by unfold lastS; rw [stepsF_c]; simp
theorem pairs_steps (s : ByteArray) : ∀ f p (a : Spot), (stepsF a (sgns s f p)).d = a.d + pairsFrom s f p
  | 0, p, a => by simp [sgns, pairsFrom, stepsF]
  | f + 1, p, a => by
    unfold sgns pairsFrom
    by_cases hp : p < s.size
    · rw [if_pos hp, if_pos hp]
      have := pairs_steps s f (p + (Utf8.decode s p).2) (a.step (sgn s p))
      simp only [stepsF, List.foldl_cons] at this ⊢
      rw [this]
      simp only [Spot.step, (sgn_dec s p hp).2.2.1]
      omega
    · rw [if_neg hp, if_neg hp]
      simp [stepsF]
theorem lastS_d (s : ByteArray) : (lastS s).d = pairsFrom s s.size 0 := by
  have := pairs_steps s s.size 0 ⟨0, 0, 0⟩
  unfold lastS signs
  rw [this]
  simp
theorem last_most (s : ByteArray) (u : Int) {q : Spot} (h : q ∈ spotsL s) : q.get u ≤ (lastS s).get u := by
  have hl : lastS s ∈ spotsL s := by rw [lastS_eq]; exact spotAt_mem s _
  by_cases hc : (lastS s).get u < q.get u
  · have := rise_of_get (spots_rise s) hl h u 2 hc
    obtain ⟨k, hk, rfl⟩ := spotAt_of h
    simp only [Spot.get] at this
    rw [spotAt_c s k hk, lastS_c] at this
    simp at this
    omega
  · omega
theorem first_mem (s : ByteArray) : zeroSpot ∈ spotsL s := by
  have := spotAt_mem s 0
  simpa [spotAt, stepsF, zeroSpot] using this
theorem first_least (s : ByteArray) (u : Int) {q : Spot} (h : q ∈ spotsL s) : 0 ≤ q.get u := by
  have hz : zeroSpot.get u = 0 := by unfold zeroSpot Spot.get; repeat' split
                                     all_goals rfl
  by_cases hc : q.get u < 0
  · have := rise_of_get (spots_rise s) h (first_mem s) u 2 (by omega)
    obtain ⟨k, hk, rfl⟩ := spotAt_of h
    simp only [Spot.get, zeroSpot] at this
    rw [spotAt_c s k hk] at this
    simp at this
    omega
  · omega
theorem ite_iffU {α : Type} {p q : Prop} [Decidable p] [Decidable q] (h : p ↔ q) (a b : α) : (if p then a else b) = if q then a else b := by
  by_cases hp : p
  · rw [if_pos hp, if_pos (h.1 hp)]
  · rw [if_neg hp, if_neg (fun e => hp (h.2 e))]
theorem cutU (n m b0 b1 b2 b3 c1 c2 c3 : Nat) (hm : 1 ≤ m) (hmn : m ≤ n) (e1 : 1 < m → c1 = b1) (e2 : 2 < m → c2 = b2) (e3 : 3 < m → c3 = b3) (hw : (Lib.decodeN n b0 b1 b2 b3).2 ≤ m) :
    Lib.decodeN m b0 c1 c2 c3 = Lib.decodeN n b0 b1 b2 b3 := by
  unfold Lib.decodeN at hw ⊢
  by_cases h0 : b0 < 128
  · simp [h0]
  · simp only [if_neg h0] at hw ⊢
    by_cases a2 : b0 / 32 = 6
    · have n3 : ¬ b0 / 16 = 14 := by omega
      have n4 : ¬ b0 / 8 = 30 := by omega
      simp only [a2, n3, n4, true_and, false_and, if_false] at hw ⊢
      by_cases h1 : 1 < m
      · rw [e1 h1, ite_iffU (show (1 < m ∧ b1 / 64 = 2) ↔ (1 < n ∧ b1 / 64 = 2) by omega)]
      · rw [if_neg (by omega)]
        split at hw
        · split at hw
          · simp at hw; omega
          · rename_i q1 q2
            rw [if_pos q1, if_neg q2]
        · rename_i q1
          rw [if_neg q1]
    · simp only [a2, false_and, if_false] at hw ⊢
      by_cases a3 : b0 / 16 = 14
      · have n4 : ¬ b0 / 8 = 30 := by omega
        simp only [a3, n4, true_and, false_and, if_false] at hw ⊢
        by_cases h1 : 2 < m
        · rw [e1 (by omega), e2 h1, ite_iffU (show ((1 < m ∧ b1 / 64 = 2) ∧ 2 < m ∧ b2 / 64 = 2) ↔ ((1 < n ∧ b1 / 64 = 2) ∧ 2 < n ∧ b2 / 64 = 2) by omega)]
        · rw [if_neg (by omega)]
          split at hw
          · split at hw
            · simp at hw; omega
            · rename_i q1 q2
              rw [if_pos q1, if_neg q2]
          · rename_i q1
            rw [if_neg q1]
      · simp only [a3, false_and, if_false] at hw ⊢
        by_cases a4 : b0 / 8 = 30
        · simp only [a4, true_and] at hw ⊢
          by_cases h1 : 3 < m
          · rw [e1 (by omega), e2 (by omega), e3 h1, ite_iffU (show ((1 < m ∧ b1 / 64 = 2) ∧ (2 < m ∧ b2 / 64 = 2) ∧ 3 < m ∧ b3 / 64 = 2) ↔ ((1 < n ∧ b1 / 64 = 2) ∧ (2 < n ∧ b2 / 64 = 2) ∧ 3 < n ∧ b3 / 64 = 2) by omega)]
          · rw [if_neg (by omega)]
            split at hw
            · split at hw
              · simp at hw; omega
              · rename_i q1 q2
                rw [if_pos q1, if_neg q2]
            · rename_i q1
              rw [if_neg q1]
        · simp only [a4, false_and, if_false]

theorem get_part (s : ByteArray) (A B i : Nat) (hi : A + i < B) : (s.extract A B).get! i = s.get! (A + i) := by
  rw [← Lib.getD_get!', ← Lib.getD_get!', Lib.extract_data]
  simp only [List.getD_eq_getElem?_getD, List.getElem?_take, List.getElem?_drop]
  rw [if_pos (by omega)]
theorem decode_part (s : ByteArray) (A B p : Nat) (hA : A ≤ p) (hp : p < B) (hB : B ≤ s.size) (hw : p + (Utf8.decode s p).2 ≤ B) : Utf8.decode (s.extract A B) (p - A) = Utf8.decode s p := by
  have hz : (s.extract A B).size = B - A := by rw [ByteArray.size_extract]; omega
  rw [Lib.decode_at] at hw
  rw [Lib.decode_at, Lib.decode_at, hz, get_part s A B _ (by omega), show A + (p - A) = p by omega]
  refine cutU _ _ _ _ _ _ _ _ _ (by omega) (by omega) (fun h => ?_) (fun h => ?_) (fun h => ?_) (by omega)
  · rw [get_part s A B _ (by omega), show A + (p - A + 1) = p + 1 by omega]
  · rw [get_part s A B _ (by omega), show A + (p - A + 2) = p + 2 by omega]
  · rw [get_part s A B _ (by omega), show A + (p - A + 3) = p + 3 by omega]
/-- A sign, so many bytes farther behind. -/
def Sg.up (k : Nat) (x : Sg) : Sg := ⟨x.loc + k, x.len, x.rune, x.bad, x.small⟩
theorem up_loc (k : Nat) (x : Sg) : (x.up k).loc = x.loc + k := rfl
theorem up_len (k : Nat) (x : Sg) : (x.up k).len = x.len := rfl
theorem up_rune (k : Nat) (x : Sg) : (x.up k).rune = x.rune := rfl
theorem up_bad (k : Nat) (x : Sg) : (x.up k).bad = x.bad := rfl
theorem badAt_part (s : ByteArray) (A B p : Nat) (hA : A ≤ p) (hp : p < B) (hB : B ≤ s.size) (hw : p + (Utf8.decode s p).2 ≤ B) : badAt (s.extract A B) (p - A) = badAt s p := by
  unfold badAt; rw [decode_part s A B p hA hp hB hw]
theorem sgn_part (s : ByteArray) (A B p : Nat) (hA : A ≤ p) (hp : p < B) (hB : B ≤ s.size) (hw : p + (Utf8.decode s p).2 ≤ B) : (sgn (s.extract A B) (p - A)).up A = sgn s p := by
  have hz : (s.extract A B).size = B - A := by rw [ByteArray.size_extract]; omega
  obtain ⟨a1, a2, a3, a4, _, _⟩ := sgn_dec s p (by omega)
  obtain ⟨b1, b2, b3, b4, _, _⟩ := sgn_dec (s.extract A B) (p - A) (by omega)
  rw [decode_part s A B p hA hp hB hw] at b2 b3
  rw [badAt_part s A B p hA hp hB hw] at b4
  refine sg_ext ?_ ?_ ?_ ?_
  · rw [up_loc, b1, a1]; omega
  · rw [up_len, b2, a2]
  · rw [up_rune, b3, a3]
  · rw [up_bad, b4, a4]
theorem lies_part {s : ByteArray} {A B : Nat} (hB : B ≤ s.size) : ∀ {l : List Sg} {p e : Nat}, A ≤ p → e ≤ B → Lies s p l e → ∃ m, Lies (s.extract A B) (p - A) m (e - A) ∧ m.map (Sg.up A) = l
  | [], p, e, _, _, h => by simp only [Lies] at h; subst h; exact ⟨[], rfl, rfl⟩
  | x :: l, p, e, hA, he, h => by
    obtain ⟨h1, h2, h3⟩ := h
    have hle := lies_le h3
    obtain ⟨d1, d2, d3, d4, d5, d6⟩ := sgn_dec s p h1
    rw [h2, d2] at h3 hle
    have hle2 : p + (Utf8.decode s p).2 ≤ B := by omega
    obtain ⟨m, m1, m2⟩ := lies_part (A := A) hB (l := l) (p := p + (Utf8.decode s p).2) (by omega) he h3
    have hs := sgn_part s A B p hA (by omega) hB hle2
    refine ⟨sgn (s.extract A B) (p - A) :: m, ⟨by rw [ByteArray.size_extract]; omega, rfl, ?_⟩, by rw [List.map_cons, hs, m2, h2]⟩
    have hl : (sgn (s.extract A B) (p - A)).len = (Utf8.decode s p).2 := by rw [← d2, ← hs, up_len]
    rw [hl, show p - A + (Utf8.decode s p).2 = p + (Utf8.decode s p).2 - A by omega]
    exact m1
/-- The signs of a part that begins and ends where signs do. -/
theorem signs_part {s : ByteArray} {A B : Nat} {l : List Sg} (h : Lies s A l B) (hB : B ≤ s.size) : (signs (s.extract A B)).map (Sg.up A) = l := by
  obtain ⟨m, m1, m2⟩ := lies_part hB (Nat.le_refl A) (Nat.le_refl B) h
  have hl := lies_le h
  have := signs_lies (s.extract A B)
  rw [show (s.extract A B).size = B - A by rw [ByteArray.size_extract]; omega] at this
  rw [Nat.sub_self] at m1
  rw [lies_uniq this m1, m2]
theorem stepsF_up (k : Nat) : ∀ (l : List Sg) (a : Spot), stepsF a (l.map (Sg.up k)) = stepsF a l
  | [], _ => rfl
  | x :: l, a => stepsF_up k l (a.step x)
theorem stepsF_add : ∀ (l : List Sg) (a b : Spot), stepsF ⟨a.b + b.b, a.c + b.c, a.d + b.d⟩ l = ⟨a.b + (stepsF b l).b, a.c + (stepsF b l).c, a.d + (stepsF b l).d⟩
  | [], _, _ => rfl
  | x :: l, a, b => by
    have := stepsF_add l a (b.step x)
    simp only [stepsF, List.foldl_cons] at this ⊢
    rw [← this]
    simp only [Spot.step]
    congr 2 <;> omega
theorem stepsF_append (a : Spot) (l m : List Sg) : stepsF a (l ++ m) = stepsF (stepsF a l) m := by simp [stepsF, List.foldl_append]
def Spot.plus (a b : Spot) : Spot := ⟨a.b + b.b, a.c + b.c, a.d + b.d⟩
theorem plus_get (a b : Spot) (u : Int) : (a.plus b).get u = a.get u + b.get u := by
  unfold Spot.plus Spot.get
  repeat' split
  all_goals rfl
theorem spotAt_lies (s : ByteArray) (k : Nat) (_hk : k ≤ (signs s).length) : ∃ q : Nat, (spotAt s k).b = q ∧ q ≤ s.size ∧ Lies s 0 ((signs s).take k) q ∧ Lies s q ((signs s).drop k) s.size := by
  obtain ⟨q, a, b⟩ := lies_take (signs_lies s) k
  refine ⟨q, ?_, lies_fit a (by omega), a, b⟩
  have := stepsF_b ⟨0, 0, 0⟩ a
  unfold spotAt
  rw [this]
  simp
/-- The part between the i-th and the j-th sign. -/
theorem part_spots (s : ByteArray) (i j A B : Nat) (hij : i ≤ j) (hj : j ≤ (signs s).length) (hA : (spotAt s i).b = A) (hB : (spotAt s j).b = B) :
    A ≤ B ∧ B ≤ s.size ∧ (signs (s.extract A B)).length = j - i ∧ ∀ k, k ≤ j - i → spotAt s (i + k) = (spotAt s i).plus (spotAt (s.extract A B) k) := by
  obtain ⟨a, ha, hal, l1, l2⟩ := spotAt_lies s i (by omega)
  obtain ⟨b, hb, hbl, l3, l4⟩ := spotAt_lies s j hj
  obtain rfl : a = A := by omega
  obtain rfl : b = B := by omega
  have e : (signs s).take j = (signs s).take i ++ ((signs s).drop i).take (j - i) := by
    rw [← List.take_add]
    congr 1
    omega
  rw [e] at l3
  obtain ⟨q, q1, q2⟩ := lies_split l3
  have hq : q = a := by
    have x := stepsF_b ⟨0, 0, 0⟩ l1
    have y := stepsF_b ⟨0, 0, 0⟩ q1
    have h1 := lies_le l1
    have h2 := lies_le q1
    rw [x] at y
    simp at y
    omega
  subst hq
  have hle := lies_le q2
  have hp := signs_part q2 hbl
  refine ⟨by omega, hbl, ?_, fun k hk => ?_⟩
  · have := congrArg List.length hp
    rw [List.length_map, List.length_take, List.length_drop] at this
    omega
  · have ht : (signs s).take (i + k) = (signs s).take i ++ ((signs (s.extract q b)).take k).map (Sg.up q) := by
      rw [List.map_take, hp, List.take_take, Nat.min_eq_left hk, ← List.take_add]
    unfold spotAt
    rw [ht, stepsF_append, stepsF_up]
    have := stepsF_add ((signs (s.extract q b)).take k) (stepsF ⟨0, 0, 0⟩ ((signs s).take i)) ⟨0, 0, 0⟩
    simpa [Spot.plus] using this
end Go.Proofs.YthhhglfcacoejaaGreatDoor

/- The contract of the document's own Signs (surtitleref1): the signs of a text, as a list. -/
namespace Go.Proofs.YthhhglfcacoejaaGreatDoor
open Go.RowKit

/-- Signs as the cells of the document's list. -/
def flatR (l : List Sg) : List Value := l.flatMap fun x => [.int .i64 x.loc, .int .i64 x.len, .int .i64 x.rune, .bool x.bad]
theorem flatR_snoc (l : List Sg) (x : Sg) : flatR (l ++ [x]) = flatR l ++ [.int .i64 x.loc, .int .i64 x.len, .int .i64 x.rune, .bool x.bad] := by simp [flatR]
theorem infoRSign : (Tryz.prog.info? 201).map (fun i => (i.zero, i.size, i.bytes)) = some (some (.agg #[.int .i64 0, .int .i64 0, .int .i64 0, .bool false]), 4, 32) := by kernel_rfl
theorem info_parts2 {t : TypeId} {z : Value} {n b : Nat} (h : (Tryz.prog.info? t).map (fun i => (i.zero, i.size, i.bytes)) = some (some z, n, b)) : ∃ i, Tryz.prog.info? t = some i ∧ i.zero = some z ∧ i.size = n ∧ i.bytes = b := by
  cases hi : Tryz.prog.info? t with
  | none => rw [hi] at h; cases h
  | some i => rw [hi] at h; simp at h; exact ⟨i, rfl, h⟩
theorem cell_four2 (w : World) (a b c d : Value) (t : TypeId) : ∀ j u, [a, b, c, d][j]? = some u → (w.alloc (.cells #[a, b, c, d] t)).cell? ((⟨w.heap.size, 0, none⟩ : Addr).add j) = some u := by
  intro j u hj
  match j, hj with
  | 0, hj => simp at hj; subst hj; simp [Addr.add]
  | 1, hj => simp at hj; subst hj; simp [Addr.add]
  | 2, hj => simp at hj; subst hj; simp [Addr.add]
  | 3, hj => simp at hj; subst hj; simp [Addr.add]
  | j + 4, hj => simp at hj
/-- The document's sign at a place is the program's. -/
theorem one_val (s : ByteArray) (p : Nat) (hp : p < s.size) : (oneR s p).val p = .agg #[.int .i64 (sgn s p).loc, .int .i64 (sgn s p).len, .int .i64 (sgn s p).rune, .bool (sgn s p).bad] := by
  obtain ⟨a, b, c, d, _, _⟩ := sgn_dec s p hp
  rw [one_dec s p hp, a, b, c, d]
  cases h : badAt s p
  · rfl
  · have := (sgn_bad s p h).2.2.2.2.2
    rw [this]
    rfl
theorem bytes_row (w : World) (s : ByteArray) (cap : Nat) (t : TypeId) (k : Nat × Nat) : BytesAt (w.drew.alloc (.cells (bytesRow s cap) t k)) w.heap.size s := by
  intro j hj
  have h1 := World.alloc_heap_new w.drew (.cells (bytesRow s cap) t k)
  have e : (bytesRow s cap)[j]? = some (.int .u8 s[j].toNat) := by
    unfold bytesRow
    rw [Array.getElem?_append_left (by simpa using hj)]
    simp [ByteArray.getElem_eq_getElem_data]
    exact ⟨s.data[j]'hj, Array.getElem?_eq_getElem hj, rfl⟩
  show World.cell? (w.drew.alloc _) ⟨w.drew.heap.size, j, none⟩ = _
  simp only [World.cell?, h1]
  exact e
theorem BytesAt.below {w w' : World} {B : Nat} {s : ByteArray} {n : Nat} (h : BytesAt w B s) (hb : Below n w w') (hB : B < n) : BytesAt w' B s := fun k hk => (hb.cell (p := ⟨B, k, none⟩) hB).trans (h k hk)
theorem BytesAt.grown {w w' : World} {B : Nat} {s : ByteArray} {row : Option Nat} (h : BytesAt w B s) (hg : w.grownBy w' row) (hB : B < w.heap.size) (hr : row ≠ some B) : BytesAt w' B s := fun k hk => (World.cell?_of_block (hg.block B hB (fun e => hr e.symm))).trans (h k hk)

theorem row_below {A B : World} {base e size k : Nat} {v : Value} {xs : List Value} (h : A.ownsRow base e size v k xs) (hb : Below A.heap.size A B) : B.ownsRow base e size v k xs := by
  refine ⟨h.1, ?_⟩
  rcases h.2 with hn | ⟨g, cap, cur, rfl, hg, hgg, rest⟩
  · exact .inl hn
  · exact .inr ⟨g, cap, cur, rfl, hg, (hb.block g (Array.getElem?_eq_some_iff.1 hgg).1).trans hgg, rest⟩
theorem row_low {A : World} {m base e size k : Nat} {v : Value} {xs : List Value} (h : A.ownsRow base e size v k xs) (hm : m ≤ base) : A.ownsRow m e size v k xs := by
  refine ⟨h.1, ?_⟩
  rcases h.2 with hn | ⟨g, cap, cur, rfl, hb, rest⟩
  · exact .inl hn
  · exact .inr ⟨g, cap, cur, rfl, by omega, rest⟩

set_option maxRecDepth 100000 in
set_option maxHeartbeats 4000000 in
theorem rsigns_any (s : ByteArray) (hs : s.size ≤ 1048576) (w : World) :
    Calls Tryz.prog 95 #[.string s] w fun e w' => ∃ v, e = .returned v ∧ w'.ownsRow w.heap.size 201 4 v (signs s).length (flatR (signs s)) ∧ Below w.heap.size w w' := by
  obtain ⟨i0, hi, hz0, hz1, hz2⟩ := info_parts2 infoRSign
  have hcv := run_bytes_of_string (P := Tryz.prog) w 9 199 5 s Tryz.underlying9 Tryz.underlying199 Tryz.underlying5
  have hby := bytes_row w s (grownCap w s.size 0 5) 5 ((bytesRow s (grownCap w s.size 0 5)).size, (bytesRow s (grownCap w s.size 0 5)).size + 1)
  have hB0 := ((Below.refl w.heap.size w).drew).alloc (Nat.le_refl _) (.cells (bytesRow s (grownCap w s.size 0 5)) 5 ((bytesRow s (grownCap w s.size 0 5)).size, (bytesRow s (grownCap w s.size 0 5)).size + 1))
  have hz3 : w.heap.size + 1 ≤ (w.drew.alloc (.cells (bytesRow s (grownCap w s.size 0 5)) 5 ((bytesRow s (grownCap w s.size 0 5)).size, (bytesRow s (grownCap w s.size 0 5)).size + 1))).heap.size := by rw [World.size_alloc]; exact Nat.le_refl _
  generalize w.drew.alloc (.cells (bytesRow s (grownCap w s.size 0 5)) 5 ((bytesRow s (grownCap w s.size 0 5)).size, (bytesRow s (grownCap w s.size 0 5)).size + 1)) = W1 at *
  generalize grownCap w s.size 0 5 = cap at *
  have HBY := hideO hby
  clear hby
  go_enter Tryz.func95, Tryz.ntmps95
  go_wp2
  clear hcv
  go_loopw [4, 5, 6] (fun v i _ wr => ∃ (pre : List Sg) (pos : Nat), i = .int .i64 pos ∧ Hid (BytesAt wr w.heap.size s) ∧ Hid (Lies s 0 pre pos) ∧ pos ≤ s.size ∧ pre.length ≤ pos ∧ wr.ownsRow (w.heap.size + 1) 201 4 v pre.length (flatR pre) ∧ Below w.heap.size w wr ∧ w.heap.size + 1 ≤ wr.heap.size) (fun _ i _ _ => s.size - (intOf i).toNat)
  case atStart => exact ⟨[], 0, rfl, HBY, hideO rfl, by omega, by simp, World.ownsRow_nil _ _ _ _, hB0, hz3⟩
  case round =>
    obtain ⟨pre, pos, rfl, HB, HL, hps, hlen, hown, hB, hz⟩ := hrel
    clear HBY hB0 hz3
    by_cases hp : pos < s.size
    · have ho := one_val s pos hp
      obtain ⟨d1, d2, d3, d4, d5, d6⟩ := sgn_dec s pos hp
      have HL2 : Hid (Lies s 0 (pre ++ [sgn s pos]) (pos + (sgn s pos).len)) := lies_append HL.out ⟨hp, rfl, rfl⟩
      have hl1 : 1 ≤ (sgn s pos).len := by omega
      have hl2 : pos + (sgn s pos).len ≤ s.size := by omega
      clear d1 d2 d3 d4 d5 d6
      generalize sgn s pos = x at *
      go_wp2_with (first
        | (go_at_call 117; refine (one_any wr w.heap.size cap s pos hp hs HB.out).mono ?_; rintro e w2 ⟨rfl, hb2⟩; rw [ho]; have HB2 := hideO (HB.out.below hb2 (by omega)); have hown2 := row_below hown hb2; have hB2 := hB.trans (hb2.mono hB.size); have hzw := hb2.size; clear hb2)
        | (at_builtin; refine wpList_append_own _ rfl _ _ 178 rfl (w.heap.size + 1) 201 i0 (.agg #[.int .i64 0, .int .i64 0, .int .i64 0, .bool false]) 4 32 Tryz.underlying178 hi hz0 hz1 hz2 rfl (by decide) _ _ _ rfl ((hown2.alloc _).alloc _) ⟨w2.heap.size + 1, 0, none⟩ 1 1 [.int .i64 x.loc, .int .i64 x.len, .int .i64 x.rune, .bool x.bad] rfl rfl (by have := cell_four2 (w2.alloc (.cells #[.int .i64 x.loc, .int .i64 x.len, .int .i64 x.rune, .bool x.bad] 201)) (.int .i64 x.loc) (.int .i64 x.len) (.int .i64 x.rune) (.bool x.bad) 201; rwa [World.size_alloc] at this) (fun u hu => by simp at hu; rcases hu with rfl | rfl | rfl | rfl <;> rfl) (by unfold maxLen; omega) (by omega) (by simp; omega) ?_; intro v' w3 hown' hgrow _; have x0 : w3.cell? ⟨w2.heap.size, 1, none⟩ = some (.int .i64 x.len) := (World.cell?_of_block (hgrow.block w2.heap.size (by simp; omega) (fun e => by have := (hown2.lt _ e.symm).2; omega))).trans (by simp)))
      have hB3 := Below.grown ((hB2.alloc hB2.size (.cells #[.int .i64 x.loc, .int .i64 x.len, .int .i64 x.rune, .bool x.bad] 201)).alloc (by simp; omega) (.cells #[.int .i64 x.loc, .int .i64 x.len, .int .i64 x.rune, .bool x.bad] 201)) hgrow (by simp; omega) (fun j hj => by have := (hown2.lt j hj).1; omega)
      have HB3 := hideO (((HB2.out.alloc (by omega) (.cells #[.int .i64 x.loc, .int .i64 x.len, .int .i64 x.rune, .bool x.bad] 201)).alloc (by simp; omega) (.cells #[.int .i64 x.loc, .int .i64 x.len, .int .i64 x.rune, .bool x.bad] 201)).grown hgrow (by simp; omega) (fun e => by have := (hown2.lt _ e).1; omega))
      have hz3 := hgrow.size
      simp only [World.size_alloc] at hz3
      go_roundw
      case rel => exact ⟨pre ++ [x], pos + x.len, by go_num, HB3, HL2, hl2, by simp; omega, by rw [List.length_append, flatR_snoc]; exact hown', hB3, by omega⟩
      case measure => simp [intOf]; omega
    · go_wp2
      go_ret
      have e := lies_uniq (s := s) HL.out (by have := signs_lies s; rwa [show s.size = pos by omega] at this)
      rw [← e]
      exact ⟨_, rfl, row_low hown (by omega), hB⟩
end Go.Proofs.YthhhglfcacoejaaGreatDoor

/- Contracts of the document's own units, size, unit, Count, Pairs and Place (surtitleref1). -/
namespace Go.Proofs.YthhhglfcacoejaaGreatDoor
open Go.RowKit

/-- How many of a unit a sign has. -/
def sizeU (u : Int) (x : Sg) : Int := if u = 1 then x.len else if u = 3 then pairsI x.rune else 1
theorem step_get (p : Spot) (x : Sg) (u : Int) (hu : u = 1 ∨ u = 2 ∨ u = 3) : (p.step x).get u = p.get u + sizeU u x := by
  rcases hu with rfl | rfl | rfl <;> rfl
theorem sizeU_bd (u : Int) (x : Sg) : 0 ≤ sizeU u x ∧ sizeU u x ≤ 4 := by
  have := x.small
  have := pairsI_bd x.rune
  unfold sizeU
  repeat' split
  all_goals omega

theorem flatR_get : ∀ (l : List Sg) (n : Nat) (h : n < l.length), (flatR l)[n * 4]? = some (.int .i64 l[n].loc) ∧ (flatR l)[n * 4 + 1]? = some (.int .i64 l[n].len) ∧ (flatR l)[n * 4 + 2]? = some (.int .i64 l[n].rune) ∧ (flatR l)[n * 4 + 3]? = some (.bool l[n].bad)
  | [], _, h => by simp at h
  | x :: r, 0, _ => by simp [flatR]
  | x :: r, n + 1, h => by
    have := flatR_get r n (by simpa using h)
    have e : flatR (x :: r) = .int .i64 x.loc :: .int .i64 x.len :: .int .i64 x.rune :: .bool x.bad :: flatR r := by simp [flatR]
    rw [e, show (n + 1) * 4 = n * 4 + 1 + 1 + 1 + 1 by omega]
    simpa using this
/-- The four cells of a sign of a list. -/
def RAt (W : World) (g n : Nat) (x : Sg) : Prop := W.cell? ⟨g, n * 4, none⟩ = some (.int .i64 x.loc) ∧ W.cell? ⟨g, n * 4 + 1, none⟩ = some (.int .i64 x.len) ∧ W.cell? ⟨g, n * 4 + 2, none⟩ = some (.int .i64 x.rune) ∧ W.cell? ⟨g, n * 4 + 3, none⟩ = some (.bool x.bad)
theorem RAt.below {W W' : World} {g n m : Nat} {x : Sg} (h : RAt W g n x) (hb : Below m W W') (hg : g < m) : RAt W' g n x :=
  ⟨(hb.cell (p := ⟨g, n * 4, none⟩) hg).trans h.1, (hb.cell (p := ⟨g, n * 4 + 1, none⟩) hg).trans h.2.1, (hb.cell (p := ⟨g, n * 4 + 2, none⟩) hg).trans h.2.2.1, (hb.cell (p := ⟨g, n * 4 + 3, none⟩) hg).trans h.2.2.2⟩
theorem rows_at {W : World} {base e : Nat} {v : Value} {l : List Sg} (h : W.ownsRow base e 4 v l.length (flatR l)) :
    ∃ oa cap, v = .slice oa l.length cap ∧ ∀ n (hn : n < l.length), ∃ g, oa = some ⟨g, 0, none⟩ ∧ g < W.heap.size ∧ base ≤ g ∧ RAt W g n l[n] := by
  obtain ⟨h1, ⟨rfl, h0⟩ | ⟨g, cap, cur, rfl, hg, hh, hn, hcap, hsz, htake⟩⟩ := h
  · exact ⟨none, 0, by rw [h0], fun n hn => by omega⟩
  · refine ⟨some ⟨g, 0, none⟩, cap, rfl, fun n hn => ⟨g, rfl, (Array.getElem?_eq_some_iff.1 hh).1, hg, ?_⟩⟩
    obtain ⟨f0, f1, f2, f3⟩ := flatR_get l n hn
    rw [← htake, List.getElem?_take, if_pos (by omega), Array.getElem?_toList] at f0 f1 f2 f3
    exact ⟨by simpa [World.cell?, hh] using f0, by simpa [World.cell?, hh] using f1, by simpa [World.cell?, hh] using f2, by simpa [World.cell?, hh] using f3⟩

/-- The places from the k-th sign on. -/
def restS (s : ByteArray) (k : Nat) : List Spot := spotsF (spotAt s k) ((signs s).drop k)
theorem restS_zero (s : ByteArray) : restS s 0 = spotsL s := by rw [spots_eq]; rfl
theorem spotAt_succ (s : ByteArray) (k : Nat) (hk : k < (signs s).length) : spotAt s (k + 1) = (spotAt s k).step (signs s)[k] := by
  unfold spotAt
  rw [List.take_succ_eq_append_getElem hk, stepsF_snoc]
theorem restS_cons (s : ByteArray) (k : Nat) (hk : k < (signs s).length) : restS s k = spotAt s k :: restS s (k + 1) := by
  unfold restS
  rw [List.drop_eq_getElem_cons hk, spotsF, spotAt_succ s k hk]
theorem restS_head (s : ByteArray) (k : Nat) : ∃ r, restS s k = spotAt s k :: r := by
  unfold restS
  cases (signs s).drop k with
  | nil => exact ⟨[], rfl⟩
  | cons x r => exact ⟨_, rfl⟩
theorem restS_end (s : ByteArray) : restS s (signs s).length = [spotAt s (signs s).length] := by
  unfold restS
  rw [List.drop_length]
  rfl
theorem spotAt_bd (s : ByteArray) (k : Nat) (u : Int) : 0 ≤ (spotAt s k).get u ∧ (spotAt s k).get u ≤ 4 * s.size := by
  refine ⟨first_least s u (spotAt_mem s k), ?_⟩
  have h1 := last_most s u (spotAt_mem s k)
  have h2 := trail_bd (signs s)
  have h3 : (signs s).length ≤ s.size := sgns_length s _ _
  rw [trail_end] at h2
  have h4 : (lastS s).get u ≤ 4 * s.size := by
    have h5 : lastS s = stepsF ⟨0, 0, 0⟩ (signs s) := rfl
    rw [← h5] at h2
    unfold Spot.get
    repeat' split
    all_goals omega
  omega

end Go.Proofs.YthhhglfcacoejaaGreatDoor

/- The contract of the document's own Cut (surtitleref1) by signs, from one to another. -/
namespace Go.Proofs.YthhhglfcacoejaaGreatDoor
open Go.RowKit

set_option maxHeartbeats 400000 in
theorem rcountR (s : ByteArray) (hs : s.size ≤ 1048576) (w : World) :
    Calls Tryz.prog 70 #[.string s] w fun e w' => e = .returned (.int .i64 (signs s).length) ∧ Below w.heap.size w w' := by
  go_enter Tryz.func70, Tryz.ntmps70
  go_wp2_with fail
  refine (rsigns_any s hs _).mono ?_
  rintro e w1 ⟨lv, rfl, hown, hB1⟩
  obtain ⟨oa, cap, rfl, hcell⟩ := rows_at hown
  clear hcell hown
  go_wp2
  go_ret
  exact ⟨rfl, hB1⟩
theorem find_spot (s : ByteArray) (k : Nat) (hk : k ≤ (signs s).length) : findS s 2 (k : Int) = (spotAt s k, 0) := by
  unfold findS
  rw [if_neg (by omega)]
  have h := findL_mem 2 (spots_rise s) (spotAt_mem s k)
  have hc : (spotAt s k).get 2 = (k : Int) := spotAt_c s k hk
  rw [hc] at h
  exact h
end Go.Proofs.YthhhglfcacoejaaGreatDoor

/- The reference of chapter 7: fits, within, cross, Check. -/
namespace Go.Proofs.YthhhglfcacoejaaGreatDoor
open Go.RowKit Go.Shelf
attribute [local go_sem] Oper.semAt_some

set_option maxRecDepth 100000 in
set_option maxHeartbeats 1000000 in
theorem sfits_any (x : Sp) (n : Int) (w : World) : Calls Tryz.prog 71 #[x.val, .int .i64 n] w fun e w' => e = .returned (.bool (fitB x n)) ∧ Below w.heap.size w w' := by
  obtain ⟨f, t, k, v⟩ := x
  unfold fitB Sp.val
  simp only
  by_cases h0 : f < 0
  · rw [decide_eq_false (by omega)]
    go_enter Tryz.func71, Tryz.ntmps71
    go_wp2_with fail
    go_ret
    exact ⟨rfl, bel1S w _⟩
  by_cases h1 : n < t
  · rw [decide_eq_false (by omega)]
    go_enter Tryz.func71, Tryz.ntmps71
    go_wp2_with fail
    go_ret
    exact ⟨rfl, bel1S w _⟩
  by_cases h2 : t ≤ f
  · rw [decide_eq_false (by omega)]
    go_enter Tryz.func71, Tryz.ntmps71
    go_wp2_with fail
    go_ret
    exact ⟨rfl, bel1S w _⟩
  by_cases h3 : k < 1
  · rw [decide_eq_false (by omega)]
    go_enter Tryz.func71, Tryz.ntmps71
    go_wp2_with fail
    go_ret
    exact ⟨rfl, bel1S w _⟩
  by_cases h4 : 5 < k
  · rw [decide_eq_false (by omega)]
    go_enter Tryz.func71, Tryz.ntmps71
    go_wp2_with fail
    go_ret
    exact ⟨rfl, bel1S w _⟩
  by_cases hk : k = 5
  · subst hk
    rw [if_pos rfl]
    by_cases h5 : 0 ≤ v
    · by_cases h6 : v ≤ 16777215
      · rw [decide_eq_true (by omega)]
        go_enter Tryz.func71, Tryz.ntmps71
        go_wp2_with fail
        go_ret
        exact ⟨rfl, bel1S w _⟩
      · rw [decide_eq_false (by omega)]
        go_enter Tryz.func71, Tryz.ntmps71
        go_wp2_with fail
        go_ret
        exact ⟨rfl, bel1S w _⟩
    · rw [decide_eq_false (by omega)]
      go_enter Tryz.func71, Tryz.ntmps71
      go_wp2_with fail
      go_ret
      exact ⟨rfl, bel1S w _⟩
  · have hke : (k == 5) = false := by simpa using hk
    rw [if_neg hk]
    by_cases h5 : v = 0
    · subst h5
      rw [decide_eq_true (by omega)]
      go_enter Tryz.func71, Tryz.ntmps71
      go_wp2_with fail
      go_ret
      exact ⟨rfl, bel1S w _⟩
    · have hv : (v == 0) = false := by simpa using h5
      rw [decide_eq_false (by omega)]
      go_enter Tryz.func71, Tryz.ntmps71
      go_wp2_with fail
      go_ret
      exact ⟨rfl, bel1S w _⟩
def inB (a b : Sp) : Bool := decide (b.fr ≤ a.fr ∧ a.tt ≤ b.tt)
set_option maxRecDepth 100000 in
set_option maxHeartbeats 1000000 in
theorem rwithin_any (a b : Sp) (w : World) : Calls Tryz.prog 96 #[a.val, b.val] w fun e w' => e = .returned (.bool (inB a b)) ∧ Below w.heap.size w w' := by
  obtain ⟨f, t, k, v⟩ := a
  obtain ⟨f2, t2, k2, v2⟩ := b
  unfold inB Sp.val
  simp only
  by_cases h1 : f2 ≤ f
  · by_cases h2 : t ≤ t2
    · rw [decide_eq_true (by omega)]
      go_enter Tryz.func96, Tryz.ntmps96
      go_wp2_with fail
      go_ret
      exact ⟨rfl, bupS (bel1S _ _) (bel1S _ _)⟩
    · rw [decide_eq_false (by omega)]
      go_enter Tryz.func96, Tryz.ntmps96
      go_wp2_with fail
      go_ret
      exact ⟨rfl, bupS (bel1S _ _) (bel1S _ _)⟩
  · rw [decide_eq_false (by omega)]
    go_enter Tryz.func96, Tryz.ntmps96
    go_wp2_with fail
    go_ret
    exact ⟨rfl, bupS (bel1S _ _) (bel1S _ _)⟩
instance (a b : Sp) : Decidable (crS a b) := by unfold crS; infer_instance
theorem crS_in (a b : Sp) : crS a b ↔ a.fr < b.tt ∧ b.fr < a.tt ∧ inB a b = false ∧ inB b a = false := by
  unfold crS inB
  simp only [decide_eq_false_iff_not]
set_option maxRecDepth 100000 in
set_option maxHeartbeats 2000000 in
theorem rcross_any (a b : Sp) (w : World) : Calls Tryz.prog 72 #[a.val, b.val] w fun e w' => e = .returned (.bool (decide (crS a b))) ∧ Below w.heap.size w w' := by
  obtain ⟨R, hR⟩ : ∃ R, decide (crS a b) = R := ⟨_, rfl⟩
  have hcr := crS_in a b
  rw [hR]
  have H1 := hideS (rwithin_any a b)
  have H2 := hideS (rwithin_any b a)
  obtain ⟨i1, hi1⟩ : ∃ i1, inB a b = i1 := ⟨_, rfl⟩
  obtain ⟨i2, hi2⟩ : ∃ i2, inB b a = i2 := ⟨_, rfl⟩
  rw [hi1] at H1 hcr
  rw [hi2] at H2 hcr
  obtain ⟨f, t, k, v⟩ := a
  obtain ⟨f2, t2, k2, v2⟩ := b
  unfold Sp.val at H1 H2 ⊢
  simp only at hcr H1 H2 ⊢
  have HB : ∀ W : World, Hid (Below W.heap.size W ((W.alloc (.cells #[.int .i64 f, .int .i64 t, .int .i64 k, .int .i64 v] 138)).alloc (.cells #[.int .i64 f2, .int .i64 t2, .int .i64 k2, .int .i64 v2] 138))) := fun W => hideS (bupS (bel1S _ _) (bel1S _ _))
  have HR : Hid (R = decide (f < t2 ∧ f2 < t ∧ i1 = false ∧ i2 = false)) := hideS (by rw [← hR]; exact decide_eq_decide.2 hcr)
  clear hR hcr hi1 hi2
  by_cases h1 : f < t2
  · by_cases h2 : f2 < t
    · cases i1 with
      | true =>
        obtain rfl : R = false := by rw [HR.out]; simp
        go_enter Tryz.func72, Tryz.ntmps72
        go_wp2_with fail
        refine (H1.out _).mono ?_
        rintro e w1 ⟨rfl, b1⟩
        have Hb := hideS (bupS (HB w).out b1)
        clear b1
        go_wp2_with fail
        go_ret
        exact ⟨rfl, Hb.out⟩
      | false =>
        have hR2 : R = !i2 := by rw [HR.out]; cases i2 <;> simp [h1, h2]
        obtain ⟨V, hV⟩ : ∃ V, ((w.alloc (.cells #[.int .i64 f, .int .i64 t, .int .i64 k, .int .i64 v] 138)).alloc (.cells #[.int .i64 f2, .int .i64 t2, .int .i64 k2, .int .i64 v2] 138)) = V := ⟨_, rfl⟩
        have n0 : V.heap[w.heap.size]? = some (.cells #[.int .i64 f, .int .i64 t, .int .i64 k, .int .i64 v] 138 (0, 0)) := by rw [← hV]; exact (Below.heap_alloc _ _ _ (by simp)).trans (World.alloc_heap_new w _)
        have n1 : V.heap[w.heap.size + 1]? = some (.cells #[.int .i64 f2, .int .i64 t2, .int .i64 k2, .int .i64 v2] 138 (0, 0)) := by
          rw [← hV]
          have h9 := World.alloc_heap_new (w.alloc (.cells #[.int .i64 f, .int .i64 t, .int .i64 k, .int .i64 v] 138)) (.cells #[.int .i64 f2, .int .i64 t2, .int .i64 k2, .int .i64 v2] 138 (0, 0))
          rw [World.size_alloc] at h9
          exact h9
        have l1 : w.heap.size + 1 < V.heap.size := (Array.getElem?_eq_some_iff.1 n1).1
        have hBV : Hid (Below w.heap.size w V) := hideS (by rw [← hV]; exact (HB w).out)
        have HN := hideS (And.intro n0 n1)
        have p0 : V.cell? ⟨w.heap.size, 0, none⟩ = some (.int .i64 f) := by simp [World.cell?, n0]
        have p1 : V.cell? ⟨w.heap.size, 1, none⟩ = some (.int .i64 t) := by simp [World.cell?, n0]
        have p2 : V.cell? ⟨w.heap.size, 2, none⟩ = some (.int .i64 k) := by simp [World.cell?, n0]
        have p3 : V.cell? ⟨w.heap.size, 3, none⟩ = some (.int .i64 v) := by simp [World.cell?, n0]
        have q0 : V.cell? ⟨w.heap.size + 1, 0, none⟩ = some (.int .i64 f2) := by simp [World.cell?, n1]
        have q1 : V.cell? ⟨w.heap.size + 1, 1, none⟩ = some (.int .i64 t2) := by simp [World.cell?, n1]
        have q2 : V.cell? ⟨w.heap.size + 1, 2, none⟩ = some (.int .i64 k2) := by simp [World.cell?, n1]
        have q3 : V.cell? ⟨w.heap.size + 1, 3, none⟩ = some (.int .i64 v2) := by simp [World.cell?, n1]
        clear n0 n1
        go_enter Tryz.func72, Tryz.ntmps72
        go_wp2_with fail
        try rw [hV]
        clear hV p0 p1 p2 p3 q0 q1 q2 q3
        refine (H1.out _).mono ?_
        rintro e w1 ⟨rfl, b1⟩
        have m0 := (b1.block w.heap.size (by omega)).trans HN.out.1
        have m1 := (b1.block (w.heap.size + 1) l1).trans HN.out.2
        have x0 : w1.cell? ⟨w.heap.size, 0, none⟩ = some (.int .i64 f) := by simp [World.cell?, m0]
        have x1 : w1.cell? ⟨w.heap.size, 1, none⟩ = some (.int .i64 t) := by simp [World.cell?, m0]
        have x2 : w1.cell? ⟨w.heap.size, 2, none⟩ = some (.int .i64 k) := by simp [World.cell?, m0]
        have x3 : w1.cell? ⟨w.heap.size, 3, none⟩ = some (.int .i64 v) := by simp [World.cell?, m0]
        have y0 : w1.cell? ⟨w.heap.size + 1, 0, none⟩ = some (.int .i64 f2) := by simp [World.cell?, m1]
        have y1 : w1.cell? ⟨w.heap.size + 1, 1, none⟩ = some (.int .i64 t2) := by simp [World.cell?, m1]
        have y2 : w1.cell? ⟨w.heap.size + 1, 2, none⟩ = some (.int .i64 k2) := by simp [World.cell?, m1]
        have y3 : w1.cell? ⟨w.heap.size + 1, 3, none⟩ = some (.int .i64 v2) := by simp [World.cell?, m1]
        have Hb := hideS (bupS hBV.out b1)
        clear b1 m0 m1
        go_wp2_with fail
        refine (H2.out _).mono ?_
        rintro e w2 ⟨rfl, b2⟩
        have Hb2 := hideS (bupS Hb.out b2)
        clear b2 x0 x1 x2 x3 y0 y1 y2 y3
        subst hR2
        cases i2 with
        | true =>
          go_wp2_with fail
          go_ret
          exact ⟨rfl, Hb2.out⟩
        | false =>
          go_wp2_with fail
          go_ret
          exact ⟨rfl, Hb2.out⟩
    · obtain rfl : R = false := by rw [HR.out]; simp [h2]
      go_enter Tryz.func72, Tryz.ntmps72
      go_wp2_with fail
      go_ret
      exact ⟨rfl, (HB w).out⟩
  · obtain rfl : R = false := by rw [HR.out]; simp [h1]
    go_enter Tryz.func72, Tryz.ntmps72
    go_wp2_with fail
    go_ret
    exact ⟨rfl, (HB w).out⟩
theorem tx_text {W : World} {P : Nat} {a b : Value} (h : W.heap[P]? = some (.cells #[a, b] 52 (0, 0))) : W.cell? ⟨P, 0, none⟩ = some a ∧ W.cell? ⟨P, 1, none⟩ = some b := by simp [World.cell?, h]
/-- No two of the spans up to the i-th one cross. -/
def NoCr (D : List Sp) (i : Nat) : Prop := ∀ j k x y, j < i → k < j → D[j]? = some x → D[k]? = some y → ¬ crS x y
theorem noCr_all {D : List Sp} (h : NoCr D D.length) (hf : ∀ x ∈ D, x.fr < x.tt) : crB D = false := by
  rw [← Bool.not_eq_true, crB_iff D hf]
  rintro ⟨x, hx, y, hy, hc⟩
  obtain ⟨i, hi, rfl⟩ := List.getElem_of_mem hx
  obtain ⟨j, hj, rfl⟩ := List.getElem_of_mem hy
  rcases Nat.lt_trichotomy i j with l | l | l
  · exact h j i _ _ hj l (List.getElem?_eq_getElem hj) (List.getElem?_eq_getElem hi) hc
  · subst l
    exact crS_irr _ hc
  · exact h i j _ _ hi l (List.getElem?_eq_getElem hi) (List.getElem?_eq_getElem hj) (crS_symm hc)
theorem cr_some {D : List Sp} {x y : Sp} (hx : x ∈ D) (hy : y ∈ D) (h : crS x y) (hf : ∀ x ∈ D, x.fr < x.tt) : crB D = true := (crB_iff D hf).2 ⟨y, hy, x, hx, h⟩
theorem fit_lt {D : List Sp} {n : Int} (h : allB D n = true) : ∀ x ∈ D, x.fr < x.tt := fun x hx => by
  have h1 := List.all_eq_true.1 h x hx
  have h2 := of_decide_eq_true h1
  omega
set_option maxRecDepth 100000 in
set_option maxHeartbeats 4000000 in
theorem rcheck_any (s : ByteArray) (D : List Sp) (oa : Option Addr) (cap : Nat) (w : World) (hR : SpO w oa D) :
    Calls Tryz.prog 41 #[.agg #[.string s, .slice oa D.length cap]] w fun e w' => e = .returned (.int .i64 (chkT s D)) ∧ Below w.heap.size w w' := by
  obtain ⟨N, hN⟩ : ∃ N, D.length = N := ⟨_, rfl⟩
  have hmx : maxLen ≤ 9223372036854775807 := by decide
  obtain ⟨V, hV⟩ : ∃ V, w.alloc (.cells #[.string s, .slice oa N cap] 52) = V := ⟨_, rfl⟩
  have nV : V.heap[w.heap.size]? = some (.cells #[.string s, .slice oa N cap] 52 (0, 0)) := by rw [← hV]; exact World.alloc_heap_new w _
  have bV : Below w.heap.size w V := by rw [← hV]; exact bel1S _ _
  obtain ⟨t0, t1⟩ := tx_text nV
  have HV := hideS (And.intro nV bV)
  have hlV : w.heap.size < V.heap.size := (Array.getElem?_eq_some_iff.1 nV).1
  clear nV bV
  unfold chkT
  by_cases h1 : 4096 < s.size
  · rw [if_pos h1, hN]
    have d1 : (4096 : Int) < (s.size : Int) := by omega
    go_enter Tryz.func41, Tryz.ntmps41
    go_wp2_with fail
    go_ret
    exact ⟨rfl, HV.out.2⟩
  · rw [if_neg h1]
    have d1 : ¬ (4096 : Int) < (s.size : Int) := by omega
    by_cases h2 : 256 < D.length
    · rw [if_pos h2, hN]
      have d2 : (256 : Int) < (N : Int) := by omega
      go_enter Tryz.func41, Tryz.ntmps41
      go_wp2_with fail
      go_ret
      exact ⟨rfl, HV.out.2⟩
    · rw [if_neg h2]
      rw [hN] at h2
      have d2 : ¬ (256 : Int) < (N : Int) := by omega
      obtain ⟨K, hK⟩ : ∃ K : Nat, (signs s).length = K := ⟨_, rfl⟩
      have HCt := hideS (rcountR s (by omega) V)
      rw [hK] at HCt
      obtain ⟨R, hRd⟩ : ∃ R : Int, (if allB D (signs s).length = true ∧ crB D = false then 0 else 23) = R := ⟨_, rfl⟩
      rw [hK] at hRd
      rw [hK, hRd, hN]
      have HX := hideS (And.intro hRd (And.intro hN hR))
      clear hRd hR hK hN
      go_enter Tryz.func41, Tryz.ntmps41
      go_wp2_with fail
      refine HCt.out.mono ?_
      rintro e w1 ⟨rfl, b1⟩
      have H1 := hideS (And.intro ((b1.block w.heap.size hlV).trans HV.out.1) (bupS HV.out.2 b1))
      clear hV t0 t1 b1 HCt HV
      go_wp2_with fail
      go_loopw [4] (fun iv wq => ∃ i : Nat, iv = .int .i64 (i : Nat) ∧ i ≤ N ∧ (D.take i).all (fun x => fitB x K) = true ∧ wq.heap[w.heap.size]? = some (.cells #[.string s, .slice oa N cap] 52 (0, 0)) ∧ Below w.heap.size w wq) (fun iv _ => N - (intOf iv).toNat)
      case atStart => exact ⟨0, rfl, Nat.zero_le _, rfl, H1.out.1, H1.out.2⟩
      case round =>
        obtain ⟨i, rfl, hiN, hall, hnq, hb⟩ := hrel
        obtain ⟨wq, rfl⟩ : ∃ wq, wq = wr := ⟨_, rfl⟩
        clear H1
        obtain ⟨t0, t1⟩ := tx_text hnq
        have hlq : w.heap.size < wq.heap.size := (Array.getElem?_eq_some_iff.1 hnq).1
        by_cases hlt : i < N
        · obtain ⟨x, hx⟩ : ∃ x, D[i]? = some x := ⟨_, List.getElem?_eq_getElem (by rw [HX.out.2.1]; exact hlt)⟩
          obtain ⟨a, rfl, hab, c0, c1, c2, c3⟩ := HX.out.2.2.keep hb i x hx
          have d3 : (i : Int) < (N : Int) := by omega
          have wi : IntKind.i64.wrap ((i : Int) + 1) = ((i + 1 : Nat) : Int) := by rw [show ((i + 1 : Nat) : Int) = (i : Int) + 1 by omega]; exact IntWalk.i64_in _ ⟨by omega, by omega⟩
          have HF := hideS (sfits_any x K wq)
          unfold Sp.val at HF
          obtain ⟨g, hg⟩ : ∃ g, fitB x K = g := ⟨_, rfl⟩
          rw [hg] at HF
          have HA := hideS (And.intro (And.intro hall hg) (And.intro hnq (And.intro hb hx)))
          clear hall hg hnq hb hx
          go_wp2_with fail
          refine HF.out.mono ?_
          rintro e w5 ⟨rfl, b5⟩
          have H5 := hideS (And.intro ((b5.block w.heap.size hlq).trans HA.out.2.1) (bupS HA.out.2.2.1 b5))
          clear b5 HF c0 c1 c2 c3 t0 t1
          cases g with
          | true =>
            go_wp2_with fail
            go_roundw
            case rel =>
              refine ⟨i + 1, by first | rfl | simp, by omega, ?_, H5.out.1, H5.out.2⟩
              rw [List.take_add_one, HA.out.2.2.2, List.all_append, HA.out.1.1]
              simp [HA.out.1.2]
            case measure => simp [intOf]; omega
          | false =>
            go_wp2_with fail
            go_ret
            refine ⟨?_, H5.out.2⟩
            have hm : x ∈ D := List.mem_of_getElem? HA.out.2.2.2
            have h0 : allB D K = false := List.all_eq_false.2 ⟨x, hm, by rw [HA.out.1.2]; simp⟩
            have e9 := HX.out.1
            rw [if_neg (by rw [h0]; simp)] at e9
            rw [← e9]
            rfl
        · have d3 : ¬ (i : Int) < (N : Int) := by omega
          have hAll : allB D K = true := by
            rw [List.take_of_length_le (by rw [HX.out.2.1]; omega)] at hall
            exact hall
          have hlt2 := fit_lt hAll
          have HA := hideS (And.intro hAll (And.intro hnq (And.intro hb hlt2)))
          clear hall hAll hnq hb hlt2
          go_wp2_with fail
          go_loopw [5] (fun iv wz => ∃ i : Nat, iv = .int .i64 (i : Nat) ∧ i ≤ N ∧ NoCr D i ∧ wz.heap[w.heap.size]? = some (.cells #[.string s, .slice oa N cap] 52 (0, 0)) ∧ Below w.heap.size w wz) (fun iv _ => N - (intOf iv).toNat)
          case atStart => exact ⟨0, rfl, Nat.zero_le _, fun j k x y hj => absurd hj (by omega), HA.out.2.1, HA.out.2.2.1⟩
          case round =>
            clear t0 t1 hlq d3
            obtain ⟨i, rfl, hiN, hno, hnz, hbz⟩ := hrel
            obtain ⟨wz, rfl⟩ : ∃ wz, wz = wr := ⟨_, rfl⟩
            obtain ⟨t0, t1⟩ := tx_text hnz
            by_cases hlt : i < N
            · obtain ⟨x, hx⟩ : ∃ x, D[i]? = some x := ⟨_, List.getElem?_eq_getElem (by rw [HX.out.2.1]; exact hlt)⟩
              have d3 : (i : Int) < (N : Int) := by omega
              have wi : IntKind.i64.wrap ((i : Int) + 1) = ((i + 1 : Nat) : Int) := by rw [show ((i + 1 : Nat) : Int) = (i : Int) + 1 by omega]; exact IntWalk.i64_in _ ⟨by omega, by omega⟩
              have HZ := hideS (And.intro hno (And.intro hnz (And.intro hbz hx)))
              clear hno hnz hbz hx
              go_wp2_with fail
              go_loopw [6] (fun kv wx => ∃ k : Nat, kv = .int .i64 (k : Nat) ∧ k ≤ i ∧ (∀ j y, j < k → D[j]? = some y → ¬ crS x y) ∧ wx.heap[w.heap.size]? = some (.cells #[.string s, .slice oa N cap] 52 (0, 0)) ∧ Below w.heap.size w wx) (fun kv _ => i - (intOf kv).toNat)
              case atStart => exact ⟨0, rfl, Nat.zero_le _, fun j y hj => absurd hj (by omega), HZ.out.2.1, HZ.out.2.2.1⟩
              case round =>
                clear t0 t1
                obtain ⟨k, rfl, hki, hnk, hnx, hbx⟩ := hrel
                obtain ⟨wx, rfl⟩ : ∃ wx, wx = wr := ⟨_, rfl⟩
                by_cases hkl : k < i
                · obtain ⟨y, hy⟩ : ∃ y, D[k]? = some y := ⟨_, List.getElem?_eq_getElem (by rw [HX.out.2.1]; omega)⟩
                  obtain ⟨a, rfl, hab, c0, c1, c2, c3⟩ := HX.out.2.2.keep hbx i x HZ.out.2.2.2
                  obtain ⟨a2, ha2, _, e0, e1, e2, e3⟩ := HX.out.2.2.keep hbx k y hy
                  obtain rfl : a = a2 := by simpa using ha2
                  obtain ⟨t0, t1⟩ := tx_text hnx
                  have hlx : w.heap.size < wx.heap.size := (Array.getElem?_eq_some_iff.1 hnx).1
                  have hai : (a.add (i * 4)).block < wx.heap.size := by rw [addrS_block]; exact hab
                  have hak : (a.add (k * 4)).block < wx.heap.size := by rw [addrS_block]; exact hab
                  have d4 : (k : Int) < (i : Int) := by omega
                  have d5 : (k : Int) < (N : Int) := by omega
                  have wk : IntKind.i64.wrap ((k : Int) + 1) = ((k + 1 : Nat) : Int) := by rw [show ((k + 1 : Nat) : Int) = (k : Int) + 1 by omega]; exact IntWalk.i64_in _ ⟨by omega, by omega⟩
                  have HF := hideS (fun W => rcross_any x y W)
                  unfold Sp.val at HF
                  obtain ⟨g, hg⟩ : ∃ g, decide (crS x y) = g := ⟨_, rfl⟩
                  rw [hg] at HF
                  have HQ := hideS (And.intro (And.intro hnk hg) (And.intro hnx (And.intro hbx hy)))
                  have z1 : ∀ q : GrownQ wx, q.V.cell? ⟨w.heap.size, 1, none⟩ = some (.slice (some a) N cap) := fun q => (q.h.cell (p := ⟨w.heap.size, 1, none⟩) hlx).trans t1
                  have u0 : ∀ q : GrownQ wx, q.V.cell? (a.add (i * 4)) = some (.int .i64 x.fr) := fun q => (q.h.cell hai).trans c0
                  have u1 : ∀ q : GrownQ wx, q.V.cell? ⟨(a.add (i * 4)).block, (a.add (i * 4)).off + 1, none⟩ = some (.int .i64 x.tt) := fun q => (q.h.cell (p := ⟨(a.add (i * 4)).block, _, none⟩) hai).trans c1
                  have u2 : ∀ q : GrownQ wx, q.V.cell? ⟨(a.add (i * 4)).block, (a.add (i * 4)).off + 2, none⟩ = some (.int .i64 x.kd) := fun q => (q.h.cell (p := ⟨(a.add (i * 4)).block, _, none⟩) hai).trans c2
                  have u3 : ∀ q : GrownQ wx, q.V.cell? ⟨(a.add (i * 4)).block, (a.add (i * 4)).off + 3, none⟩ = some (.int .i64 x.vl) := fun q => (q.h.cell (p := ⟨(a.add (i * 4)).block, _, none⟩) hai).trans c3
                  have v0 : ∀ q : GrownQ wx, q.V.cell? (a.add (k * 4)) = some (.int .i64 y.fr) := fun q => (q.h.cell hak).trans e0
                  have v1 : ∀ q : GrownQ wx, q.V.cell? ⟨(a.add (k * 4)).block, (a.add (k * 4)).off + 1, none⟩ = some (.int .i64 y.tt) := fun q => (q.h.cell (p := ⟨(a.add (k * 4)).block, _, none⟩) hak).trans e1
                  have v2 : ∀ q : GrownQ wx, q.V.cell? ⟨(a.add (k * 4)).block, (a.add (k * 4)).off + 2, none⟩ = some (.int .i64 y.kd) := fun q => (q.h.cell (p := ⟨(a.add (k * 4)).block, _, none⟩) hak).trans e2
                  have v3 : ∀ q : GrownQ wx, q.V.cell? ⟨(a.add (k * 4)).block, (a.add (k * 4)).off + 3, none⟩ = some (.int .i64 y.vl) := fun q => (q.h.cell (p := ⟨(a.add (k * 4)).block, _, none⟩) hak).trans e3
                  clear hnk hg hnx hbx hy c0 c1 c2 c3 e0 e1 e2 e3 t0 t1
                  go_upto_region 17 with fail
                  refine region_grown wx wx (by kernel_rfl) (by kernel_rfl) (Below.refl _ _) ?_
                  repeat (go_big_quiet_step (first
                    | (go_at_call 72; rename_i q; (with_reducible refine (HF.out _).mono ?_); rintro e V1 ⟨rfl, h1⟩; exact ⟨rfl, ⟨V1, q.h.trans (h1.mono q.h.size)⟩, rfl⟩)))
                  refine wpQuiet_nil ?_
                  rintro W3 ⟨⟨V3, hb3⟩, hv3⟩
                  have hv3 : W3 = V3 := hv3
                  subst hv3
                  have H5 := hideS (And.intro ((hb3.block w.heap.size hlx).trans HQ.out.2.1) (bupS HQ.out.2.2.1 hb3))
                  clear hv3 hb3 z1 u0 u1 u2 u3 v0 v1 v2 v3 HF
                  cases g with
                  | true =>
                    go_wp2_with fail
                    go_ret
                    refine ⟨?_, H5.out.2⟩
                    have h0 := cr_some (List.mem_of_getElem? HZ.out.2.2.2) (List.mem_of_getElem? HQ.out.2.2.2) (of_decide_eq_true HQ.out.1.2) HA.out.2.2.2
                    have e9 := HX.out.1
                    rw [if_neg (by rw [h0]; simp)] at e9
                    rw [← e9]
                    rfl
                  | false =>
                    go_wp2_with fail
                    go_roundw
                    case rel =>
                      refine ⟨k + 1, by first | rfl | simp, by omega, fun j y2 hj hy2 => ?_, H5.out.1, H5.out.2⟩
                      by_cases hjk : j < k
                      · exact HQ.out.1.1 j y2 hjk hy2
                      · obtain rfl : j = k := by omega
                        have h9 := HQ.out.2.2.2
                        rw [hy2] at h9
                        obtain rfl := Option.some.inj h9
                        exact of_decide_eq_false HQ.out.1.2
                    case measure => simp [intOf]; omega
                · have d4 : ¬ (k : Int) < (i : Int) := by omega
                  have HQ := hideS (And.intro hnk (And.intro hnx hbx))
                  clear hnk hnx hbx
                  go_wp2_with fail
                  go_roundw
                  case rel =>
                    refine ⟨i + 1, by first | rfl | simp, by omega, fun j k2 x2 y2 hj hk2 hx2 hy2 => ?_, HQ.out.2.1, HQ.out.2.2⟩
                    by_cases hji : j < i
                    · exact HZ.out.1 j k2 x2 y2 hji hk2 hx2 hy2
                    · obtain rfl : j = i := by omega
                      have h9 := HZ.out.2.2.2
                      rw [hx2] at h9
                      obtain rfl := Option.some.inj h9
                      exact HQ.out.1 k2 y2 (by omega) hy2
                  case measure => simp [intOf]; omega
            · have d3 : ¬ (i : Int) < (N : Int) := by omega
              obtain rfl : i = N := by omega
              have h0 : crB D = false := noCr_all (by rw [HX.out.2.1]; exact hno) HA.out.2.2.2
              have HZ := hideS (And.intro h0 hbz)
              clear hno hnz hbz h0
              go_wp2_with fail
              go_ret
              refine ⟨?_, HZ.out.2⟩
              have e9 := HX.out.1
              rw [if_pos ⟨HA.out.1, HZ.out.1⟩] at e9
              rw [← e9]
              rfl
end Go.Proofs.YthhhglfcacoejaaGreatDoor
