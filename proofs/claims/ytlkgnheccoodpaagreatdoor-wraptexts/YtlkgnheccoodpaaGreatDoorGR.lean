import Derived.Lib.MapLaws
import Derived.Laws.Cover4
import Derived.Laws.IdiomStrings
import Derived.WalkKit
import Derived.WalkSpells
import Derived.WalkLawsBesides
import Derived.Laws.NewBlocks
import Derived.Deep.RegionHeld
import Derived.Lib.RuneCountTail
import Derived.Maps.AppendAt
import Derived.Shelf.Pu.Clone
import Derived.Laws.StructEq
import Derived.Test.YtlkgnheccoodpaaGreatDoorGV
import Derived.Test.YtlkgnheccoodpaaGreatDoorW1
import Derived.Test.YtlkgnheccoodpaaGreatDoorW4
namespace Go.Proofs.YtlkgnheccoodpaaGreatDoor
open Go.Lib
def fixN (n : Int) : Nat := if Utf8.valid n = true then n.toNat else 65533

def encN (c : Nat) : List UInt8 :=
  if c < 128 then [UInt8.ofNat c]
  else if c < 2048 then [UInt8.ofNat (192 + c / 64), UInt8.ofNat (128 + c % 64)]
  else if c < 65536 then [UInt8.ofNat (224 + c / 4096), UInt8.ofNat (128 + c / 64 % 64), UInt8.ofNat (128 + c % 64)]
  else [UInt8.ofNat (240 + c / 262144), UInt8.ofNat (128 + c / 4096 % 64), UInt8.ofNat (128 + c / 64 % 64), UInt8.ofNat (128 + c % 64)]
theorem encode_data (n : Int) : (Utf8.encode n).data.toList = encN (fixN n) := by
  unfold Utf8.encode encN fixN
  cases hv : Utf8.valid n
  · rfl
  · simp only [if_true]
    repeat' split
    all_goals first | rfl | omega

def okN (c : Nat) : Prop := c < 55296 ∨ (57344 ≤ c ∧ c ≤ 1114111)
theorem dec_enc (c : Nat) (h : okN c) (r : List UInt8) : decodeL (encN c ++ r) = (c, (encN c).length) := by
  rw [decodeL_N]
  unfold okN at h
  unfold encN
  by_cases h1 : c < 128
  · rw [if_pos h1]
    simp only [List.cons_append, List.nil_append, List.getD_cons_zero, UInt8.toNat_ofNat']
    unfold decodeN
    rw [if_pos (by omega)]
    simp
    omega
  · rw [if_neg h1]
    by_cases h2 : c < 2048
    · rw [if_pos h2]
      simp only [List.cons_append, List.nil_append, List.getD_cons_zero, List.getD_cons_succ, UInt8.toNat_ofNat']
      unfold decodeN
      rw [if_neg (by omega), if_pos ⟨by omega, by simp, by omega⟩, if_pos (by omega)]
      simp only [List.length_cons, List.length_nil, Prod.mk.injEq, and_true]
      omega
    · rw [if_neg h2]
      by_cases h3 : c < 65536
      · rw [if_pos h3]
        simp only [List.cons_append, List.nil_append, List.getD_cons_zero, List.getD_cons_succ, UInt8.toNat_ofNat']
        unfold decodeN
        rw [if_neg (by omega), if_neg (by omega), if_pos ⟨by omega, ⟨by simp, by omega⟩, by simp, by omega⟩, if_pos (by omega)]
        simp only [List.length_cons, List.length_nil, Prod.mk.injEq, and_true]
        omega
      · rw [if_neg h3]
        simp only [List.cons_append, List.nil_append, List.getD_cons_zero, List.getD_cons_succ, UInt8.toNat_ofNat']
        unfold decodeN
        rw [if_neg (by omega), if_neg (by omega), if_neg (by omega), if_pos ⟨by omega, ⟨by simp, by omega⟩, ⟨by simp, by omega⟩, by simp, by omega⟩, if_pos (by omega)]
        simp only [List.length_cons, List.length_nil, Prod.mk.injEq, and_true]
        omega
end Go.Proofs.YtlkgnheccoodpaaGreatDoor
namespace Go.Proofs.YtlkgnheccoodpaaGreatDoor
open Go.Lib

theorem encN_take (l : List UInt8) (hne : l ≠ []) (hv : ¬ ((decodeL l).1 = 65533 ∧ (decodeL l).2 = 1)) : encN (decodeL l).1 = l.take (decodeL l).2 ∧ okN (decodeL l).1 := by
  have hl : 0 < l.length := List.length_pos_iff.2 hne
  rw [decodeL_N] at hv ⊢
  have k0 := (l.getD 0 0).toNat_lt
  have k1 := (l.getD 1 0).toNat_lt
  have k2 := (l.getD 2 0).toNat_lt
  have k3 := (l.getD 3 0).toNat_lt
  have ob : ∀ (n : Nat) (x : UInt8), n = x.toNat → UInt8.ofNat n = x := fun n x h => by rw [h]; simp
  unfold encN okN
  rcases decodeN_shape l.length (l.getD 0 0).toNat (l.getD 1 0).toNat (l.getD 2 0).toNat (l.getD 3 0).toNat with ⟨c, e⟩ | ⟨c1, c2, c3, cv, e⟩ | ⟨c1, c2, c3, c4, cv, cs, e⟩ | ⟨c1, c2, c3, c4, c5, cv, cw, e⟩ | e
  · rw [e]
    refine ⟨?_, by dsimp only; omega⟩
    dsimp only
    rw [if_pos c, takeA l hl, ob _ _ rfl]
  · rw [e]
    refine ⟨?_, by dsimp only; omega⟩
    dsimp only
    rw [if_neg (by omega), if_pos (by omega), takeB l c2, ob _ (l.getD 0 0) (by omega), ob _ (l.getD 1 0) (by omega)]
  · rw [e]
    refine ⟨?_, by dsimp only; omega⟩
    dsimp only
    rw [if_neg (by omega), if_neg (by omega), if_pos (by omega), takeC l c2, ob _ (l.getD 0 0) (by omega), ob _ (l.getD 1 0) (by omega), ob _ (l.getD 2 0) (by omega)]
  · rw [e]
    refine ⟨?_, by dsimp only; omega⟩
    dsimp only
    rw [if_neg (by omega), if_neg (by omega), if_neg (by omega), takeD l c2, ob _ (l.getD 0 0) (by omega), ob _ (l.getD 1 0) (by omega), ob _ (l.getD 2 0) (by omega), ob _ (l.getD 3 0) (by omega)]
  · exact absurd (by rw [e]; exact ⟨rfl, rfl⟩) hv
theorem fix_of_ok (c : Nat) (h : okN c) : fixN (c : Int) = c := by
  unfold okN at h
  unfold fixN
  rw [if_pos (by simp [Utf8.valid]; omega)]
  simp
def badAt (s : ByteArray) (p : Nat) : Bool := decide ((Utf8.decode s p).1 = 65533 ∧ (Utf8.decode s p).2 = 1)

theorem isPre_iff (a b : ByteArray) : isPre a b = true ↔ a.data.toList <+: b.data.toList := by
  unfold isPre
  rw [Bool.and_eq_true, decide_eq_true_eq, beq_iff_eq, toList_data, toList_data, extract_data, List.drop_zero, Nat.sub_zero, size_eq a, size_eq b]
  constructor
  · rintro ⟨_, h⟩; rw [← h]; exact List.take_prefix _ _
  · rintro h; exact ⟨h.length_le, (List.prefix_iff_eq_take.1 h).symm⟩

theorem sgn_good (s : ByteArray) (p : Nat) (hp : p < s.size) (h : badAt s p = false) :
    (sgn s p).loc = p ∧ (sgn s p).len = (Utf8.decode s p).2 ∧ (sgn s p).rune = (Utf8.decode s p).1 ∧ (sgn s p).bad = false ∧ (Utf8.encode ((Utf8.decode s p).1 : Int)).data.toList = (s.data.toList.drop p).take (Utf8.decode s p).2 ∧ p + (Utf8.decode s p).2 ≤ s.size := by
  have hne : s.data.toList.drop p ≠ [] := by
    have := size_eq s
    intro e
    have := congrArg List.length e
    rw [List.length_drop, List.length_nil] at this
    omega
  have hb : ¬ ((decodeL (s.data.toList.drop p)).1 = 65533 ∧ (decodeL (s.data.toList.drop p)).2 = 1) := by rw [decodeL_drop]; exact of_decide_eq_false h
  obtain ⟨h1, h2⟩ := encN_take _ hne hb
  have h3 := decodeL_le _ hne
  rw [decodeL_drop] at h1 h2 h3
  have h4 : (Utf8.encode ((Utf8.decode s p).1 : Int)).data.toList = (s.data.toList.drop p).take (Utf8.decode s p).2 := by rw [encode_data, fix_of_ok _ h2, h1]
  have h5 : p + (Utf8.decode s p).2 ≤ s.size := by rw [List.length_drop, ← size_eq] at h3; omega
  have h6 : isPre (Utf8.encode ((Utf8.decode s p).1 : Int)) (s.extract p s.size) = true := by
    have hin : List.take (s.size - p) (List.drop p s.data.toList) = List.drop p s.data.toList := List.take_of_length_le (by rw [List.length_drop, ← size_eq]; omega)
    rw [isPre_iff, h4, extract_data, hin]
    exact List.take_prefix _ _
  have h7 : (Utf8.encode ((Utf8.decode s p).1 : Int)).size = (Utf8.decode s p).2 := by
    rw [size_eq, h4, List.length_take, List.length_drop, ← size_eq]
    omega
  unfold sgn sgnR
  rw [if_pos h6]
  refine ⟨?_, ?_, ?_, ?_, h4, h5⟩
  · dsimp only
  · dsimp only
    exact h7
  · dsimp only
  · dsimp only

theorem sgn_bad (s : ByteArray) (p : Nat) (h : badAt s p = true) :
    (sgn s p).loc = p ∧ (sgn s p).len = 1 ∧ (sgn s p).rune = 65533 ∧ (sgn s p).bad = true ∧ 128 ≤ (s.get! p).toNat ∧ Utf8.decode s p = (65533, 1) := by
  obtain ⟨h1, h2⟩ := of_decide_eq_true h
  have hd : Utf8.decode s p = (65533, 1) := Prod.ext h1 h2
  have h128 : 128 ≤ (s.get! p).toNat := by
    have := decode_at s p
    rw [hd] at this
    unfold decodeN at this
    by_cases hb : (s.get! p).toNat < 128
    · rw [if_pos hb] at this
      have := congrArg Prod.fst this
      simp at this
      omega
    · omega
  have h6 : isPre (Utf8.encode ((Utf8.decode s p).1 : Int)) (s.extract p s.size) = false := by
    cases hq : isPre (Utf8.encode ((Utf8.decode s p).1 : Int)) (s.extract p s.size)
    · rfl
    · exfalso
      rw [isPre_iff, extract_data, List.take_of_length_le (by rw [List.length_drop, ← size_eq]; omega), hd] at hq
      obtain ⟨r, hr⟩ := hq
      have hh := dec_enc 65533 (by unfold okN; omega) r
      rw [show (Utf8.encode ((65533 : Nat) : Int)).data.toList = encN 65533 from rfl] at hr
      rw [hr, decodeL_drop, hd] at hh
      simp [encN] at hh
  unfold sgn sgnR
  rw [if_neg (by rw [h6]; simp)]
  exact ⟨rfl, rfl, rfl, rfl, h128, hd⟩
end Go.Proofs.YtlkgnheccoodpaaGreatDoor
namespace Go.Proofs.YtlkgnheccoodpaaGreatDoor
open Go.RowKit
def longN (c : Int) : Int := if c < 128 then 1 else if 194 ≤ c ∧ c ≤ 223 then 2 else if 224 ≤ c ∧ c ≤ 239 then 3 else if 240 ≤ c ∧ c ≤ 244 then 4 else 0
set_option maxHeartbeats 400000 in
theorem long_any (c : Int) (w : World) : Calls Tryz.prog 119 #[.int .u8 c] w fun e w' => e = .returned (.int .i64 (longN c)) ∧ w' = w := by
  unfold longN
  by_cases h1 : c < 128
  · rw [if_pos h1]
    go_enter Tryz.func119, Tryz.ntmps119
    go_wp2
    go_ret
    exact ⟨rfl, rfl⟩
  · rw [if_neg h1]
    by_cases h2 : 194 ≤ c ∧ c ≤ 223
    · rw [if_pos h2]
      obtain ⟨h2, h3⟩ := h2
      go_enter Tryz.func119, Tryz.ntmps119
      go_wp2
      go_ret
      exact ⟨rfl, rfl⟩
    · rw [if_neg h2]
      by_cases h4 : 224 ≤ c ∧ c ≤ 239
      · rw [if_pos h4]
        obtain ⟨h4, h5⟩ := h4
        clear h2
        go_enter Tryz.func119, Tryz.ntmps119
        go_wp2
        go_ret
        exact ⟨rfl, rfl⟩
      · rw [if_neg h4]
        by_cases h6 : 240 ≤ c ∧ c ≤ 244
        · rw [if_pos h6]
          obtain ⟨h6, h7⟩ := h6
          clear h2 h4
          go_enter Tryz.func119, Tryz.ntmps119
          go_wp2
          go_ret
          exact ⟨rfl, rfl⟩
        · rw [if_neg h6]
          have hr : c < 194 ∨ 244 < c := by omega
          clear h2 h4 h6
          rcases hr with hr | hr
          all_goals
            go_enter Tryz.func119, Tryz.ntmps119
            go_wp2
            go_ret
            exact ⟨rfl, rfl⟩
def secLo (c : Int) : Int := if c = 224 then 160 else if c = 240 then 144 else 128
def secHi (c : Int) : Int := if c = 237 then 159 else if c = 244 then 143 else 191
def secondB (c d : Int) : Bool := decide (secLo c ≤ d) && decide (d ≤ secHi c)
set_option maxHeartbeats 1000000 in
theorem second_any (c d : Int) (w : World) : Calls Tryz.prog 120 #[.int .u8 c, .int .u8 d] w fun e w' => e = .returned (.bool (secondB c d)) ∧ w' = w := by
  by_cases e224 : c = 224
  · subst e224
    by_cases h1 : d < 160
    · rw [show secondB 224 d = false from by unfold secondB; rw [show secLo 224 = 160 from rfl, show secHi 224 = 191 from rfl]; simp; omega]
      go_enter Tryz.func120, Tryz.ntmps120
      go_wp2
      go_ret
      exact ⟨rfl, rfl⟩
    · by_cases h2 : d ≤ 191
      · rw [show secondB 224 d = true from by unfold secondB; rw [show secLo 224 = 160 from rfl, show secHi 224 = 191 from rfl]; simp; omega]
        go_enter Tryz.func120, Tryz.ntmps120
        go_wp2
        go_ret
        exact ⟨rfl, rfl⟩
      · rw [show secondB 224 d = false from by unfold secondB; rw [show secLo 224 = 160 from rfl, show secHi 224 = 191 from rfl]; simp; omega]
        go_enter Tryz.func120, Tryz.ntmps120
        go_wp2
        go_ret
        exact ⟨rfl, rfl⟩
  · have t224 : (c == 224) = false := beq_eq_false_iff_ne.2 e224
    by_cases e237 : c = 237
    · subst e237
      by_cases h1 : d < 128
      · rw [show secondB 237 d = false from by unfold secondB; rw [show secLo 237 = 128 from rfl, show secHi 237 = 159 from rfl]; simp; omega]
        go_enter Tryz.func120, Tryz.ntmps120
        go_wp2
        go_ret
        exact ⟨rfl, rfl⟩
      · by_cases h2 : d ≤ 159
        · rw [show secondB 237 d = true from by unfold secondB; rw [show secLo 237 = 128 from rfl, show secHi 237 = 159 from rfl]; simp; omega]
          go_enter Tryz.func120, Tryz.ntmps120
          go_wp2
          go_ret
          exact ⟨rfl, rfl⟩
        · rw [show secondB 237 d = false from by unfold secondB; rw [show secLo 237 = 128 from rfl, show secHi 237 = 159 from rfl]; simp; omega]
          go_enter Tryz.func120, Tryz.ntmps120
          go_wp2
          go_ret
          exact ⟨rfl, rfl⟩
    · have t237 : (c == 237) = false := beq_eq_false_iff_ne.2 e237
      by_cases e240 : c = 240
      · subst e240
        by_cases h1 : d < 144
        · rw [show secondB 240 d = false from by unfold secondB; rw [show secLo 240 = 144 from rfl, show secHi 240 = 191 from rfl]; simp; omega]
          go_enter Tryz.func120, Tryz.ntmps120
          go_wp2
          go_ret
          exact ⟨rfl, rfl⟩
        · by_cases h2 : d ≤ 191
          · rw [show secondB 240 d = true from by unfold secondB; rw [show secLo 240 = 144 from rfl, show secHi 240 = 191 from rfl]; simp; omega]
            go_enter Tryz.func120, Tryz.ntmps120
            go_wp2
            go_ret
            exact ⟨rfl, rfl⟩
          · rw [show secondB 240 d = false from by unfold secondB; rw [show secLo 240 = 144 from rfl, show secHi 240 = 191 from rfl]; simp; omega]
            go_enter Tryz.func120, Tryz.ntmps120
            go_wp2
            go_ret
            exact ⟨rfl, rfl⟩
      · have t240 : (c == 240) = false := beq_eq_false_iff_ne.2 e240
        by_cases e244 : c = 244
        · subst e244
          by_cases h1 : d < 128
          · rw [show secondB 244 d = false from by unfold secondB; rw [show secLo 244 = 128 from rfl, show secHi 244 = 143 from rfl]; simp; omega]
            go_enter Tryz.func120, Tryz.ntmps120
            go_wp2
            go_ret
            exact ⟨rfl, rfl⟩
          · by_cases h2 : d ≤ 143
            · rw [show secondB 244 d = true from by unfold secondB; rw [show secLo 244 = 128 from rfl, show secHi 244 = 143 from rfl]; simp; omega]
              go_enter Tryz.func120, Tryz.ntmps120
              go_wp2
              go_ret
              exact ⟨rfl, rfl⟩
            · rw [show secondB 244 d = false from by unfold secondB; rw [show secLo 244 = 128 from rfl, show secHi 244 = 143 from rfl]; simp; omega]
              go_enter Tryz.func120, Tryz.ntmps120
              go_wp2
              go_ret
              exact ⟨rfl, rfl⟩
        · have t244 : (c == 244) = false := beq_eq_false_iff_ne.2 e244
          have l1 : secLo c = 128 := by unfold secLo; rw [if_neg e224, if_neg e240]
          have l2 : secHi c = 191 := by unfold secHi; rw [if_neg e237, if_neg e244]
          have L1 : Hid (secLo c = 128) := l1
          have L2 : Hid (secHi c = 191) := l2
          clear l1 l2 e224 e237 e240 e244
          by_cases h1 : d < 128
          · rw [show secondB c d = false from by unfold secondB; rw [L1.out, L2.out]; simp; omega]
            go_enter Tryz.func120, Tryz.ntmps120
            go_wp2
            go_ret
            exact ⟨rfl, rfl⟩
          · by_cases h2 : d ≤ 191
            · rw [show secondB c d = true from by unfold secondB; rw [L1.out, L2.out]; simp; omega]
              go_enter Tryz.func120, Tryz.ntmps120
              go_wp2
              go_ret
              exact ⟨rfl, rfl⟩
            · rw [show secondB c d = false from by unfold secondB; rw [L1.out, L2.out]; simp; omega]
              go_enter Tryz.func120, Tryz.ntmps120
              go_wp2
              go_ret
              exact ⟨rfl, rfl⟩
def BytesAt (W : World) (B : Nat) (s : ByteArray) : Prop := ∀ k (h : k < s.size), W.cell? ⟨B, k, none⟩ = some (.int .u8 s[k].toNat)

set_option maxHeartbeats 400000 in
theorem rest_any (w : World) (B cap : Nat) (s : ByteArray) (k : Nat) (hk : k < s.size) (_hs : s.size ≤ 140737488355328) (hb : BytesAt w B s) :
    Calls Tryz.prog 121 #[.slice (some ⟨B, 0, none⟩) s.size cap, .int .i64 k] w fun e w' => e = .returned (.int .i64 (s[k].toNat - 128)) ∧ w' = w := by
  have hc := hb k hk
  clear hb
  have hlt := s[k].toNat_lt
  go_enter Tryz.func121, Tryz.ntmps121
  go_wp2
  go_ret
  exact ⟨rfl, rfl⟩

def moreB (s : ByteArray) (k : Nat) : Bool := decide (k < s.size) && (decide (128 ≤ (s.get! k).toNat) && decide ((s.get! k).toNat ≤ 191))
set_option maxHeartbeats 400000 in
theorem more_any (w : World) (B cap : Nat) (s : ByteArray) (k : Nat) (_hs : s.size ≤ 140737488355328) (hb : BytesAt w B s) :
    Calls Tryz.prog 122 #[.slice (some ⟨B, 0, none⟩) s.size cap, .int .i64 k] w fun e w' => e = .returned (.bool (moreB s k)) ∧ w' = w := by
  by_cases hk : k < s.size
  · have hc := hb k hk
    clear hb
    have hg : s.get! k = s[k] := get_at s k hk
    by_cases h1 : 128 ≤ s[k].toNat
    · by_cases h2 : s[k].toNat ≤ 191
      · rw [show moreB s k = true from by unfold moreB; rw [hg]; simp [hk, h1, h2]]
        clear hg
        go_enter Tryz.func122, Tryz.ntmps122
        go_wp2
        go_ret
        exact ⟨by simp; omega, rfl⟩
      · rw [show moreB s k = false from by unfold moreB; rw [hg]; simp [hk, h2]]
        clear hg
        go_enter Tryz.func122, Tryz.ntmps122
        go_wp2
        go_ret
        exact ⟨by simp; omega, rfl⟩
    · rw [show moreB s k = false from by unfold moreB; rw [hg]; simp [hk, h1]]
      clear hg
      go_enter Tryz.func122, Tryz.ntmps122
      go_wp2
      go_ret
      exact ⟨rfl, rfl⟩
  · clear hb
    rw [show moreB s k = false from by unfold moreB; simp [hk]]
    go_enter Tryz.func122, Tryz.ntmps122
    go_wp2
    go_ret
    exact ⟨rfl, rfl⟩
end Go.Proofs.YtlkgnheccoodpaaGreatDoor
namespace Go.Proofs.YtlkgnheccoodpaaGreatDoor
open Go.RowKit
def rr (s : ByteArray) (p : Nat) : Nat → Int
  | 0 => 0
  | 1 => 0
  | 2 => ((s.get! (p + 1)).toNat : Int) - 128
  | k + 3 => 64 * rr s p (k + 2) + (((s.get! (p + (k + 2))).toNat : Int) - 128)

structure OneR where
  len : Nat
  rune : Int
  bad : Bool
def OneR.val (x : OneR) (p : Nat) : Value := .agg #[.int .i64 p, .int .i64 x.len, .int .i64 x.rune, .bool x.bad]
def badR : OneR := ⟨1, 65533, true⟩
def leadN (n : Nat) (c : Int) : Int := if n = 2 then 64 * (c - 192) else if n = 3 then 4096 * (c - 224) else 262144 * (c - 240)
def goOn (s : ByteArray) (p n : Nat) : Bool := decide (n ≤ 2 ∨ moreB s (p + 2) = true) && decide (n ≤ 3 ∨ moreB s (p + 3) = true)
def oneR (s : ByteArray) (p : Nat) : OneR :=
  let c : Int := (s.get! p).toNat
  if longN c = 0 then badR else if longN c = 1 then ⟨1, c, false⟩
  else if ¬ (p + 1 < s.size ∧ secondB c (s.get! (p + 1)).toNat = true) then badR
  else if goOn s p (longN c).toNat = true then ⟨(longN c).toNat, rr s p (longN c).toNat + leadN (longN c).toNat c, false⟩ else badR

theorem hideO {p : Prop} (h : p) : Hid p := h
theorem longN_cases (c : Int) : longN c = 0 ∨ longN c = 1 ∨ longN c = 2 ∨ longN c = 3 ∨ longN c = 4 := by
  unfold longN
  by_cases h1 : c < 128
  · rw [if_pos h1]; simp
  rw [if_neg h1]
  by_cases h2 : 194 ≤ c ∧ c ≤ 223
  · rw [if_pos h2]; simp
  rw [if_neg h2]
  by_cases h3 : 224 ≤ c ∧ c ≤ 239
  · rw [if_pos h3]; simp
  rw [if_neg h3]
  by_cases h4 : 240 ≤ c ∧ c ≤ 244
  · rw [if_pos h4]; simp
  rw [if_neg h4]; simp
theorem rr_le (s : ByteArray) (p k : Nat) (hk : k ≤ 4) : -128 * 5000 ≤ rr s p k ∧ rr s p k ≤ 128 * 5000 := by
  have h1 := (s.get! (p + 1)).toNat_lt
  have h2 := (s.get! (p + 2)).toNat_lt
  have h3 := (s.get! (p + 3)).toNat_lt
  rcases (show k = 0 ∨ k = 1 ∨ k = 2 ∨ k = 3 ∨ k = 4 by omega) with rfl | rfl | rfl | rfl | rfl <;> simp only [rr, Nat.zero_add, Nat.reduceAdd] <;> omega

theorem more_q (w : World) (B cap : Nat) (s : ByteArray) (k : Nat) (q : Int) (hq : q = k) (hs : s.size ≤ 140737488355328) (hb : BytesAt w B s) :
    Calls Tryz.prog 122 #[.slice (some ⟨B, 0, none⟩) s.size cap, .int .i64 q] w fun e w' => e = .returned (.bool (moreB s k)) ∧ w' = w := by subst hq; exact more_any w B cap s k hs hb
theorem rest_q (w : World) (B cap : Nat) (s : ByteArray) (k : Nat) (q : Int) (hq : q = k) (hk : k < s.size) (hs : s.size ≤ 140737488355328) (hb : BytesAt w B s) :
    Calls Tryz.prog 121 #[.slice (some ⟨B, 0, none⟩) s.size cap, .int .i64 q] w fun e w' => e = .returned (.int .i64 ((s.get! k).toNat - 128)) ∧ w' = w := by
  subst hq
  have e : s.get! k = s[k] := get_at s k hk
  rw [e]
  exact rest_any w B cap s k hk hs hb
theorem BytesAt.alloc {w : World} {B : Nat} {s : ByteArray} (h : BytesAt w B s) (hB : B < w.heap.size) (o : Obj) : BytesAt (w.alloc o) B s := fun k hk => by rw [World.cell?_alloc_past o B k hB]; exact h k hk
theorem BytesAt.drew {w : World} {B : Nat} {s : ByteArray} (h : BytesAt w B s) : BytesAt w.drew B s := fun k hk => h k hk
theorem more_lt {s : ByteArray} {k : Nat} (h : moreB s k = true) : k < s.size := by unfold moreB at h; rw [Bool.and_eq_true] at h; exact of_decide_eq_true h.1

set_option maxRecDepth 100000 in
set_option maxHeartbeats 2000000 in
theorem one_n (w : World) (B cap : Nat) (s : ByteArray) (p : Nat) (c : Int) (n : Nat) (hp : p < s.size) (hs : s.size ≤ 1048576) (hb : BytesAt w B s) (ec : (s[p].toNat : Int) = c) (h2 : 2 ≤ n) (h4 : n ≤ 4) (hn : longN c = n) :
    Calls Tryz.prog 101 #[.slice (some ⟨B, 0, none⟩) s.size cap, .int .i64 p] w fun e w' => e = .returned ((oneR s p).val p) ∧ Below w.heap.size w w' := by
  have hBz : B < w.heap.size := World.block_lt_of_cell? w _ (hb p hp)
  have hc := hb p hp
  have hg : s.get! p = s[p] := get_at s p hp
  have hlt := s[p].toNat_lt
  have hc0 : 0 ≤ c := by omega
  have hc1 : c < 256 := by omega
  rw [ec] at hc
  have t0 : ((n : Int) == 0) = false := beq_eq_false_iff_ne.2 (by omega)
  have t1 : ((n : Int) == 1) = false := beq_eq_false_iff_ne.2 (by omega)
  have ONE : oneR s p = if ¬ (p + 1 < s.size ∧ secondB c (s.get! (p + 1)).toNat = true) then badR else if goOn s p n = true then ⟨n, rr s p n + leadN n c, false⟩ else badR := by
    unfold oneR
    rw [hg, ec]
    dsimp only
    rw [hn, if_neg (by omega), if_neg (by omega), Int.toNat_natCast]
  by_cases hp1 : p + 1 < s.size
  · have hd := hb (p + 1) hp1
    have hg1 : s.get! (p + 1) = s[p + 1] := get_at s (p + 1) hp1
    have tg : decide ((s.size : Int) ≤ (p : Int) + 1) = false := decide_eq_false (by omega)
    have tw : IntKind.i64.wrap ((p : Int) + 1) = (p : Int) + 1 := by rw [IntKind.wrap_i64]; omega
    have tv : decide ((s.size : Int) ≤ IntKind.i64.wrap ((p : Int) + 1)) = false := by rw [tw]; exact tg
    have i0 : (0 : Int) ≤ (p : Int) := by omega
    have i1 : (p : Int) < (s.size : Int) := by omega
    have i2 : (p : Int) + 1 < (s.size : Int) := by omega
    obtain ⟨d, ed⟩ : ∃ d : Int, (s[p + 1].toNat : Int) = d := ⟨_, rfl⟩
    rw [ed] at hd
    rw [hg1, ed] at ONE
    cases hsec : secondB c d with
    | false =>
      have R : oneR s p = badR := by rw [ONE, if_pos (by rw [hsec]; simp)]
      rw [R]
      clear R ONE hg hg1 hb
      go_enter Tryz.func101, Tryz.ntmps101
      go_wp2_with (go_at_call 119; refine (long_any c _).mono ?_; rintro e w' ⟨rfl, rfl⟩; rw [hn])
      go_region_held (fun w' => w'.cell? ⟨B, p, none⟩ = some (.int .u8 c) ∧ w'.cell? ⟨B, p + 1, none⟩ = some (.int .u8 d)) (go_keep) (first | (go_at_call 120; refine (second_any c d _).mono ?_; rintro e w' ⟨rfl, rfl⟩; rw [hsec]))
      all_goals go_wp2
      all_goals exact bodyPost_ret (v := badR.val p) (by simp [results, Tryz.results101, go_sem, badR, OneR.val]) rfl ⟨rfl, (((Below.refl _ w).alloc (Nat.le_refl _) _).alloc (by simp) _).drew⟩
    | true =>
      have GO : Hid (oneR s p = if goOn s p n = true then ⟨n, rr s p n + leadN n c, false⟩ else badR) := by
        show oneR s p = _
        rw [ONE, if_neg (fun h => h ⟨hp1, hsec⟩)]
      have hr2 : rr s p 2 = d - 128 := by simp only [rr]; rw [hg1, ed]
      have HB : Hid (BytesAt w B s) := hb
      clear ONE hg hb
      go_enter Tryz.func101, Tryz.ntmps101
      go_wp2_with (go_at_call 119; refine (long_any c _).mono ?_; rintro e w' ⟨rfl, rfl⟩; rw [hn])
      go_region_held (fun w' => w'.cell? ⟨B, p, none⟩ = some (.int .u8 c) ∧ w'.cell? ⟨B, p + 1, none⟩ = some (.int .u8 d)) (go_keep) (first | (go_at_call 120; refine (second_any c d _).mono ?_; rintro e w' ⟨rfl, rfl⟩; rw [hsec]))
      all_goals go_wp2_with (go_at_call 121; refine (rest_q _ B cap s (p + 1) _ (by omega) hp1 (by omega) ((HB.out.alloc hBz _).alloc (by simp; omega) _).drew).mono ?_; rintro e w' ⟨rfl, rfl⟩; rw [hg1, ed])
      go_loopw [7, 8] (fun r i wr => wr = ((w.alloc (.cells #[.int .i64 0, .int .i64 0, .int .i64 0, .bool false] 133)).alloc (.cells #[.int .i64 p, .int .i64 1, .int .i64 65533, .bool true] 133)).drew ∧ ∃ k : Nat, i = .int .i64 k ∧ r = .int .i64 (rr s p k) ∧ 2 ≤ k ∧ k ≤ n ∧ Hid (∀ j, 2 ≤ j → j < k → moreB s (p + j) = true)) (fun _ i _ => n - (intOf i).toNat)
      case atStart => exact ⟨rfl, 2, rfl, by rw [hr2], by omega, h2, fun j h1 h2 => by omega⟩
      case round =>
        obtain ⟨rfl, k, rfl, rfl, hk2, hkn, HM⟩ := hrel
        have HA := hideO (((HB.out.alloc hBz (.cells #[.int .i64 0, .int .i64 0, .int .i64 0, .bool false] 133)).alloc (by simp; omega) (.cells #[.int .i64 p, .int .i64 1, .int .i64 65533, .bool true] 133)).drew)
        obtain ⟨hR1, hR2⟩ := rr_le s p k (by omega)
        by_cases hkn2 : k < n
        · cases hm : moreB s (p + k) with
          | true =>
            have hlt2 := more_lt hm
            have HM2 : Hid (∀ j, 2 ≤ j → j < k + 1 → moreB s (p + j) = true) := fun j h1 h2 => by
              by_cases e : j = k
              · rw [e]; exact hm
              · exact HM.out j h1 (by omega)
            have hR3 : rr s p (k + 1) = 64 * rr s p k + (((s.get! (p + k)).toNat : Int) - 128) := by
              obtain ⟨j, rfl⟩ : ∃ j, k = j + 2 := ⟨k - 2, by omega⟩
              rfl
            have hb3 := (s.get! (p + k)).toNat_lt
            obtain ⟨R, eR⟩ : ∃ R, rr s p k = R := ⟨_, rfl⟩
            obtain ⟨y, ey⟩ : ∃ y : Int, ((s.get! (p + k)).toNat : Int) = y := ⟨_, rfl⟩
            have hy0 : 0 ≤ y := by omega
            have hy1 : y < 256 := by omega
            rw [eR] at hR1 hR2 hR3 ⊢
            rw [ey] at hR3
            have HR3 := hideO hR3
            clear hR3 hr2 hb3
            go_wp2_with (first | (go_at_call 122; refine (more_q _ B cap s (p + k) _ (by omega) (by omega) HA.out).mono ?_; rintro e w' ⟨rfl, rfl⟩; rw [hm]) | (go_at_call 121; refine (rest_q _ B cap s (p + k) _ (by omega) hlt2 (by omega) HA.out).mono ?_; rintro e w' ⟨rfl, rfl⟩; rw [ey]))
            exact ⟨⟨by trivial, k + 1, by go_num, by rw [HR3.out], by omega, by omega, HM2⟩, by simp [intOf]; omega⟩
          | false =>
            have R : oneR s p = badR := by
              rw [GO.out, if_neg]
              unfold goOn
              intro h
              rw [Bool.and_eq_true, decide_eq_true_eq, decide_eq_true_eq] at h
              rcases (show k = 2 ∨ k = 3 by omega) with rfl | rfl
              · rcases h.1 with h | h
                · omega
                · rw [hm] at h; cases h
              · rcases h.2 with h | h
                · omega
                · rw [hm] at h; cases h
            have HR := hideO R
            clear R hr2
            go_wp2_with (go_at_call 122; refine (more_q _ B cap s (p + k) _ (by omega) (by omega) HA.out).mono ?_; rintro e w' ⟨rfl, rfl⟩; rw [hm])
            exact bodyPost_ret (v := badR.val p) (by simp [results, Tryz.results101, go_sem, badR, OneR.val]) rfl ⟨by rw [HR.out], (((Below.refl _ w).alloc (Nat.le_refl _) _).alloc (by simp) _).drew⟩
        · obtain rfl : k = n := by omega
          have R : oneR s p = ⟨k, rr s p k + leadN k c, false⟩ := by
            rw [GO.out, if_pos]
            unfold goOn
            rw [Bool.and_eq_true, decide_eq_true_eq, decide_eq_true_eq]
            refine ⟨?_, ?_⟩
            · by_cases h : k ≤ 2
              · exact .inl h
              · exact .inr (HM.out 2 (by omega) (by omega))
            · by_cases h : k ≤ 3
              · exact .inl h
              · exact .inr (HM.out 3 (by omega) (by omega))
          obtain ⟨Rv, eR⟩ : ∃ R, rr s p k = R := ⟨_, rfl⟩
          rw [eR] at hR1 hR2 R ⊢
          have HR := hideO R
          clear R hr2 eR HM GO
          rcases (show k = 2 ∨ k = 3 ∨ k = 4 by omega) with rfl | rfl | rfl
          · go_wp2
            exact bodyPost_ret (v := OneR.val ⟨2, Rv + 64 * (c - 192), false⟩ p) (by simp [results, Tryz.results101, go_sem, OneR.val]) rfl ⟨by rw [HR.out]; rfl, (((Below.refl _ w).alloc (Nat.le_refl _) _).alloc (by simp) _).drew⟩
          · go_wp2
            exact bodyPost_ret (v := OneR.val ⟨3, Rv + 4096 * (c - 224), false⟩ p) (by simp [results, Tryz.results101, go_sem, OneR.val]) rfl ⟨by rw [HR.out]; rfl, (((Below.refl _ w).alloc (Nat.le_refl _) _).alloc (by simp) _).drew⟩
          · go_wp2
            exact bodyPost_ret (v := OneR.val ⟨4, Rv + 262144 * (c - 240), false⟩ p) (by simp [results, Tryz.results101, go_sem, OneR.val]) rfl ⟨by rw [HR.out]; rfl, (((Below.refl _ w).alloc (Nat.le_refl _) _).alloc (by simp) _).drew⟩
  · have tg : decide ((s.size : Int) ≤ (p : Int) + 1) = true := decide_eq_true (by omega)
    have tw : IntKind.i64.wrap ((p : Int) + 1) = (p : Int) + 1 := by rw [IntKind.wrap_i64]; omega
    have tv : decide ((s.size : Int) ≤ IntKind.i64.wrap ((p : Int) + 1)) = true := by rw [tw]; exact tg
    have R : oneR s p = badR := by rw [ONE, if_pos (fun h => hp1 h.1)]
    rw [R]
    clear R ONE hg hb
    go_enter Tryz.func101, Tryz.ntmps101
    go_wp2_with (go_at_call 119; refine (long_any c _).mono ?_; rintro e w' ⟨rfl, rfl⟩; rw [hn])
    go_region
    all_goals go_wp2
    exact bodyPost_ret (v := badR.val p) (by simp [results, Tryz.results101, go_sem, badR, OneR.val]) rfl ⟨rfl, (((Below.refl _ w).alloc (Nat.le_refl _) _).alloc (by simp) _).drew⟩

set_option maxHeartbeats 1000000 in
theorem one_any (w : World) (B cap : Nat) (s : ByteArray) (p : Nat) (hp : p < s.size) (hs : s.size ≤ 1048576) (hb : BytesAt w B s) :
    Calls Tryz.prog 101 #[.slice (some ⟨B, 0, none⟩) s.size cap, .int .i64 p] w fun e w' => e = .returned ((oneR s p).val p) ∧ Below w.heap.size w w' := by
  have hBz : B < w.heap.size := World.block_lt_of_cell? w _ (hb p hp)
  have hc := hb p hp
  have hg : s.get! p = s[p] := get_at s p hp
  have hlt := s[p].toNat_lt
  obtain ⟨c, ec⟩ : ∃ c : Int, (s[p].toNat : Int) = c := ⟨_, rfl⟩
  rcases longN_cases c with hn | hn | hn | hn | hn
  · have R : oneR s p = badR := by unfold oneR; rw [hg, ec]; simp only [hn]; simp
    rw [R]
    clear R hg hb
    rw [ec] at hc
    go_enter Tryz.func101, Tryz.ntmps101
    go_wp2_with (go_at_call 119; refine (long_any c _).mono ?_; rintro e w' ⟨rfl, rfl⟩; rw [hn])
    exact bodyPost_ret (v := badR.val p) (by simp [results, Tryz.results101, go_sem, badR, OneR.val]) rfl ⟨rfl, ((Below.refl _ w).alloc (Nat.le_refl _) _).alloc (by simp) _⟩
  · have R : oneR s p = ⟨1, c, false⟩ := by unfold oneR; rw [hg, ec]; simp only [hn]; simp
    rw [R]
    clear R hg hb
    have hc0 : 0 ≤ c := by omega
    have hc1 : c < 256 := by omega
    rw [ec] at hc
    go_enter Tryz.func101, Tryz.ntmps101
    go_wp2_with (go_at_call 119; refine (long_any c _).mono ?_; rintro e w' ⟨rfl, rfl⟩; rw [hn])
    exact bodyPost_ret (v := OneR.val ⟨1, c, false⟩ p) (by simp [results, Tryz.results101, go_sem, OneR.val]) rfl ⟨rfl, ((Below.refl _ w).alloc (Nat.le_refl _) _).alloc (by simp) _⟩
  · exact one_n w B cap s p c 2 hp hs hb ec (by omega) (by omega) hn
  · exact one_n w B cap s p c 3 hp hs hb ec (by omega) (by omega) hn
  · exact one_n w B cap s p c 4 hp hs hb ec (by omega) (by omega) hn
end Go.Proofs.YtlkgnheccoodpaaGreatDoor
namespace Go.Proofs.YtlkgnheccoodpaaGreatDoor
open Go.Lib
theorem badAt_of {s : ByteArray} {p a b : Nat} (h : Utf8.decode s p = (a, b)) (hb : b ≠ 1) : badAt s p = false := by
  unfold badAt; rw [h]; simp [hb]
theorem badAt_ff {s : ByteArray} {p : Nat} (h : Utf8.decode s p = (65533, 1)) : badAt s p = true := by
  unfold badAt; rw [h]; rfl
theorem one_dec (s : ByteArray) (p : Nat) (hp : p < s.size) : oneR s p = if badAt s p = true then badR else ⟨(Utf8.decode s p).2, ((Utf8.decode s p).1 : Nat), false⟩ := by
  have hd := decode_at s p
  have k0 := (s.get! p).toNat_lt
  have k1 := (s.get! (p + 1)).toNat_lt
  have k2 := (s.get! (p + 2)).toNat_lt
  have k3 := (s.get! (p + 3)).toNat_lt
  have g2 : goOn s p 2 = true := by simp [goOn]
  have g3 : goOn s p 3 = decide (p + 2 < s.size ∧ 128 ≤ (s.get! (p + 2)).toNat ∧ (s.get! (p + 2)).toNat ≤ 191) := by simp [goOn, moreB]
  have g4 : goOn s p 4 = decide ((p + 2 < s.size ∧ 128 ≤ (s.get! (p + 2)).toNat ∧ (s.get! (p + 2)).toNat ≤ 191) ∧ (p + 3 < s.size ∧ 128 ≤ (s.get! (p + 3)).toNat ∧ (s.get! (p + 3)).toNat ≤ 191)) := by simp [goOn, moreB]
  have r2 : rr s p 2 = ((s.get! (p + 1)).toNat : Int) - 128 := rfl
  have r3 : rr s p 3 = 64 * (((s.get! (p + 1)).toNat : Int) - 128) + (((s.get! (p + 2)).toNat : Int) - 128) := rfl
  have r4 : rr s p 4 = 64 * (64 * (((s.get! (p + 1)).toNat : Int) - 128) + (((s.get! (p + 2)).toNat : Int) - 128)) + (((s.get! (p + 3)).toNat : Int) - 128) := rfl
  unfold oneR
  dsimp only
  generalize (s.get! p).toNat = b0 at *
  generalize (s.get! (p + 1)).toNat = b1 at *
  generalize (s.get! (p + 2)).toNat = b2 at *
  generalize (s.get! (p + 3)).toNat = b3 at *
  by_cases h1 : b0 < 128
  · have e : Utf8.decode s p = (b0, 1) := by rw [hd, decodeN, if_pos h1]
    have l : longN b0 = 1 := by unfold longN; rw [if_pos (by omega)]
    have nb : badAt s p = false := by unfold badAt; rw [e]; simp; omega
    rw [l, nb, e]; rfl
  by_cases h2 : b0 < 194 ∨ 244 < b0
  · have e : Utf8.decode s p = (65533, 1) := by
      rw [hd, decodeN, if_neg h1]
      repeat' split
      all_goals first | rfl | (exfalso; omega)
    have l : longN b0 = 0 := by unfold longN; rw [if_neg (by omega), if_neg (by omega), if_neg (by omega), if_neg (by omega)]
    rw [l, badAt_ff e]; rfl
  by_cases h3 : b0 < 224
  · have l : longN b0 = 2 := by unfold longN; rw [if_neg (by omega), if_pos (by omega)]
    rw [l, if_neg (by omega), if_neg (by omega), show (2 : Int).toNat = 2 from rfl, g2, if_pos rfl, r2, show leadN 2 (b0 : Int) = 64 * ((b0 : Int) - 192) from rfl]
    have sb : secondB b0 b1 = decide (b1 / 64 = 2) := by
      unfold secondB secLo secHi
      rw [if_neg (by omega), if_neg (by omega), if_neg (by omega), if_neg (by omega), ← Bool.decide_and]
      exact decide_eq_decide.2 (by omega)
    rw [sb]
    by_cases c : p + 1 < s.size ∧ decide (b1 / 64 = 2) = true
    · have c' := of_decide_eq_true c.2
      have e : Utf8.decode s p = (b0 % 32 * 64 + b1 % 64, 2) := by rw [hd, decodeN, if_neg h1, if_pos (by omega), if_pos (by omega)]
      rw [if_neg (fun h => h c), badAt_of e (by omega), e]
      simp only [Bool.false_eq_true, if_false, OneR.mk.injEq, true_and, and_true]
      omega
    · have e : Utf8.decode s p = (65533, 1) := by
        rw [hd, decodeN, if_neg h1, if_neg (fun h => c ⟨by omega, decide_eq_true (by omega)⟩), if_neg (by omega), if_neg (by omega)]
      rw [if_pos c, badAt_ff e]; rfl
  by_cases h4 : b0 < 240
  · have l : longN b0 = 3 := by unfold longN; rw [if_neg (by omega), if_neg (by omega), if_pos (by omega)]
    rw [l, if_neg (by omega), if_neg (by omega), show (3 : Int).toNat = 3 from rfl, g3, r3, show leadN 3 (b0 : Int) = 4096 * ((b0 : Int) - 224) from rfl]
    have sb : secondB b0 b1 = decide ((b1 / 64 = 2) ∧ (b0 = 224 → 160 ≤ b1) ∧ (b0 = 237 → b1 ≤ 159)) := by
      unfold secondB secLo secHi
      rw [← Bool.decide_and]
      refine decide_eq_decide.2 ?_
      repeat' split
      all_goals omega
    rw [sb]
    by_cases c : p + 1 < s.size ∧ decide ((b1 / 64 = 2) ∧ (b0 = 224 → 160 ≤ b1) ∧ (b0 = 237 → b1 ≤ 159)) = true
    · have c' := of_decide_eq_true c.2
      by_cases c2 : p + 2 < s.size ∧ 128 ≤ b2 ∧ b2 ≤ 191
      · have e : Utf8.decode s p = (b0 % 16 * 4096 + b1 % 64 * 64 + b2 % 64, 3) := by rw [hd, decodeN, if_neg h1, if_neg (by omega), if_pos (by omega), if_pos (by omega)]
        rw [if_neg (fun h => h c), badAt_of e (by omega), e, if_pos (decide_eq_true c2)]
        simp only [Bool.false_eq_true, if_false, OneR.mk.injEq, true_and, and_true]
        omega
      · have e : Utf8.decode s p = (65533, 1) := by
          rw [hd, decodeN, if_neg h1, if_neg (by omega), if_neg (fun h => c2 (by omega)), if_neg (by omega)]
        rw [if_neg (fun h => h c), if_neg (by simpa using c2), badAt_ff e]; rfl
    · have e : Utf8.decode s p = (65533, 1) := by
        rw [hd, decodeN, if_neg h1, if_neg (by omega)]
        split
        · rw [if_neg]
          intro h
          exact c ⟨by omega, decide_eq_true (by omega)⟩
        · rw [if_neg (by omega)]
      rw [if_pos c, badAt_ff e]; rfl
  · have l : longN b0 = 4 := by unfold longN; rw [if_neg (by omega), if_neg (by omega), if_neg (by omega), if_pos (by omega)]
    rw [l, if_neg (by omega), if_neg (by omega), show (4 : Int).toNat = 4 from rfl, g4, r4, show leadN 4 (b0 : Int) = 262144 * ((b0 : Int) - 240) from rfl]
    have sb : secondB b0 b1 = decide ((b1 / 64 = 2) ∧ (b0 = 240 → 144 ≤ b1) ∧ (b0 = 244 → b1 ≤ 143)) := by
      unfold secondB secLo secHi
      rw [← Bool.decide_and]
      refine decide_eq_decide.2 ?_
      repeat' split
      all_goals omega
    rw [sb]
    by_cases c : p + 1 < s.size ∧ decide ((b1 / 64 = 2) ∧ (b0 = 240 → 144 ≤ b1) ∧ (b0 = 244 → b1 ≤ 143)) = true
    · have c' := of_decide_eq_true c.2
      by_cases c2 : (p + 2 < s.size ∧ 128 ≤ b2 ∧ b2 ≤ 191) ∧ (p + 3 < s.size ∧ 128 ≤ b3 ∧ b3 ≤ 191)
      · have e : Utf8.decode s p = (b0 % 8 * 262144 + b1 % 64 * 4096 + b2 % 64 * 64 + b3 % 64, 4) := by rw [hd, decodeN, if_neg h1, if_neg (by omega), if_neg (by omega), if_pos (by omega), if_pos (by omega)]
        rw [if_neg (fun h => h c), badAt_of e (by omega), e, if_pos (decide_eq_true c2)]
        simp only [Bool.false_eq_true, if_false, OneR.mk.injEq, true_and, and_true]
        omega
      · have e : Utf8.decode s p = (65533, 1) := by
          rw [hd, decodeN, if_neg h1, if_neg (by omega), if_neg (by omega), if_neg (fun h => c2 (by omega))]
        rw [if_neg (fun h => h c), if_neg (by simpa using c2), badAt_ff e]; rfl
    · have e : Utf8.decode s p = (65533, 1) := by
        rw [hd, decodeN, if_neg h1, if_neg (by omega), if_neg (by omega)]
        split
        · rw [if_neg]
          intro h
          exact c ⟨by omega, decide_eq_true (by omega)⟩
        · rfl
      rw [if_pos c, badAt_ff e]; rfl
theorem sgn_dec (s : ByteArray) (p : Nat) (hp : p < s.size) : (sgn s p).loc = p ∧ (sgn s p).len = (Utf8.decode s p).2 ∧ (sgn s p).rune = ((Utf8.decode s p).1 : Nat) ∧ (sgn s p).bad = badAt s p ∧ 1 ≤ (Utf8.decode s p).2 ∧ p + (Utf8.decode s p).2 ≤ s.size := by
  have hw := Lib.decode_width_pos s p hp
  cases h : badAt s p
  · obtain ⟨a, b, c, d, _, f⟩ := sgn_good s p hp h
    exact ⟨a, b, c, d, hw, f⟩
  · obtain ⟨a, b, c, d, _, f⟩ := sgn_bad s p h
    rw [f]
    exact ⟨a, b, c, d, by simp, by simp; omega⟩
theorem sg_ext {x y : Sg} (h1 : x.loc = y.loc) (h2 : x.len = y.len) (h3 : x.rune = y.rune) (h4 : x.bad = y.bad) : x = y := by
  cases x; cases y; simp_all
def Lies (s : ByteArray) : Nat → List Sg → Nat → Prop
  | p, [], e => p = e
  | p, x :: r, e => p < s.size ∧ x = sgn s p ∧ Lies s (p + x.len) r e
theorem sgns_lies (s : ByteArray) : ∀ f p, s.size ≤ p + f → p ≤ s.size → Lies s p (sgns s f p) s.size
  | 0, p, h, h2 => by simp only [sgns, Lies]; omega
  | f + 1, p, h, h2 => by
    unfold sgns
    by_cases hp : p < s.size
    · obtain ⟨a, b, _, _, c, d⟩ := sgn_dec s p hp
      rw [if_pos hp]
      refine ⟨hp, rfl, ?_⟩
      rw [b]
      exact sgns_lies s f _ (by omega) d
    · rw [if_neg hp]
      simp only [Lies]
      omega
theorem signs_lies (s : ByteArray) : Lies s 0 (signs s) s.size := sgns_lies s s.size 0 (by omega) (by omega)
theorem lies_le {s : ByteArray} : ∀ {l : List Sg} {p e : Nat}, Lies s p l e → p + l.length ≤ e
  | [], p, e, h => by simp only [Lies] at h; simp; omega
  | x :: r, p, e, h => by
    obtain ⟨h1, h2, h3⟩ := h
    have := lies_le h3
    have hd := sgn_dec s p h1
    rw [h2] at this
    simp only [List.length_cons]
    omega
theorem lies_fit {s : ByteArray} : ∀ {l : List Sg} {p e : Nat}, Lies s p l e → p ≤ s.size → e ≤ s.size
  | [], p, e, h, hp => by simp only [Lies] at h; omega
  | x :: r, p, e, h, hp => by
    obtain ⟨h1, h2, h3⟩ := h
    have hd := sgn_dec s p h1
    exact lies_fit h3 (by rw [h2]; omega)
theorem lies_append {s : ByteArray} : ∀ {l m : List Sg} {p q e : Nat}, Lies s p l q → Lies s q m e → Lies s p (l ++ m) e
  | [], m, p, q, e, h, k => by simp only [Lies] at h; subst h; exact k
  | x :: r, m, p, q, e, h, k => ⟨h.1, h.2.1, lies_append h.2.2 k⟩
theorem lies_split {s : ByteArray} : ∀ {l m : List Sg} {p e : Nat}, Lies s p (l ++ m) e → ∃ q, Lies s p l q ∧ Lies s q m e
  | [], m, p, e, h => ⟨p, rfl, h⟩
  | x :: r, m, p, e, h => by
    obtain ⟨h1, h2, h3⟩ := h
    obtain ⟨q, a, b⟩ := lies_split h3
    exact ⟨q, ⟨h1, h2, a⟩, b⟩
theorem lies_uniq {s : ByteArray} : ∀ {l m : List Sg} {p e : Nat}, Lies s p l e → Lies s p m e → l = m
  | [], [], _, _, _, _ => rfl
  | [], y :: m, p, e, h, k => by
    have := lies_le k
    simp only [Lies] at h
    simp only [List.length_cons] at this
    omega
  | x :: l, [], p, e, h, k => by
    have := lies_le h
    simp only [Lies] at k
    simp only [List.length_cons] at this
    omega
  | x :: l, y :: m, p, e, h, k => by
    obtain ⟨h1, h2, h3⟩ := h
    obtain ⟨k1, k2, k3⟩ := k
    rw [h2] at h3 ⊢
    rw [k2] at k3 ⊢
    rw [lies_uniq h3 k3]
def spotsF (p : Spot) : List Sg → List Spot
  | [] => [p]
  | x :: r => p :: spotsF (p.step x) r
def stepsF (p : Spot) (l : List Sg) : Spot := l.foldl Spot.step p
theorem stepsF_snoc (p : Spot) (l : List Sg) (x : Sg) : stepsF p (l ++ [x]) = (stepsF p l).step x := by simp [stepsF, List.foldl_append]
theorem trail_end (l : List Sg) : (trail l).2 = stepsF ⟨0, 0, 0⟩ l := by
  refine snoc_ind (P := fun l => (trail l).2 = stepsF ⟨0, 0, 0⟩ l) rfl (fun l x ih => ?_) l
  rw [trail_snoc, stepsF_snoc, ih]
theorem spotsF_snoc (x : Sg) : ∀ (l : List Sg) (p : Spot), spotsF p (l ++ [x]) = spotsF p l ++ [stepsF p (l ++ [x])]
  | [], p => by simp [spotsF, stepsF]
  | y :: r, p => by
    simp only [List.cons_append, spotsF, spotsF_snoc x r (p.step y)]
    rfl
theorem spots_eq (s : ByteArray) : spotsL s = spotsF ⟨0, 0, 0⟩ (signs s) := by
  unfold spotsL
  generalize signs s = l
  refine snoc_ind (P := fun l => (trail l).1 ++ [(trail l).2] = spotsF ⟨0, 0, 0⟩ l) rfl (fun l x ih => ?_) l
  rw [spotsF_snoc, ← ih, trail_snoc]
  simp only [trail_end, stepsF_snoc]
def Behind (a b : Spot) : Prop := a.b < b.b ∧ a.c < b.c ∧ a.d < b.d
theorem behind_step {s : ByteArray} {p : Nat} (hp : p < s.size) (a : Spot) : Behind a (a.step (sgn s p)) := by
  have hd := sgn_dec s p hp
  have hq := pairsI_bd (sgn s p).rune
  unfold Behind Spot.step
  dsimp only
  omega
theorem spotsF_behind {s : ByteArray} : ∀ {l : List Sg} {p e : Nat} (a : Spot), Lies s p l e → ∀ q ∈ spotsF a l, q = a ∨ Behind a q
  | [], p, e, a, h, q, hq => by simp [spotsF] at hq; exact .inl hq
  | x :: r, p, e, a, h, q, hq => by
    obtain ⟨h1, h2, h3⟩ := h
    rw [h2] at h3 hq
    have hb := behind_step h1 a
    simp only [spotsF, List.mem_cons] at hq
    rcases hq with rfl | hq
    · exact .inl rfl
    · right
      rcases spotsF_behind (a.step (sgn s p)) h3 q hq with rfl | h
      · exact hb
      · unfold Behind at *; omega
theorem spotsF_rise {s : ByteArray} : ∀ {l : List Sg} {p e : Nat} (a : Spot), Lies s p l e → (spotsF a l).Pairwise Behind
  | [], p, e, a, h => by simp [spotsF]
  | x :: r, p, e, a, h => by
    obtain ⟨h1, h2, h3⟩ := h
    rw [h2] at h3 ⊢
    have hb := behind_step h1 a
    simp only [spotsF, List.pairwise_cons]
    refine ⟨fun q hq => ?_, spotsF_rise _ h3⟩
    rcases spotsF_behind (a.step (sgn s p)) h3 q hq with rfl | h
    · exact hb
    · unfold Behind at *; omega
theorem spots_rise (s : ByteArray) : (spotsL s).Pairwise Behind := by rw [spots_eq]; exact spotsF_rise _ (signs_lies s)
theorem behind_get {a b : Spot} (h : Behind a b) (u : Int) : a.get u < b.get u := by
  unfold Behind at h
  unfold Spot.get
  repeat' split
  all_goals omega

theorem findL_mem (u : Int) {q : Spot} : ∀ {L : List Spot}, L.Pairwise Behind → q ∈ L → findL u (q.get u) L = (q, 0)
  | [], _, h => by simp at h
  | a :: L, hr, h => by
    rw [List.pairwise_cons] at hr
    rcases List.mem_cons.1 h with rfl | h
    · simp [findL]
    · have := behind_get (hr.1 q h) u
      rw [findL, if_neg (by omega), if_neg (by omega), findL_mem u hr.2 h]
theorem rise_of_get {L : List Spot} (hr : L.Pairwise Behind) {a b : Spot} (ha : a ∈ L) (hb : b ∈ L) (u v : Int) (h : a.get u < b.get u) : a.get v < b.get v := by
  induction L with
  | nil => simp at ha
  | cons x L ih =>
    rw [List.pairwise_cons] at hr
    rcases List.mem_cons.1 ha with e | ka <;> rcases List.mem_cons.1 hb with e' | kb
    · subst e e'; omega
    · subst e; exact behind_get (hr.1 b kb) v
    · subst e'; have := behind_get (hr.1 a ka) u; omega
    · exact ih hr.2 ka kb
def lastS (s : ByteArray) : Spot := stepsF ⟨0, 0, 0⟩ (signs s)
theorem spotsF_mem (a : Spot) : ∀ (l m : List Sg), stepsF a l ∈ spotsF a (l ++ m)
  | [], [] => by simp [spotsF, stepsF]
  | [], y :: m => by simp [spotsF, stepsF]
  | x :: l, m => by
    simp only [List.cons_append, spotsF, List.mem_cons]
    exact .inr (spotsF_mem (a.step x) l m)
theorem spotsF_of (a : Spot) : ∀ (l : List Sg) (q : Spot), q ∈ spotsF a l → ∃ k, k ≤ l.length ∧ q = stepsF a (l.take k)
  | [], q, h => by simp [spotsF] at h; exact ⟨0, by simp, by simp [stepsF, h]⟩
  | x :: l, q, h => by
    simp only [spotsF, List.mem_cons] at h
    rcases h with rfl | h
    · exact ⟨0, by simp, by simp [stepsF]⟩
    · obtain ⟨k, hk, e⟩ := spotsF_of (a.step x) l q h
      exact ⟨k + 1, by simp; omega, by rw [e]; simp [stepsF]⟩
def spotAt (s : ByteArray) (k : Nat) : Spot := stepsF ⟨0, 0, 0⟩ ((signs s).take k)
theorem spotAt_mem (s : ByteArray) (k : Nat) : spotAt s k ∈ spotsL s := by
  rw [spots_eq]
  have := spotsF_mem ⟨0, 0, 0⟩ ((signs s).take k) ((signs s).drop k)
  rwa [List.take_append_drop] at this
theorem spotAt_of {s : ByteArray} {q : Spot} (h : q ∈ spotsL s) : ∃ k, k ≤ (signs s).length ∧ q = spotAt s k := by rw [spots_eq] at h; exact spotsF_of _ _ _ h
theorem stepsF_c (l : List Sg) (a : Spot) : (stepsF a l).c = a.c + l.length := by
  induction l generalizing a with
  | nil => simp [stepsF]
  | cons x l ih =>
    have := ih (a.step x)
    simp only [stepsF, List.foldl_cons, List.length_cons] at this ⊢
    rw [this]
    simp only [Spot.step]
    omega
theorem stepsF_b {s : ByteArray} : ∀ {l : List Sg} {p e : Nat} (a : Spot), Lies s p l e → (stepsF a l).b = a.b + (e - p)
  | [], p, e, a, h => by simp only [Lies] at h; subst h; simp [stepsF]
  | x :: l, p, e, a, h => by
    obtain ⟨h1, h2, h3⟩ := h
    have := stepsF_b (a.step x) h3
    simp only [stepsF, List.foldl_cons] at this ⊢
    rw [this]
    simp only [Spot.step]
    have := lies_le h3
    omega
theorem spotAt_c (s : ByteArray) (k : Nat) (hk : k ≤ (signs s).length) : (spotAt s k).c = k := by
  unfold spotAt
  rw [stepsF_c, List.length_take]
  simp
  omega
theorem lies_take {s : ByteArray} {l : List Sg} {p e : Nat} (h : Lies s p l e) (k : Nat) : ∃ q, Lies s p (l.take k) q ∧ Lies s q (l.drop k) e := by
  rw [← List.take_append_drop k l] at h
  exact lies_split h
theorem lastS_eq (s : ByteArray) : lastS s = spotAt s (signs s).length := by unfold lastS spotAt; rw [List.take_length]
theorem lastS_c (s : ByteArray) : (lastS s).c = (signs s).length := by unfold lastS; rw [stepsF_c]; simp
theorem last_most (s : ByteArray) (u : Int) {q : Spot} (h : q ∈ spotsL s) : q.get u ≤ (lastS s).get u := by
  have hl : lastS s ∈ spotsL s := by rw [lastS_eq]; exact spotAt_mem s _
  by_cases hc : (lastS s).get u < q.get u
  · have := rise_of_get (spots_rise s) hl h u 2 hc
    obtain ⟨k, hk, rfl⟩ := spotAt_of h
    simp only [Spot.get] at this
    rw [spotAt_c s k hk, lastS_c] at this
    simp at this
    omega
  · omega
theorem first_mem (s : ByteArray) : zeroSpot ∈ spotsL s := by
  have := spotAt_mem s 0
  simpa [spotAt, stepsF, zeroSpot] using this
theorem first_least (s : ByteArray) (u : Int) {q : Spot} (h : q ∈ spotsL s) : 0 ≤ q.get u := by
  have hz : zeroSpot.get u = 0 := by unfold zeroSpot Spot.get; repeat' split
                                     all_goals rfl
  by_cases hc : q.get u < 0
  · have := rise_of_get (spots_rise s) h (first_mem s) u 2 (by omega)
    obtain ⟨k, hk, rfl⟩ := spotAt_of h
    simp only [Spot.get, zeroSpot] at this
    rw [spotAt_c s k hk] at this
    simp at this
    omega
  · omega
theorem ite_iffU {α : Type} {p q : Prop} [Decidable p] [Decidable q] (h : p ↔ q) (a b : α) : (if p then a else b) = if q then a else b := by
  by_cases hp : p
  · rw [if_pos hp, if_pos (h.1 hp)]
  · rw [if_neg hp, if_neg (fun e => hp (h.2 e))]
theorem cutU (n m b0 b1 b2 b3 c1 c2 c3 : Nat) (hm : 1 ≤ m) (hmn : m ≤ n) (e1 : 1 < m → c1 = b1) (e2 : 2 < m → c2 = b2) (e3 : 3 < m → c3 = b3) (hw : (Lib.decodeN n b0 b1 b2 b3).2 ≤ m) :
    Lib.decodeN m b0 c1 c2 c3 = Lib.decodeN n b0 b1 b2 b3 := by
  unfold Lib.decodeN at hw ⊢
  by_cases h0 : b0 < 128
  · simp [h0]
  · simp only [if_neg h0] at hw ⊢
    by_cases a2 : b0 / 32 = 6
    · have n3 : ¬ b0 / 16 = 14 := by omega
      have n4 : ¬ b0 / 8 = 30 := by omega
      simp only [a2, n3, n4, true_and, false_and, if_false] at hw ⊢
      by_cases h1 : 1 < m
      · rw [e1 h1, ite_iffU (show (1 < m ∧ b1 / 64 = 2) ↔ (1 < n ∧ b1 / 64 = 2) by omega)]
      · rw [if_neg (by omega)]
        split at hw
        · split at hw
          · simp at hw; omega
          · rename_i q1 q2
            rw [if_pos q1, if_neg q2]
        · rename_i q1
          rw [if_neg q1]
    · simp only [a2, false_and, if_false] at hw ⊢
      by_cases a3 : b0 / 16 = 14
      · have n4 : ¬ b0 / 8 = 30 := by omega
        simp only [a3, n4, true_and, false_and, if_false] at hw ⊢
        by_cases h1 : 2 < m
        · rw [e1 (by omega), e2 h1, ite_iffU (show ((1 < m ∧ b1 / 64 = 2) ∧ 2 < m ∧ b2 / 64 = 2) ↔ ((1 < n ∧ b1 / 64 = 2) ∧ 2 < n ∧ b2 / 64 = 2) by omega)]
        · rw [if_neg (by omega)]
          split at hw
          · split at hw
            · simp at hw; omega
            · rename_i q1 q2
              rw [if_pos q1, if_neg q2]
          · rename_i q1
            rw [if_neg q1]
      · simp only [a3, false_and, if_false] at hw ⊢
        by_cases a4 : b0 / 8 = 30
        · simp only [a4, true_and] at hw ⊢
          by_cases h1 : 3 < m
          · rw [e1 (by omega), e2 (by omega), e3 h1, ite_iffU (show ((1 < m ∧ b1 / 64 = 2) ∧ (2 < m ∧ b2 / 64 = 2) ∧ 3 < m ∧ b3 / 64 = 2) ↔ ((1 < n ∧ b1 / 64 = 2) ∧ (2 < n ∧ b2 / 64 = 2) ∧ 3 < n ∧ b3 / 64 = 2) by omega)]
          · rw [if_neg (by omega)]
            split at hw
            · split at hw
              · simp at hw; omega
              · rename_i q1 q2
                rw [if_pos q1, if_neg q2]
            · rename_i q1
              rw [if_neg q1]
        · simp only [a4, false_and, if_false]

theorem get_part (s : ByteArray) (A B i : Nat) (hi : A + i < B) : (s.extract A B).get! i = s.get! (A + i) := by
  rw [← Lib.getD_get!', ← Lib.getD_get!', Lib.extract_data]
  simp only [List.getD_eq_getElem?_getD, List.getElem?_take, List.getElem?_drop]
  rw [if_pos (by omega)]
theorem decode_part (s : ByteArray) (A B p : Nat) (hA : A ≤ p) (hp : p < B) (hB : B ≤ s.size) (hw : p + (Utf8.decode s p).2 ≤ B) : Utf8.decode (s.extract A B) (p - A) = Utf8.decode s p := by
  have hz : (s.extract A B).size = B - A := by rw [ByteArray.size_extract]; omega
  rw [Lib.decode_at] at hw
  rw [Lib.decode_at, Lib.decode_at, hz, get_part s A B _ (by omega), show A + (p - A) = p by omega]
  refine cutU _ _ _ _ _ _ _ _ _ (by omega) (by omega) (fun h => ?_) (fun h => ?_) (fun h => ?_) (by omega)
  · rw [get_part s A B _ (by omega), show A + (p - A + 1) = p + 1 by omega]
  · rw [get_part s A B _ (by omega), show A + (p - A + 2) = p + 2 by omega]
  · rw [get_part s A B _ (by omega), show A + (p - A + 3) = p + 3 by omega]
def Sg.up (k : Nat) (x : Sg) : Sg := ⟨x.loc + k, x.len, x.rune, x.bad, x.small⟩
theorem up_loc (k : Nat) (x : Sg) : (x.up k).loc = x.loc + k := rfl
theorem up_len (k : Nat) (x : Sg) : (x.up k).len = x.len := rfl
theorem up_rune (k : Nat) (x : Sg) : (x.up k).rune = x.rune := rfl
theorem up_bad (k : Nat) (x : Sg) : (x.up k).bad = x.bad := rfl
theorem badAt_part (s : ByteArray) (A B p : Nat) (hA : A ≤ p) (hp : p < B) (hB : B ≤ s.size) (hw : p + (Utf8.decode s p).2 ≤ B) : badAt (s.extract A B) (p - A) = badAt s p := by
  unfold badAt; rw [decode_part s A B p hA hp hB hw]
theorem sgn_part (s : ByteArray) (A B p : Nat) (hA : A ≤ p) (hp : p < B) (hB : B ≤ s.size) (hw : p + (Utf8.decode s p).2 ≤ B) : (sgn (s.extract A B) (p - A)).up A = sgn s p := by
  have hz : (s.extract A B).size = B - A := by rw [ByteArray.size_extract]; omega
  obtain ⟨a1, a2, a3, a4, _, _⟩ := sgn_dec s p (by omega)
  obtain ⟨b1, b2, b3, b4, _, _⟩ := sgn_dec (s.extract A B) (p - A) (by omega)
  rw [decode_part s A B p hA hp hB hw] at b2 b3
  rw [badAt_part s A B p hA hp hB hw] at b4
  refine sg_ext ?_ ?_ ?_ ?_
  · rw [up_loc, b1, a1]; omega
  · rw [up_len, b2, a2]
  · rw [up_rune, b3, a3]
  · rw [up_bad, b4, a4]
theorem lies_part {s : ByteArray} {A B : Nat} (hB : B ≤ s.size) : ∀ {l : List Sg} {p e : Nat}, A ≤ p → e ≤ B → Lies s p l e → ∃ m, Lies (s.extract A B) (p - A) m (e - A) ∧ m.map (Sg.up A) = l
  | [], p, e, _, _, h => by simp only [Lies] at h; subst h; exact ⟨[], rfl, rfl⟩
  | x :: l, p, e, hA, he, h => by
    obtain ⟨h1, h2, h3⟩ := h
    have hle := lies_le h3
    obtain ⟨d1, d2, d3, d4, d5, d6⟩ := sgn_dec s p h1
    rw [h2, d2] at h3 hle
    have hle2 : p + (Utf8.decode s p).2 ≤ B := by omega
    obtain ⟨m, m1, m2⟩ := lies_part (A := A) hB (l := l) (p := p + (Utf8.decode s p).2) (by omega) he h3
    have hs := sgn_part s A B p hA (by omega) hB hle2
    refine ⟨sgn (s.extract A B) (p - A) :: m, ⟨by rw [ByteArray.size_extract]; omega, rfl, ?_⟩, by rw [List.map_cons, hs, m2, h2]⟩
    have hl : (sgn (s.extract A B) (p - A)).len = (Utf8.decode s p).2 := by rw [← d2, ← hs, up_len]
    rw [hl, show p - A + (Utf8.decode s p).2 = p + (Utf8.decode s p).2 - A by omega]
    exact m1
theorem signs_part {s : ByteArray} {A B : Nat} {l : List Sg} (h : Lies s A l B) (hB : B ≤ s.size) : (signs (s.extract A B)).map (Sg.up A) = l := by
  obtain ⟨m, m1, m2⟩ := lies_part hB (Nat.le_refl A) (Nat.le_refl B) h
  have hl := lies_le h
  have := signs_lies (s.extract A B)
  rw [show (s.extract A B).size = B - A by rw [ByteArray.size_extract]; omega] at this
  rw [Nat.sub_self] at m1
  rw [lies_uniq this m1, m2]
theorem stepsF_up (k : Nat) : ∀ (l : List Sg) (a : Spot), stepsF a (l.map (Sg.up k)) = stepsF a l
  | [], _ => rfl
  | x :: l, a => stepsF_up k l (a.step x)
theorem stepsF_add : ∀ (l : List Sg) (a b : Spot), stepsF ⟨a.b + b.b, a.c + b.c, a.d + b.d⟩ l = ⟨a.b + (stepsF b l).b, a.c + (stepsF b l).c, a.d + (stepsF b l).d⟩
  | [], _, _ => rfl
  | x :: l, a, b => by
    have := stepsF_add l a (b.step x)
    simp only [stepsF, List.foldl_cons] at this ⊢
    rw [← this]
    simp only [Spot.step]
    congr 2 <;> omega
theorem stepsF_append (a : Spot) (l m : List Sg) : stepsF a (l ++ m) = stepsF (stepsF a l) m := by simp [stepsF, List.foldl_append]
def Spot.plus (a b : Spot) : Spot := ⟨a.b + b.b, a.c + b.c, a.d + b.d⟩
theorem spotAt_lies (s : ByteArray) (k : Nat) (_hk : k ≤ (signs s).length) : ∃ q : Nat, (spotAt s k).b = q ∧ q ≤ s.size ∧ Lies s 0 ((signs s).take k) q ∧ Lies s q ((signs s).drop k) s.size := by
  obtain ⟨q, a, b⟩ := lies_take (signs_lies s) k
  refine ⟨q, ?_, lies_fit a (by omega), a, b⟩
  have := stepsF_b ⟨0, 0, 0⟩ a
  unfold spotAt
  rw [this]
  simp
theorem part_spots (s : ByteArray) (i j A B : Nat) (hij : i ≤ j) (hj : j ≤ (signs s).length) (hA : (spotAt s i).b = A) (hB : (spotAt s j).b = B) :
    A ≤ B ∧ B ≤ s.size ∧ (signs (s.extract A B)).length = j - i ∧ ∀ k, k ≤ j - i → spotAt s (i + k) = (spotAt s i).plus (spotAt (s.extract A B) k) := by
  obtain ⟨a, ha, hal, l1, l2⟩ := spotAt_lies s i (by omega)
  obtain ⟨b, hb, hbl, l3, l4⟩ := spotAt_lies s j hj
  obtain rfl : a = A := by omega
  obtain rfl : b = B := by omega
  have e : (signs s).take j = (signs s).take i ++ ((signs s).drop i).take (j - i) := by
    rw [← List.take_add]
    congr 1
    omega
  rw [e] at l3
  obtain ⟨q, q1, q2⟩ := lies_split l3
  have hq : q = a := by
    have x := stepsF_b ⟨0, 0, 0⟩ l1
    have y := stepsF_b ⟨0, 0, 0⟩ q1
    have h1 := lies_le l1
    have h2 := lies_le q1
    rw [x] at y
    simp at y
    omega
  subst hq
  have hle := lies_le q2
  have hp := signs_part q2 hbl
  refine ⟨by omega, hbl, ?_, fun k hk => ?_⟩
  · have := congrArg List.length hp
    rw [List.length_map, List.length_take, List.length_drop] at this
    omega
  · have ht : (signs s).take (i + k) = (signs s).take i ++ ((signs (s.extract q b)).take k).map (Sg.up q) := by
      rw [List.map_take, hp, List.take_take, Nat.min_eq_left hk, ← List.take_add]
    unfold spotAt
    rw [ht, stepsF_append, stepsF_up]
    have := stepsF_add ((signs (s.extract q b)).take k) (stepsF ⟨0, 0, 0⟩ ((signs s).take i)) ⟨0, 0, 0⟩
    simpa [Spot.plus] using this
end Go.Proofs.YtlkgnheccoodpaaGreatDoor
namespace Go.Proofs.YtlkgnheccoodpaaGreatDoor
open Go.RowKit
def flatR (l : List Sg) : List Value := l.flatMap fun x => [.int .i64 x.loc, .int .i64 x.len, .int .i64 x.rune, .bool x.bad]
theorem flatR_snoc (l : List Sg) (x : Sg) : flatR (l ++ [x]) = flatR l ++ [.int .i64 x.loc, .int .i64 x.len, .int .i64 x.rune, .bool x.bad] := by simp [flatR]
theorem infoRSign : (Tryz.prog.info? 133).map (fun i => (i.zero, i.size, i.bytes)) = some (some (.agg #[.int .i64 0, .int .i64 0, .int .i64 0, .bool false]), 4, 32) := by kernel_rfl
theorem info_parts2 {t : TypeId} {z : Value} {n b : Nat} (h : (Tryz.prog.info? t).map (fun i => (i.zero, i.size, i.bytes)) = some (some z, n, b)) : ∃ i, Tryz.prog.info? t = some i ∧ i.zero = some z ∧ i.size = n ∧ i.bytes = b := by
  cases hi : Tryz.prog.info? t with
  | none => rw [hi] at h; cases h
  | some i => rw [hi] at h; simp at h; exact ⟨i, rfl, h⟩
theorem cell_four2 (w : World) (a b c d : Value) (t : TypeId) : ∀ j u, [a, b, c, d][j]? = some u → (w.alloc (.cells #[a, b, c, d] t)).cell? ((⟨w.heap.size, 0, none⟩ : Addr).add j) = some u := by
  intro j u hj
  match j, hj with
  | 0, hj => simp at hj; subst hj; simp [Addr.add]
  | 1, hj => simp at hj; subst hj; simp [Addr.add]
  | 2, hj => simp at hj; subst hj; simp [Addr.add]
  | 3, hj => simp at hj; subst hj; simp [Addr.add]
  | j + 4, hj => simp at hj
theorem one_val (s : ByteArray) (p : Nat) (hp : p < s.size) : (oneR s p).val p = .agg #[.int .i64 (sgn s p).loc, .int .i64 (sgn s p).len, .int .i64 (sgn s p).rune, .bool (sgn s p).bad] := by
  obtain ⟨a, b, c, d, _, _⟩ := sgn_dec s p hp
  rw [one_dec s p hp, a, b, c, d]
  cases h : badAt s p
  · rfl
  · have := (sgn_bad s p h).2.2.2.2.2
    rw [this]
    rfl
theorem bytes_row (w : World) (s : ByteArray) (cap : Nat) (t : TypeId) (k : Nat × Nat) : BytesAt (w.drew.alloc (.cells (bytesRow s cap) t k)) w.heap.size s := by
  intro j hj
  have h1 := World.alloc_heap_new w.drew (.cells (bytesRow s cap) t k)
  have e : (bytesRow s cap)[j]? = some (.int .u8 s[j].toNat) := by
    unfold bytesRow
    rw [Array.getElem?_append_left (by simpa using hj)]
    simp [ByteArray.getElem_eq_getElem_data]
    exact ⟨s.data[j]'hj, Array.getElem?_eq_getElem hj, rfl⟩
  show World.cell? (w.drew.alloc _) ⟨w.drew.heap.size, j, none⟩ = _
  simp only [World.cell?, h1]
  exact e
theorem BytesAt.below {w w' : World} {B : Nat} {s : ByteArray} {n : Nat} (h : BytesAt w B s) (hb : Below n w w') (hB : B < n) : BytesAt w' B s := fun k hk => (hb.cell (p := ⟨B, k, none⟩) hB).trans (h k hk)
theorem BytesAt.grown {w w' : World} {B : Nat} {s : ByteArray} {row : Option Nat} (h : BytesAt w B s) (hg : w.grownBy w' row) (hB : B < w.heap.size) (hr : row ≠ some B) : BytesAt w' B s := fun k hk => (World.cell?_of_block (hg.block B hB (fun e => hr e.symm))).trans (h k hk)

theorem row_below {A B : World} {base e size k : Nat} {v : Value} {xs : List Value} (h : A.ownsRow base e size v k xs) (hb : Below A.heap.size A B) : B.ownsRow base e size v k xs := by
  refine ⟨h.1, ?_⟩
  rcases h.2 with hn | ⟨g, cap, cur, rfl, hg, hgg, rest⟩
  · exact .inl hn
  · exact .inr ⟨g, cap, cur, rfl, hg, (hb.block g (Array.getElem?_eq_some_iff.1 hgg).1).trans hgg, rest⟩
theorem row_low {A : World} {m base e size k : Nat} {v : Value} {xs : List Value} (h : A.ownsRow base e size v k xs) (hm : m ≤ base) : A.ownsRow m e size v k xs := by
  refine ⟨h.1, ?_⟩
  rcases h.2 with hn | ⟨g, cap, cur, rfl, hb, rest⟩
  · exact .inl hn
  · exact .inr ⟨g, cap, cur, rfl, by omega, rest⟩

set_option maxRecDepth 100000 in
set_option maxHeartbeats 4000000 in
theorem rsigns_any (s : ByteArray) (hs : s.size ≤ 1048576) (w : World) :
    Calls Tryz.prog 73 #[.string s] w fun e w' => ∃ v, e = .returned v ∧ w'.ownsRow w.heap.size 133 4 v (signs s).length (flatR (signs s)) ∧ Below w.heap.size w w' := by
  obtain ⟨i0, hi, hz0, hz1, hz2⟩ := info_parts2 infoRSign
  have hcv := run_bytes_of_string (P := Tryz.prog) w 9 122 5 s Tryz.underlying9 Tryz.underlying122 Tryz.underlying5
  have hby := bytes_row w s (grownCap w s.size 0 5) 5 ((bytesRow s (grownCap w s.size 0 5)).size, (bytesRow s (grownCap w s.size 0 5)).size + 1)
  have hB0 := ((Below.refl w.heap.size w).drew).alloc (Nat.le_refl _) (.cells (bytesRow s (grownCap w s.size 0 5)) 5 ((bytesRow s (grownCap w s.size 0 5)).size, (bytesRow s (grownCap w s.size 0 5)).size + 1))
  have hz3 : w.heap.size + 1 ≤ (w.drew.alloc (.cells (bytesRow s (grownCap w s.size 0 5)) 5 ((bytesRow s (grownCap w s.size 0 5)).size, (bytesRow s (grownCap w s.size 0 5)).size + 1))).heap.size := by rw [World.size_alloc]; exact Nat.le_refl _
  generalize w.drew.alloc (.cells (bytesRow s (grownCap w s.size 0 5)) 5 ((bytesRow s (grownCap w s.size 0 5)).size, (bytesRow s (grownCap w s.size 0 5)).size + 1)) = W1 at *
  generalize grownCap w s.size 0 5 = cap at *
  have HBY := hideO hby
  clear hby
  go_enter Tryz.func73, Tryz.ntmps73
  go_wp2
  clear hcv
  go_loopw [4, 5, 6] (fun v i _ wr => ∃ (pre : List Sg) (pos : Nat), i = .int .i64 pos ∧ Hid (BytesAt wr w.heap.size s) ∧ Hid (Lies s 0 pre pos) ∧ pos ≤ s.size ∧ pre.length ≤ pos ∧ wr.ownsRow (w.heap.size + 1) 133 4 v pre.length (flatR pre) ∧ Below w.heap.size w wr ∧ w.heap.size + 1 ≤ wr.heap.size) (fun _ i _ _ => s.size - (intOf i).toNat)
  case atStart => exact ⟨[], 0, rfl, HBY, hideO rfl, by omega, by simp, World.ownsRow_nil _ _ _ _, hB0, hz3⟩
  case round =>
    obtain ⟨pre, pos, rfl, HB, HL, hps, hlen, hown, hB, hz⟩ := hrel
    clear HBY hB0 hz3
    by_cases hp : pos < s.size
    · have ho := one_val s pos hp
      obtain ⟨d1, d2, d3, d4, d5, d6⟩ := sgn_dec s pos hp
      have HL2 : Hid (Lies s 0 (pre ++ [sgn s pos]) (pos + (sgn s pos).len)) := lies_append HL.out ⟨hp, rfl, rfl⟩
      have hl1 : 1 ≤ (sgn s pos).len := by omega
      have hl2 : pos + (sgn s pos).len ≤ s.size := by omega
      clear d1 d2 d3 d4 d5 d6
      generalize sgn s pos = x at *
      go_wp2_with (first
        | (go_at_call 101; refine (one_any wr w.heap.size cap s pos hp hs HB.out).mono ?_; rintro e w2 ⟨rfl, hb2⟩; rw [ho]; have HB2 := hideO (HB.out.below hb2 (by omega)); have hown2 := row_below hown hb2; have hB2 := hB.trans (hb2.mono hB.size); have hzw := hb2.size; clear hb2)
        | (at_builtin; refine wpList_append_own _ rfl _ _ 130 rfl (w.heap.size + 1) 133 i0 (.agg #[.int .i64 0, .int .i64 0, .int .i64 0, .bool false]) 4 32 Tryz.underlying130 hi hz0 hz1 hz2 rfl (by decide) _ _ _ rfl ((hown2.alloc _).alloc _) ⟨w2.heap.size + 1, 0, none⟩ 1 1 [.int .i64 x.loc, .int .i64 x.len, .int .i64 x.rune, .bool x.bad] rfl rfl (by have := cell_four2 (w2.alloc (.cells #[.int .i64 x.loc, .int .i64 x.len, .int .i64 x.rune, .bool x.bad] 133)) (.int .i64 x.loc) (.int .i64 x.len) (.int .i64 x.rune) (.bool x.bad) 133; rwa [World.size_alloc] at this) (fun u hu => by simp at hu; rcases hu with rfl | rfl | rfl | rfl <;> rfl) (by unfold maxLen; omega) (by omega) (by simp; omega) ?_; intro v' w3 hown' hgrow _; have x0 : w3.cell? ⟨w2.heap.size, 1, none⟩ = some (.int .i64 x.len) := (World.cell?_of_block (hgrow.block w2.heap.size (by simp; omega) (fun e => by have := (hown2.lt _ e.symm).2; omega))).trans (by simp)))
      have hB3 := Below.grown ((hB2.alloc hB2.size (.cells #[.int .i64 x.loc, .int .i64 x.len, .int .i64 x.rune, .bool x.bad] 133)).alloc (by simp; omega) (.cells #[.int .i64 x.loc, .int .i64 x.len, .int .i64 x.rune, .bool x.bad] 133)) hgrow (by simp; omega) (fun j hj => by have := (hown2.lt j hj).1; omega)
      have HB3 := hideO (((HB2.out.alloc (by omega) (.cells #[.int .i64 x.loc, .int .i64 x.len, .int .i64 x.rune, .bool x.bad] 133)).alloc (by simp; omega) (.cells #[.int .i64 x.loc, .int .i64 x.len, .int .i64 x.rune, .bool x.bad] 133)).grown hgrow (by simp; omega) (fun e => by have := (hown2.lt _ e).1; omega))
      have hz3 := hgrow.size
      simp only [World.size_alloc] at hz3
      go_roundw
      case rel => exact ⟨pre ++ [x], pos + x.len, by go_num, HB3, HL2, hl2, by simp; omega, by rw [List.length_append, flatR_snoc]; exact hown', hB3, by omega⟩
      case measure => simp [intOf]; omega
    · go_wp2
      go_ret
      have e := lies_uniq (s := s) HL.out (by have := signs_lies s; rwa [show s.size = pos by omega] at this)
      rw [← e]
      exact ⟨_, rfl, row_low hown (by omega), hB⟩
end Go.Proofs.YtlkgnheccoodpaaGreatDoor
namespace Go.Proofs.YtlkgnheccoodpaaGreatDoor
open Go.RowKit

set_option maxHeartbeats 400000 in
theorem runits_any (a b r : Int) (c : Bool) (w : World) : Calls Tryz.prog 133 #[.agg #[.int .i64 a, .int .i64 b, .int .i64 r, .bool c]] w fun e w' => e = .returned (.int .i64 (pairsI r)) ∧ Below w.heap.size w w' := by
  by_cases h : 65536 ≤ r
  · rw [show pairsI r = 2 from if_pos h]
    go_enter Tryz.func133, Tryz.ntmps133
    go_wp2
    go_ret
    exact ⟨rfl, (Below.refl _ w).alloc (Nat.le_refl _) _⟩
  · rw [show pairsI r = 1 from if_neg h]
    go_enter Tryz.func133, Tryz.ntmps133
    go_wp2
    go_ret
    exact ⟨rfl, (Below.refl _ w).alloc (Nat.le_refl _) _⟩
def sizeU (u : Int) (x : Sg) : Int := if u = 1 then x.len else if u = 3 then pairsI x.rune else 1
theorem step_get (p : Spot) (x : Sg) (u : Int) (hu : u = 1 ∨ u = 2 ∨ u = 3) : (p.step x).get u = p.get u + sizeU u x := by
  rcases hu with rfl | rfl | rfl <;> rfl
theorem sizeU_bd (u : Int) (x : Sg) : 0 ≤ sizeU u x ∧ sizeU u x ≤ 4 := by
  have := x.small
  have := pairsI_bd x.rune
  unfold sizeU
  repeat' split
  all_goals omega

set_option maxHeartbeats 400000 in
theorem usize_any (x : Sg) (u : Int) (hu : u = 1 ∨ u = 2 ∨ u = 3) (w : World) : Calls Tryz.prog 126 #[.agg #[.int .i64 x.loc, .int .i64 x.len, .int .i64 x.rune, .bool x.bad], .int .i64 u] w fun e w' => e = .returned (.int .i64 (sizeU u x)) ∧ Below w.heap.size w w' := by
  rcases hu with rfl | rfl | rfl
  · rw [show sizeU 1 x = x.len from rfl]
    go_enter Tryz.func126, Tryz.ntmps126
    go_wp2
    go_ret
    exact ⟨rfl, (Below.refl _ w).alloc (Nat.le_refl _) _⟩
  · rw [show sizeU 2 x = 1 from rfl]
    go_enter Tryz.func126, Tryz.ntmps126
    go_wp2
    go_ret
    exact ⟨rfl, (Below.refl _ w).alloc (Nat.le_refl _) _⟩
  · rw [show sizeU 3 x = pairsI x.rune from rfl]
    go_enter Tryz.func126, Tryz.ntmps126
    go_wp2_with (go_at_call 133; refine (runits_any _ _ _ _ _).mono ?_; rintro e w2 ⟨rfl, hb2⟩)
    go_ret
    exact ⟨rfl, ((Below.refl _ w).alloc (Nat.le_refl _) _).trans (hb2.mono (by simp))⟩

set_option maxHeartbeats 400000 in
theorem runit_yes (u : Int) (w : World) (h : u = 1 ∨ u = 2 ∨ u = 3) : Calls Tryz.prog 105 #[.int .i64 u] w fun e w' => e = .returned (.bool true) ∧ w' = w := by
  rcases h with rfl | rfl | rfl
  all_goals
    go_enter Tryz.func105, Tryz.ntmps105
    go_wp2
    go_ret
    exact ⟨rfl, rfl⟩
theorem flatR_get : ∀ (l : List Sg) (n : Nat) (h : n < l.length), (flatR l)[n * 4]? = some (.int .i64 l[n].loc) ∧ (flatR l)[n * 4 + 1]? = some (.int .i64 l[n].len) ∧ (flatR l)[n * 4 + 2]? = some (.int .i64 l[n].rune) ∧ (flatR l)[n * 4 + 3]? = some (.bool l[n].bad)
  | [], _, h => by simp at h
  | x :: r, 0, _ => by simp [flatR]
  | x :: r, n + 1, h => by
    have := flatR_get r n (by simpa using h)
    have e : flatR (x :: r) = .int .i64 x.loc :: .int .i64 x.len :: .int .i64 x.rune :: .bool x.bad :: flatR r := by simp [flatR]
    rw [e, show (n + 1) * 4 = n * 4 + 1 + 1 + 1 + 1 by omega]
    simpa using this
def RAt (W : World) (g n : Nat) (x : Sg) : Prop := W.cell? ⟨g, n * 4, none⟩ = some (.int .i64 x.loc) ∧ W.cell? ⟨g, n * 4 + 1, none⟩ = some (.int .i64 x.len) ∧ W.cell? ⟨g, n * 4 + 2, none⟩ = some (.int .i64 x.rune) ∧ W.cell? ⟨g, n * 4 + 3, none⟩ = some (.bool x.bad)
theorem RAt.below {W W' : World} {g n m : Nat} {x : Sg} (h : RAt W g n x) (hb : Below m W W') (hg : g < m) : RAt W' g n x :=
  ⟨(hb.cell (p := ⟨g, n * 4, none⟩) hg).trans h.1, (hb.cell (p := ⟨g, n * 4 + 1, none⟩) hg).trans h.2.1, (hb.cell (p := ⟨g, n * 4 + 2, none⟩) hg).trans h.2.2.1, (hb.cell (p := ⟨g, n * 4 + 3, none⟩) hg).trans h.2.2.2⟩
theorem rows_at {W : World} {base e : Nat} {v : Value} {l : List Sg} (h : W.ownsRow base e 4 v l.length (flatR l)) :
    ∃ oa cap, v = .slice oa l.length cap ∧ ∀ n (hn : n < l.length), ∃ g, oa = some ⟨g, 0, none⟩ ∧ g < W.heap.size ∧ base ≤ g ∧ RAt W g n l[n] := by
  obtain ⟨h1, ⟨rfl, h0⟩ | ⟨g, cap, cur, rfl, hg, hh, hn, hcap, hsz, htake⟩⟩ := h
  · exact ⟨none, 0, by rw [h0], fun n hn => by omega⟩
  · refine ⟨some ⟨g, 0, none⟩, cap, rfl, fun n hn => ⟨g, rfl, (Array.getElem?_eq_some_iff.1 hh).1, hg, ?_⟩⟩
    obtain ⟨f0, f1, f2, f3⟩ := flatR_get l n hn
    rw [← htake, List.getElem?_take, if_pos (by omega), Array.getElem?_toList] at f0 f1 f2 f3
    exact ⟨by simpa [World.cell?, hh] using f0, by simpa [World.cell?, hh] using f1, by simpa [World.cell?, hh] using f2, by simpa [World.cell?, hh] using f3⟩
def restS (s : ByteArray) (k : Nat) : List Spot := spotsF (spotAt s k) ((signs s).drop k)
theorem restS_zero (s : ByteArray) : restS s 0 = spotsL s := by rw [spots_eq]; rfl
theorem spotAt_succ (s : ByteArray) (k : Nat) (hk : k < (signs s).length) : spotAt s (k + 1) = (spotAt s k).step (signs s)[k] := by
  unfold spotAt
  rw [List.take_succ_eq_append_getElem hk, stepsF_snoc]
theorem restS_cons (s : ByteArray) (k : Nat) (hk : k < (signs s).length) : restS s k = spotAt s k :: restS s (k + 1) := by
  unfold restS
  rw [List.drop_eq_getElem_cons hk, spotsF, spotAt_succ s k hk]
theorem restS_head (s : ByteArray) (k : Nat) : ∃ r, restS s k = spotAt s k :: r := by
  unfold restS
  cases (signs s).drop k with
  | nil => exact ⟨[], rfl⟩
  | cons x r => exact ⟨_, rfl⟩
theorem restS_end (s : ByteArray) : restS s (signs s).length = [spotAt s (signs s).length] := by
  unfold restS
  rw [List.drop_length]
  rfl
theorem spotAt_bd (s : ByteArray) (k : Nat) (u : Int) : 0 ≤ (spotAt s k).get u ∧ (spotAt s k).get u ≤ 4 * s.size := by
  refine ⟨first_least s u (spotAt_mem s k), ?_⟩
  have h1 := last_most s u (spotAt_mem s k)
  have h2 := trail_bd (signs s)
  have h3 : (signs s).length ≤ s.size := sgns_length s _ _
  rw [trail_end] at h2
  have h4 : (lastS s).get u ≤ 4 * s.size := by
    have h5 : lastS s = stepsF ⟨0, 0, 0⟩ (signs s) := rfl
    rw [← h5] at h2
    unfold Spot.get
    repeat' split
    all_goals omega
  omega

set_option maxRecDepth 100000 in
set_option maxHeartbeats 2000000 in
theorem rplace_any (s : ByteArray) (hs : s.size ≤ 1048576) (loc u v : Int) (hu : u = 1 ∨ u = 2 ∨ u = 3) (hv : v = 1 ∨ v = 2 ∨ v = 3) (w : World) :
    Calls Tryz.prog 107 #[.string s, .int .i64 loc, .int .i64 u, .int .i64 v] w fun e w' => e = .returned (.tuple #[.int .i64 ((findS s u loc).1.get v), .int .i64 (findS s u loc).2]) ∧ Below w.heap.size w w' := by
  by_cases hneg : loc < 0
  · have hz : zeroSpot.get v = 0 := by rcases hv with rfl | rfl | rfl <;> rfl
    rw [show findS s u loc = (zeroSpot, 1) from if_pos hneg, hz]
    go_enter Tryz.func107, Tryz.ntmps107
    go_wp2_with fail
    refine (runit_yes u _ hu).mono ?_
    rintro e w' ⟨rfl, rfl⟩
    go_wp2_with fail
    refine (runit_yes v _ hv).mono ?_
    rintro e w' ⟨rfl, rfl⟩
    go_wp2
    go_ret2
    exact ⟨rfl, Below.refl _ _⟩
  · have FS : findS s u loc = findL u loc (restS s 0) := by rw [restS_zero]; exact if_neg hneg
    have hdn : decide (loc < 0) = false := decide_eq_false hneg
    rw [FS]
    clear FS
    go_enter Tryz.func107, Tryz.ntmps107
    go_wp2_with fail
    refine (runit_yes u _ hu).mono ?_
    rintro e w' ⟨rfl, rfl⟩
    go_wp2_with fail
    refine (runit_yes v _ hv).mono ?_
    rintro e w' ⟨rfl, rfl⟩
    go_wp2_with fail
    refine (rsigns_any s hs _).mono ?_
    rintro e w1 ⟨lv, rfl, hown, hB1⟩
    obtain ⟨oa, cap, rfl, hcell⟩ := rows_at hown
    have HC := hideO hcell
    have hln : (signs s).length ≤ 1048576 := Nat.le_trans (sgns_length s _ _) hs
    clear hcell hown
    go_wp2
    go_loopw [11, 12, 13] (fun h t i wr => ∃ k : Nat, i = .int .i64 k ∧ k ≤ (signs s).length ∧ h = .int .i64 ((spotAt s k).get u) ∧ t = .int .i64 ((spotAt s k).get v) ∧ ¬ loc < (spotAt s k).get u ∧ Hid (findL u loc (restS s 0) = findL u loc (restS s k)) ∧ Below w'.heap.size w' wr ∧ Below w1.heap.size w1 wr) (fun _ _ i _ => (signs s).length - (intOf i).toNat)
    case atStart => exact ⟨0, rfl, by omega, by rcases hu with rfl | rfl | rfl <;> rfl, by rcases hv with rfl | rfl | rfl <;> rfl, by rcases hu with rfl | rfl | rfl <;> exact (show ¬ loc < 0 by omega), hideO rfl, hB1, Below.refl _ _⟩
    case round =>
      obtain ⟨k, rfl, hk, rfl, rfl, hle, HF, hB, hBw⟩ := hrel
      have hb1 := spotAt_bd s k u
      have hb2 := spotAt_bd s k v
      by_cases hkl : k < (signs s).length
      · by_cases he : (spotAt s k).get u = loc
        · have HR : Hid (findL u loc (restS s 0) = (spotAt s k, 0)) := by
            show _ = _
            rw [HF.out, restS_cons s k hkl, findL, if_pos he]
          have te : ((spotAt s k).get u == loc) = true := beq_iff_eq.2 he
          clear HF
          generalize (spotAt s k).get u = hh at *
          go_wp2
          go_ret2
          exact ⟨by rw [HR.out]; rfl, hB⟩
        · have te : ((spotAt s k).get u == loc) = false := beq_eq_false_iff_ne.2 he
          have HR : Hid (findL u loc (restS s 0) = findL u loc (restS s (k + 1))) := by
            show _ = _
            rw [HF.out, restS_cons s k hkl, findL, if_neg he, if_neg hle]
          have hs1 := spotAt_succ s k hkl
          have hg1 : (spotAt s (k + 1)).get u = (spotAt s k).get u + sizeU u (signs s)[k] := by rw [hs1, step_get _ _ u hu]
          have hg2 : (spotAt s (k + 1)).get v = (spotAt s k).get v + sizeU v (signs s)[k] := by rw [hs1, step_get _ _ v hv]
          have hb3 := spotAt_bd s (k + 1) u
          have hb4 := spotAt_bd s (k + 1) v
          obtain ⟨g, rfl, hgz, _, hcells⟩ := HC.out k hkl
          have hx := hcells.below hBw hgz
          have HX := hideO hx
          obtain ⟨c0, c1, c2, c3⟩ := hx
          clear HF hcells hs1
          rw [hg1] at hb3
          rw [hg2] at hb4
          have hq1 := sizeU_bd u (signs s)[k]
          have hq2 := sizeU_bd v (signs s)[k]
          have hsx : ∀ z, (z = 1 ∨ z = 2 ∨ z = 3) → ∀ W, Calls Tryz.prog 126 #[.agg #[.int .i64 (signs s)[k].loc, .int .i64 (signs s)[k].len, .int .i64 (signs s)[k].rune, .bool (signs s)[k].bad], .int .i64 z] W fun e w' => e = .returned (.int .i64 (sizeU z (signs s)[k])) ∧ Below W.heap.size W w' := fun z hz W => usize_any _ z hz W
          have HSX := hideO hsx
          clear hsx
          generalize (signs s)[k] = x at *
          generalize (spotAt s k).get u = p at *
          generalize (spotAt s k).get v = q at *
          generalize hye : sizeU u x = y at *
          generalize hze : sizeU v x = z at *
          have HY := hideO hye
          have HZ := hideO hze
          clear hye hze
          by_cases hgt : loc < p + y
          · have HE : Hid (findL u loc (restS s 0) = (zeroSpot, 21)) := by
              show _ = _
              obtain ⟨r, hr⟩ := restS_head s (k + 1)
              rw [HR.out, hr, findL, if_neg (by omega), if_pos (by omega)]
            have hz : zeroSpot.get v = 0 := by rcases hv with rfl | rfl | rfl <;> rfl
            have HZ0 := hideO hz
            clear HR hg1 hg2 hz
            go_wp2_with fail
            refine (HSX.out u hu _).mono ?_
            rintro e w2 ⟨rfl, hb5⟩
            rw [HY.out]
            obtain ⟨c0, c1, c2, c3⟩ := HX.out.below hb5 (by have := hBw.size; omega)
            have hbw2 := hb5.size
            have hgz2 := hBw.size
            have hX2 := hideO (HX.out.below hb5 (by omega))
            go_wp2_with fail
            refine (HSX.out v hv _).mono ?_
            rintro e w3 ⟨rfl, hb6⟩
            rw [HZ.out]
            go_wp2
            go_ret2
            exact ⟨by rw [HE.out]; dsimp only; rw [HZ0.out]; rfl, hB.trans ((hb5.mono hB.size).trans (hb6.mono (by have := hB.size; omega)))⟩
          · have HG1 := hideO hg1
            have HG2 := hideO hg2
            clear hg1 hg2
            go_wp2_with fail
            refine (HSX.out u hu _).mono ?_
            rintro e w2 ⟨rfl, hb5⟩
            rw [HY.out]
            obtain ⟨c0, c1, c2, c3⟩ := HX.out.below hb5 (by have := hBw.size; omega)
            have hbw2 := hb5.size
            have hgz2 := hBw.size
            go_wp2_with fail
            refine (HSX.out v hv _).mono ?_
            rintro e w3 ⟨rfl, hb6⟩
            rw [HZ.out]
            go_wp2
            go_roundw
            case rel => exact ⟨k + 1, by go_num, by omega, by rw [HG1.out], by rw [HG2.out], by rw [HG1.out]; omega, HR, hB.trans ((hb5.mono hB.size).trans (hb6.mono (by have := hB.size; omega))), hBw.trans ((hb5.mono hBw.size).trans (hb6.mono (by omega)))⟩
            case measure => simp [intOf]; omega
      · obtain rfl : k = (signs s).length := by omega
        by_cases he : (spotAt s (signs s).length).get u = loc
        · have HR : Hid (findL u loc (restS s 0) = (spotAt s (signs s).length, 0)) := by
            show _ = _
            rw [HF.out, restS_end, findL, if_pos he]
          have te : ((spotAt s (signs s).length).get u == loc) = true := beq_iff_eq.2 he
          clear HF
          generalize (spotAt s (signs s).length).get u = hh at *
          go_wp2
          go_ret2
          exact ⟨by rw [HR.out]; rfl, hB⟩
        · have te : ((spotAt s (signs s).length).get u == loc) = false := beq_eq_false_iff_ne.2 he
          have HE : Hid (findL u loc (restS s 0) = (zeroSpot, 1)) := by
            show _ = _
            rw [HF.out, restS_end, findL, if_neg he, if_neg hle, findL]
          have hz : zeroSpot.get v = 0 := by rcases hv with rfl | rfl | rfl <;> rfl
          have HZ0 := hideO hz
          clear HF hz
          generalize (spotAt s (signs s).length).get u = hh at *
          go_wp2
          go_ret2
          exact ⟨by rw [HE.out]; dsimp only; rw [HZ0.out]; rfl, hB⟩
end Go.Proofs.YtlkgnheccoodpaaGreatDoor
namespace Go.Proofs.YtlkgnheccoodpaaGreatDoor
open Go.RowKit

set_option maxHeartbeats 400000 in
theorem rcountR (s : ByteArray) (hs : s.size ≤ 1048576) (w : World) :
    Calls Tryz.prog 40 #[.string s] w fun e w' => e = .returned (.int .i64 (signs s).length) ∧ Below w.heap.size w w' := by
  go_enter Tryz.func40, Tryz.ntmps40
  go_wp2_with fail
  refine (rsigns_any s hs _).mono ?_
  rintro e w1 ⟨lv, rfl, hown, hB1⟩
  obtain ⟨oa, cap, rfl, hcell⟩ := rows_at hown
  clear hcell hown
  go_wp2
  go_ret
  exact ⟨rfl, hB1⟩
set_option maxRecDepth 100000 in
set_option maxHeartbeats 400000 in
theorem rallR (s : ByteArray) (hs : s.size ≤ 1048576) (w : World) :
    Calls Tryz.prog 106 #[.string s, .int .i64 2] w fun e w' => e = .returned (.int .i64 (signs s).length) ∧ Below w.heap.size w w' := by
  go_enter Tryz.func106, Tryz.ntmps106
  go_wp2_with fail
  refine (rcountR s hs _).mono ?_
  rintro e w1 ⟨rfl, b1⟩
  go_wp2
  go_ret
  exact ⟨rfl, b1⟩
theorem find_spot (s : ByteArray) (k : Nat) (hk : k ≤ (signs s).length) : findS s 2 (k : Int) = (spotAt s k, 0) := by
  unfold findS
  rw [if_neg (by omega)]
  have h := findL_mem 2 (spots_rise s) (spotAt_mem s k)
  have hc : (spotAt s k).get 2 = (k : Int) := spotAt_c s k hk
  rw [hc] at h
  exact h
set_option maxRecDepth 100000 in
set_option maxHeartbeats 1000000 in
theorem rcutR (s : ByteArray) (hs : s.size ≤ 1048576) (fr tt A B : Nat) (h1 : fr ≤ tt) (h2 : tt ≤ (signs s).length) (hA : (spotAt s fr).b = A) (hB : (spotAt s tt).b = B) (hAB : A ≤ B) (hBs : B ≤ s.size) (w : World) :
    Calls Tryz.prog 84 #[.string s, .int .i64 2, .int .i64 fr, .int .i64 tt] w fun e w' => e = .returned (.tuple #[.string (s.extract A B), .int .i64 0]) ∧ Below w.heap.size w w' := by
  have HA := hideO (fun W => rallR s hs W)
  have HP := hideO (fun W => rplace_any s hs fr 2 1 (.inr (.inl rfl)) (.inl rfl) W)
  have HQ := hideO (fun W => rplace_any s hs tt 2 1 (.inr (.inl rfl)) (.inl rfl) W)
  rw [find_spot s fr (by omega), show ((spotAt s fr, (0 : Int)).1).get 1 = (spotAt s fr).b from rfl, hA] at HP
  rw [find_spot s tt h2, show ((spotAt s tt, (0 : Int)).1).get 1 = (spotAt s tt).b from rfl, hB] at HQ
  have g1 : (fr : Int) ≤ ((signs s).length : Int) := by omega
  have g2 : (tt : Int) ≤ ((signs s).length : Int) := by omega
  have g3 : (fr : Int) ≤ (tt : Int) := by omega
  generalize (signs s).length = n at *
  clear hA hB
  go_enter Tryz.func84, Tryz.ntmps84
  go_wp2_with fail
  refine (runit_yes 2 _ (.inr (.inl rfl))).mono ?_
  rintro e w' ⟨rfl, rfl⟩
  go_wp2_with fail
  refine (HA.out _).mono ?_
  rintro e w1 ⟨rfl, b1⟩
  have s1 := b1.size
  go_wp2_with fail
  refine (HP.out _).mono ?_
  rintro e w2 ⟨rfl, b2⟩
  have s2 := b2.size
  go_wp2_with fail
  refine (HQ.out _).mono ?_
  rintro e w3 ⟨rfl, b3⟩
  go_wp2
  go_ret2
  exact ⟨rfl, (b1.trans (b2.mono s1)).trans (b3.mono (by omega))⟩
end Go.Proofs.YtlkgnheccoodpaaGreatDoor
namespace Go.Proofs.YtlkgnheccoodpaaGreatDoor
open Go.RowKit Go.Shelf
def cloneRen : Ren := ⟨fun x => if x = 25 then 38 else x, fun x => if x = 37 then 122 else if x = 47 then 123 else x, fun x => x⟩
set_option maxRecDepth 100000 in
theorem cloneLays : LaysPu.n25 Tryz.prog cloneRen := { mixed := by kernel_rfl, f25 := by kernel_rfl, t0 := by kernel_rfl, a0 := fun _ => by kernel_rfl, z0 := fun _ => by kernel_rfl, v0 := fun _ => by kernel_rfl, i0 := by kernel_rfl, t3 := by kernel_rfl, a3 := fun _ => by kernel_rfl, z3 := fun _ => by kernel_rfl, v3 := fun _ => by kernel_rfl, i3 := by kernel_rfl, t4 := by kernel_rfl, a4 := fun _ => by kernel_rfl, z4 := fun _ => by kernel_rfl, v4 := fun _ => by kernel_rfl, i4 := by kernel_rfl, t5 := by kernel_rfl, a5 := fun _ => by kernel_rfl, z5 := fun _ => by kernel_rfl, v5 := fun _ => by kernel_rfl, i5 := by kernel_rfl, t9 := by kernel_rfl, a9 := fun _ => by kernel_rfl, z9 := fun _ => by kernel_rfl, v9 := fun _ => by kernel_rfl, i9 := by kernel_rfl, t37 := by kernel_rfl, a37 := fun _ => by kernel_rfl, z37 := fun _ => by kernel_rfl, v37 := fun _ => by kernel_rfl, i37 := by kernel_rfl, t47 := by kernel_rfl, a47 := fun _ => by kernel_rfl, z47 := fun _ => by kernel_rfl, v47 := fun _ => by kernel_rfl, i47 := by kernel_rfl }
theorem clone_lo (s : ByteArray) (w : World) (hlim : s.size ≤ 140737488355328) :
    Calls Tryz.prog 38 #[.string s] w fun e w' => e = .returned (.string s) ∧ Below w.heap.size w w' :=
  AnyPu.stringslite_Clone cloneLays s w (by omega)

set_option maxRecDepth 100000 in
set_option maxHeartbeats 400000 in
theorem clone_any (s : ByteArray) (w : World) (hlim : s.size ≤ 140737488355328) :
    Calls Tryz.prog 16 #[.string s] w fun e w' => e = .returned (.string s) ∧ Below w.heap.size w w' := by
  go_enter Tryz.func16, Tryz.ntmps16
  go_wp2_with (go_at_call 38; refine (clone_lo _ _ hlim).mono ?_; rintro e w' ⟨rfl, hB⟩)
  go_ret
  exact ⟨rfl, by assumption⟩
end Go.Proofs.YtlkgnheccoodpaaGreatDoor
namespace Go.Proofs.YtlkgnheccoodpaaGreatDoor
open Go.RowKit

set_option maxRecDepth 100000 in
set_option maxHeartbeats 1000000 in
theorem cutS_any (s : ByteArray) (hs : s.size ≤ 140737488355328) (fr tt A B : Nat) (h1 : fr ≤ tt) (h2 : tt ≤ (signs s).length) (hA : (spotAt s fr).b = A) (hB : (spotAt s tt).b = B) (hAB : A ≤ B) (hBs : B ≤ s.size) (w : World) :
    Calls Tryz.prog 97 #[.string s, .int .i64 2, .int .i64 (fr : Nat), .int .i64 (tt : Nat)] w fun e w' => e = .returned (.tuple #[.string (s.extract A B), .int .i64 0]) ∧ Below w.heap.size w w' := by
  have HP := hideO (fun W => find_any s hs 2 fr (.inr (.inl rfl)) W)
  have HQ := hideO (fun W => find_any s hs 2 tt (.inr (.inl rfl)) W)
  rw [find_spot s fr (by omega)] at HP
  rw [find_spot s tt h2] at HQ
  obtain ⟨⟨pb, pc, pd⟩, hp⟩ : ∃ p, spotAt s fr = p := ⟨_, rfl⟩
  obtain ⟨⟨qb, qc, qd⟩, hq⟩ : ∃ q, spotAt s tt = q := ⟨_, rfl⟩
  rw [hp] at HP hA
  rw [hq] at HQ hB
  have hA : pb = (A : Int) := hA
  have hB : qb = (B : Int) := hB
  subst hA hB
  clear hp hq
  simp only [Spot.val] at HP HQ
  have hto : ¬ (tt : Int) < (fr : Int) := by omega
  have hsz : (s.extract A B).size ≤ 140737488355328 := by rw [ByteArray.size_extract]; omega
  have HCl := hideO (fun W => clone_any (s.extract A B) W hsz)
  clear hsz
  go_enter Tryz.func97, Tryz.ntmps97
  go_wp2_with fail
  refine (isUnit_yes 2 _ (.inr (.inl rfl))).mono ?_
  rintro e w' ⟨rfl, rfl⟩
  go_wp2_with fail
  refine (HP.out _).mono ?_
  rintro e w1 ⟨rfl, b1⟩
  have s1 := b1.size
  go_wp2_with fail
  refine (HQ.out _).mono ?_
  rintro e w2 ⟨rfl, b2⟩
  have s2 := b2.size
  rw [World.size_alloc] at s2
  have c1 : w2.cell? ⟨w1.heap.size, 1, none⟩ = some (.int .i64 A) := (b2.cell (p := ⟨w1.heap.size, 1, none⟩) (by simp)).trans (by simp)
  have b12 := ((b1.alloc s1 (.cells #[.int .i64 0, .int .i64 A, .int .i64 pc, .int .i64 pd] 168)).trans (b2.mono (by simp; omega))).alloc (by omega) (.cells #[.int .i64 0, .int .i64 B, .int .i64 qc, .int .i64 qd] 168)
  have c2 := (Below.heap_alloc w2 (.cells #[.int .i64 0, .int .i64 B, .int .i64 qc, .int .i64 qd] 168) w1.heap.size (by omega))
  have c3 : (w2.alloc (.cells #[.int .i64 0, .int .i64 B, .int .i64 qc, .int .i64 qd] 168)).cell? ⟨w1.heap.size, 1, none⟩ = some (.int .i64 A) := (World.cell?_of_block c2).trans c1
  clear c2
  have hl1 : (A : Int) ≤ (B : Int) := by omega
  have hl2 : (B : Int) ≤ (s.size : Int) := by omega
  go_wp2_with fail
  refine (HCl.out _).mono ?_
  rintro e w3 ⟨rfl, b3⟩
  go_wp2
  go_ret2
  exact ⟨rfl, b12.trans (b3.mono (by simp; omega))⟩
end Go.Proofs.YtlkgnheccoodpaaGreatDoor
namespace Go.Proofs.YtlkgnheccoodpaaGreatDoor
open Go.Lib
theorem tab_lead (b : Nat) (h1 : 194 ≤ b) (h2 : b ≤ 244) : ((Lib.firstT b % 8 : Nat) : Int) = longN b ∧ ((Lib.accLo (Lib.firstT b / 16) : Nat) : Int) = secLo b ∧ ((Lib.accHi (Lib.firstT b / 16) : Nat) : Int) = secHi b := by
  have key : ∀ f : Nat, Lib.firstT b = f → ((f % 8 : Nat) : Int) = longN b → ((Lib.accLo (f / 16) : Nat) : Int) = secLo b → ((Lib.accHi (f / 16) : Nat) : Int) = secHi b → ((Lib.firstT b % 8 : Nat) : Int) = longN b ∧ ((Lib.accLo (Lib.firstT b / 16) : Nat) : Int) = secLo b ∧ ((Lib.accHi (Lib.firstT b / 16) : Nat) : Int) = secHi b := by
    rintro f rfl a c d
    exact ⟨a, c, d⟩
  unfold longN secLo secHi at *
  rcases (show b < 224 ∨ b = 224 ∨ (225 ≤ b ∧ b < 237) ∨ b = 237 ∨ (238 ≤ b ∧ b < 240) ∨ b = 240 ∨ (241 ≤ b ∧ b < 244) ∨ b = 244 by omega) with h | rfl | h | rfl | h | rfl | h | rfl
  · refine key 2 (by unfold Lib.firstT; rw [if_neg (by omega), if_neg (by omega), if_pos h]) ?_ ?_ ?_
    · rw [if_neg (by omega), if_pos (by omega)]; rfl
    · rw [if_neg (by omega), if_neg (by omega)]; rfl
    · rw [if_neg (by omega), if_neg (by omega)]; rfl
  · exact key 19 rfl rfl rfl rfl
  · refine key 3 (by unfold Lib.firstT; rw [if_neg (by omega), if_neg (by omega), if_neg (by omega), if_neg (by omega), if_pos (by omega)]) ?_ ?_ ?_
    · rw [if_neg (by omega), if_neg (by omega), if_pos (by omega)]; rfl
    · rw [if_neg (by omega), if_neg (by omega)]; rfl
    · rw [if_neg (by omega), if_neg (by omega)]; rfl
  · exact key 35 rfl rfl rfl rfl
  · refine key 3 (by unfold Lib.firstT; rw [if_neg (by omega), if_neg (by omega), if_neg (by omega), if_neg (by omega), if_neg (by omega), if_neg (by omega), if_pos (by omega)]) ?_ ?_ ?_
    · rw [if_neg (by omega), if_neg (by omega), if_pos (by omega)]; rfl
    · rw [if_neg (by omega), if_neg (by omega)]; rfl
    · rw [if_neg (by omega), if_neg (by omega)]; rfl
  · exact key 52 rfl rfl rfl rfl
  · refine key 4 (by unfold Lib.firstT; rw [if_neg (by omega), if_neg (by omega), if_neg (by omega), if_neg (by omega), if_neg (by omega), if_neg (by omega), if_neg (by omega), if_neg (by omega), if_pos (by omega)]) ?_ ?_ ?_
    · rw [if_neg (by omega), if_neg (by omega), if_neg (by omega), if_pos (by omega)]; rfl
    · rw [if_neg (by omega), if_neg (by omega)]; rfl
    · rw [if_neg (by omega), if_neg (by omega)]; rfl
  · exact key 68 rfl rfl rfl rfl
theorem tab_none (b : Nat) (h : b < 194 ∨ 244 < b) : Lib.firstT b % 8 ≤ 1 := by
  unfold Lib.firstT
  repeat' split
  all_goals omega
theorem acc_in (i : Nat) (h : i ≤ 4) : 128 ≤ Lib.accLo i ∧ Lib.accHi i ≤ 191 := by
  unfold Lib.accLo Lib.accHi
  repeat' split
  all_goals omega
theorem open_bytes (t : ByteArray) (h0 : 0 < t.size) (h : fullB t = false) : (194 ≤ (t.get! 0).toNat ∧ (t.get! 0).toNat ≤ 244) ∧ (1 < t.size → 128 ≤ (t.get! 1).toNat ∧ (t.get! 1).toNat ≤ 191) ∧ (2 < t.size → 128 ≤ (t.get! 2).toNat ∧ (t.get! 2).toNat ≤ 191) ∧ t.size ≤ 3 := by
  unfold fullB at h
  rw [if_neg (by omega)] at h
  split at h
  · simp at h
  · rename_i h1
    split at h
    · simp at h
    · rename_i h2
      split at h
      · simp at h
      · rename_i h3
        have hl : 194 ≤ (t.get! 0).toNat ∧ (t.get! 0).toNat ≤ 244 := by
          by_cases c : (t.get! 0).toNat < 194 ∨ 244 < (t.get! 0).toNat
          · have := tab_none _ c; omega
          · omega
        have hb : Lib.firstT (t.get! 0).toNat / 16 ≤ 4 := by
          generalize (t.get! 0).toNat = b at *
          unfold Lib.firstT
          repeat' split
          all_goals omega
        have hs : Lib.firstT (t.get! 0).toNat % 8 ≤ 4 := by
          generalize (t.get! 0).toNat = b at *
          unfold Lib.firstT
          repeat' split
          all_goals omega
        have ha := acc_in _ hb
        exact ⟨hl, fun h => by omega, fun h => by omega, by omega⟩
theorem front_open (s : ByteArray) (p e : Nat) (hp : p < s.size) (hb : badAt s p = false) (h1 : p < e) (h2 : e < p + (Utf8.decode s p).2) : fullB (s.extract p e) = false := by
  have hd := sgn_dec s p hp
  have ho := one_dec s p hp
  rw [hb] at ho
  simp only [Bool.false_eq_true, if_false] at ho
  have hz : (s.extract p e).size = e - p := by rw [ByteArray.size_extract]; omega
  have k0 := (s.get! p).toNat_lt
  unfold oneR at ho
  dsimp only at ho
  split at ho
  · have := congrArg OneR.bad ho; simp [badR] at this
  split at ho
  · have := congrArg OneR.len ho; simp at this; omega
  split at ho
  · have := congrArg OneR.bad ho; simp [badR] at this
  rename_i n0 n1 hc
  split at ho
  case isFalse => have := congrArg OneR.bad ho; simp [badR] at this
  rename_i hg
  have hlen := congrArg OneR.len ho
  simp only at hlen
  have hlead : 194 ≤ (s.get! p).toNat ∧ (s.get! p).toNat ≤ 244 := by
    have hx := n0
    have hy := n1
    unfold longN at hx hy
    repeat' split at hx
    all_goals repeat' split at hy
    all_goals omega
  obtain ⟨t1, t2, t3⟩ := tab_lead _ hlead.1 hlead.2
  have hc2 : p + 1 < s.size ∧ secondB ((s.get! p).toNat : Int) ((s.get! (p + 1)).toNat : Int) = true := by
    by_cases q : p + 1 < s.size ∧ secondB ((s.get! p).toNat : Int) ((s.get! (p + 1)).toNat : Int) = true
    · exact q
    · exact absurd q hc
  have hsec := hc2.2
  unfold secondB at hsec
  rw [Bool.and_eq_true, decide_eq_true_eq, decide_eq_true_eq] at hsec
  have g0 : (s.extract p e).get! 0 = s.get! p := get_part s p e 0 (by omega)
  unfold fullB
  rw [hz, g0, if_neg (by omega), if_neg (by omega), if_neg, if_neg]
  · rintro ⟨h3, h4⟩
    rw [get_part s p e 2 (by omega)] at h4
    unfold goOn at hg
    rw [Bool.and_eq_true, decide_eq_true_eq, decide_eq_true_eq] at hg
    rcases hg.1 with h | h
    · omega
    · unfold moreB at h
      rw [Bool.and_eq_true, Bool.and_eq_true, decide_eq_true_eq, decide_eq_true_eq, decide_eq_true_eq] at h
      omega
  · rintro ⟨h3, h4⟩
    rw [get_part s p e 1 (by omega)] at h4
    omega
theorem good_more (s : ByteArray) (p q : Nat) (_hp : p < s.size) (hb : badAt s p = false) (h1 : p < q) (h2 : q < p + (Utf8.decode s p).2) : 128 ≤ (s.get! q).toNat ∧ (s.get! q).toNat ≤ 191 := by
  have hd := Lib.decode_at s p
  unfold badAt at hb
  have hb := of_decide_eq_false hb
  have k0 := (s.get! p).toNat_lt
  have k1 := (s.get! (p + 1)).toNat_lt
  have k2 := (s.get! (p + 2)).toNat_lt
  have k3 := (s.get! (p + 3)).toNat_lt
  rcases Lib.decodeN_shape (s.size - p) (s.get! p).toNat (s.get! (p + 1)).toNat (s.get! (p + 2)).toNat (s.get! (p + 3)).toNat with ⟨c, e⟩ | ⟨c1, c2, c3, cv, e⟩ | ⟨c1, c2, c3, c4, cv, cs, e⟩ | ⟨c1, c2, c3, c4, c5, cv, cw, e⟩ | e
  · rw [hd, e] at h2; simp at h2; omega
  · rw [hd, e] at h2
    simp at h2
    obtain rfl : q = p + 1 := by omega
    omega
  · rw [hd, e] at h2
    simp at h2
    rcases (show q = p + 1 ∨ q = p + 2 by omega) with rfl | rfl <;> omega
  · rw [hd, e] at h2
    simp at h2
    rcases (show q = p + 1 ∨ q = p + 2 ∨ q = p + 3 by omega) with rfl | rfl | rfl <;> omega
  · exact absurd (by rw [hd, e]; exact ⟨rfl, rfl⟩) hb
theorem good_of_wide (s : ByteArray) (p : Nat) (h : 2 ≤ (Utf8.decode s p).2) : badAt s p = false := by
  unfold badAt
  refine decide_eq_false (fun e => ?_)
  omega
theorem lies_at {s : ByteArray} {q : Nat} : ∀ {l : List Sg} {p e : Nat}, Lies s p l e → p ≤ q → q < e → ∃ k, ∃ f g, l = f ++ sgn s k :: g ∧ Lies s p f k ∧ k ≤ q ∧ q < k + (Utf8.decode s k).2 ∧ k < s.size ∧ Lies s (k + (Utf8.decode s k).2) g e
  | [], p, e, h, h1, h2 => by simp only [Lies] at h; omega
  | x :: l, p, e, h, h1, h2 => by
    obtain ⟨a1, a2, a3⟩ := h
    have hd := (sgn_dec s p a1).2.1
    rw [a2, hd] at a3
    by_cases c : q < p + (Utf8.decode s p).2
    · exact ⟨p, [], l, by rw [a2]; rfl, rfl, h1, c, a1, a3⟩
    · obtain ⟨k, f, g, e1, e2, e3, e4, e5, e6⟩ := lies_at a3 (by omega) h2
      refine ⟨k, x :: f, g, by rw [e1]; rfl, ⟨a1, a2, ?_⟩, e3, e4, e5, e6⟩
      rw [a2, hd]
      exact e2
theorem lies_lead {s : ByteArray} {q : Nat} {l : List Sg} {p e : Nat} (h : Lies s p l e) (h1 : p ≤ q) (h2 : q < e) (hl : ¬ (128 ≤ (s.get! q).toNat ∧ (s.get! q).toNat ≤ 191)) : ∃ f g, l = f ++ g ∧ Lies s p f q ∧ Lies s q g e := by
  obtain ⟨k, f, g, e1, e2, e3, e4, e5, e6⟩ := lies_at h h1 h2
  by_cases c : k = q
  · subst c
    refine ⟨f, sgn s k :: g, e1, e2, e5, rfl, ?_⟩
    rw [(sgn_dec s k e5).2.1]
    exact e6
  · exact absurd (good_more s k q e5 (good_of_wide s k (by omega)) (by omega) e4) hl

theorem get_app_l (a b : ByteArray) (i : Nat) (h : i < a.size) : (a ++ b).get! i = a.get! i := by
  rw [← Lib.getD_get!', ← Lib.getD_get!', ByteArray.data_append, Array.toList_append]
  rw [Lib.size_eq] at h
  simp only [List.getD_eq_getElem?_getD, List.getElem?_append_left h]
theorem get_app_r (a b : ByteArray) (i : Nat) (h : a.size ≤ i) : (a ++ b).get! i = b.get! (i - a.size) := by
  rw [← Lib.getD_get!', ← Lib.getD_get!', ByteArray.data_append, Array.toList_append]
  rw [Lib.size_eq] at h ⊢
  simp only [List.getD_eq_getElem?_getD, List.getElem?_append_right h]
theorem decode_same (s t : ByteArray) (p q : Nat) (hz : ∀ i, i ≤ 3 → (p + i < s.size ↔ q + i < t.size)) (hg : ∀ i, i ≤ 3 → p + i < s.size → s.get! (p + i) = t.get! (q + i)) (hp : p < s.size) : Utf8.decode s p = Utf8.decode t q := by
  rw [Lib.decode_at, Lib.decode_at]
  have g0 := hg 0 (by omega) hp
  have z1 := hz 1 (by omega)
  have z2 := hz 2 (by omega)
  have z3 := hz 3 (by omega)
  have z0 := hz 0 (by omega)
  simp only [Nat.add_zero] at g0 z0
  rw [g0]
  have a1 : 1 < s.size - p → (s.get! (p + 1)) = t.get! (q + 1) := fun h => hg 1 (by omega) (by omega)
  have a2 : 2 < s.size - p → (s.get! (p + 2)) = t.get! (q + 2) := fun h => hg 2 (by omega) (by omega)
  have a3 : 3 < s.size - p → (s.get! (p + 3)) = t.get! (q + 3) := fun h => hg 3 (by omega) (by omega)
  by_cases hc : s.size - p ≤ t.size - q
  · by_cases e : 3 < s.size - p
    · rw [a1 (by omega), a2 (by omega), a3 (by omega)]
      unfold Lib.decodeN
      simp only [show (1 < s.size - p) ↔ (1 < t.size - q) by omega, show (2 < s.size - p) ↔ (2 < t.size - q) by omega, show (3 < s.size - p) ↔ (3 < t.size - q) by omega]
    · obtain e' : s.size - p = t.size - q := by omega
      rw [e'] at a1 a2 a3 ⊢
      exact cutU _ _ _ _ _ _ _ _ _ (by omega) (Nat.le_refl _) (fun h => by rw [a1 h]) (fun h => by rw [a2 h]) (fun h => by rw [a3 h]) (by have := (sgn_dec t q (by omega)).2.2.2.2.2; rw [Lib.decode_at] at this; omega)
  · have e : 3 < s.size - p := by omega
    rw [a1 (by omega), a2 (by omega), a3 (by omega)]
    unfold Lib.decodeN
    simp only [show (1 < s.size - p) ↔ (1 < t.size - q) by omega, show (2 < s.size - p) ↔ (2 < t.size - q) by omega, show (3 < s.size - p) ↔ (3 < t.size - q) by omega]
theorem openN_at (a : ByteArray) : ∀ n, n ≤ a.size → (openN a n).size = 0 ∨ ∃ k, 1 ≤ k ∧ k ≤ n ∧ openN a n = a.extract (a.size - k) a.size ∧ fullB (a.extract (a.size - k) a.size) = false
  | 0, _ => by simp [openN]
  | n + 1, h => by
    unfold openN
    split
    · rcases openN_at a n (by omega) with e | ⟨k, h1, h2, h3⟩
      · exact .inl e
      · exact .inr ⟨k, h1, by omega, h3⟩
    · rename_i hf
      exact .inr ⟨n + 1, by omega, Nat.le_refl _, rfl, by simpa using hf⟩
theorem openN_long (a : ByteArray) : ∀ n k, n ≤ a.size → 1 ≤ k → k ≤ n → fullB (a.extract (a.size - k) a.size) = false → k ≤ (openN a n).size
  | 0, k, h, h1, h2, _ => by omega
  | n + 1, k, h, h1, h2, hf => by
    unfold openN
    split
    · rename_i hq
      refine openN_long a n k (by omega) h1 ?_ hf
      by_cases e : k = n + 1
      · subst e; rw [hf] at hq; simp at hq
      · omega
    · rw [ByteArray.size_extract]; omega
theorem firstL_cons {t : ByteArray} {x : Sg} {r : List Sg} (h : signs t = x :: r) : firstL t = x.len := by unfold firstL; rw [h]
theorem firstL_at (t : ByteArray) (h : 0 < t.size) : firstL t = (Utf8.decode t 0).2 := by
  obtain ⟨n, hn⟩ : ∃ n, t.size = n + 1 := ⟨t.size - 1, by omega⟩
  have e : signs t = sgn t 0 :: sgns t n (0 + (Utf8.decode t 0).2) := by unfold signs; rw [hn, sgns, if_pos h]
  rw [firstL_cons e]
  exact (sgn_dec t 0 h).2.1
theorem ba_ext {a b : ByteArray} (h : a.data.toList = b.data.toList) : a = b := by
  cases a; cases b
  simp only [Array.toList_inj] at h
  rw [h]
theorem meltsB_open (a b : ByteArray) : meltsB a b = true ↔ 0 < (openE a).size ∧ (openE a).size < firstL (openE a ++ b.extract 0 (min b.size 4)) := by
  unfold meltsB
  rw [Bool.and_eq_true, decide_eq_true_eq, Lib.toList_data]
  have : (!(openE a).data.toList.isEmpty) = true ↔ 0 < (openE a).size := by
    rw [Lib.size_eq]
    cases (openE a).data.toList <;> simp
  rw [this]
theorem seam_decode (a b : ByteArray) (k : Nat) (h1 : 1 ≤ k) (h2 : k ≤ 3) (h3 : k ≤ a.size) : Utf8.decode (a.extract (a.size - k) a.size ++ b.extract 0 (min b.size 4)) 0 = Utf8.decode (a ++ b) (a.size - k) := by
  have hz : (a.extract (a.size - k) a.size).size = k := by rw [ByteArray.size_extract]; omega
  have hy : (b.extract 0 (min b.size 4)).size = min b.size 4 := by rw [ByteArray.size_extract]; omega
  refine decode_same _ _ _ _ (fun i hi => ?_) (fun i hi hs => ?_) ?_
  · rw [ByteArray.size_append, ByteArray.size_append, hz, hy]
    omega
  · rw [ByteArray.size_append, hz, hy] at hs
    by_cases c : i < k
    · rw [get_app_l _ _ _ (by omega), get_app_l _ _ _ (by omega), get_part _ _ _ _ (by omega)]
      congr 1
      omega
    · rw [get_app_r _ _ _ (by omega), get_app_r _ _ _ (by omega), hz, get_part _ _ _ _ (by omega)]
      congr 1
      omega
  · rw [ByteArray.size_append, hz]; omega
theorem melts_iff (a b : ByteArray) : meltsB a b = true ↔ ¬ ∃ l, Lies (a ++ b) 0 l a.size := by
  have hsz : (a ++ b).size = a.size + b.size := ByteArray.size_append
  rw [meltsB_open]
  constructor
  · rintro ⟨h0, h1⟩ ⟨l, hl⟩
    rcases openN_at a (min a.size 3) (by omega) with e | ⟨k, k1, k2, k3, k4⟩
    · unfold openE at h0; omega
    · have hk : (a.extract (a.size - k) a.size).size = k := by rw [ByteArray.size_extract]; omega
      have he : openE a = a.extract (a.size - k) a.size := k3
      rw [he, hk, firstL_at _ (by rw [ByteArray.size_append, hk]; omega), seam_decode a b k k1 (by omega) (by omega)] at h1
      obtain ⟨o1, o2, o3, o4⟩ := open_bytes _ (by omega) k4
      have g0 : (a ++ b).get! (a.size - k) = (a.extract (a.size - k) a.size).get! 0 := by
        rw [get_app_l _ _ _ (by omega), get_part _ _ _ _ (by omega)]
        rfl
      rw [← g0] at o1
      obtain ⟨f, g, _, _, hg⟩ := lies_lead hl (q := a.size - k) (by omega) (by omega) (by omega)
      cases g with
      | nil => simp only [Lies] at hg; omega
      | cons x g =>
        obtain ⟨x1, x2, x3⟩ := hg
        have := lies_le x3
        rw [x2, (sgn_dec _ _ x1).2.1] at this
        omega
  · intro hn
    by_cases ha : a.size = 0
    · exact absurd ⟨[], show 0 = a.size by omega⟩ hn
    by_cases hb : b.size = 0
    · exact absurd ⟨signs (a ++ b), by have := signs_lies (a ++ b); rw [hsz, hb] at this; exact this⟩ hn
    obtain ⟨p, f, g, e1, e2, e3, e4, e5, e6⟩ := lies_at (signs_lies (a ++ b)) (q := a.size) (by omega) (by omega)
    have hp : p < a.size := by
      by_cases c : p = a.size
      · subst c; exact absurd ⟨f, e2⟩ hn
      · omega
    have hgood := good_of_wide (a ++ b) p (by omega)
    have hw4 : (Utf8.decode (a ++ b) p).2 ≤ 4 := by
      have := (sgn (a ++ b) p).small
      rw [(sgn_dec _ p e5).2.1] at this
      exact this
    have hopen := front_open (a ++ b) p a.size e5 hgood hp e4
    have hx : (a ++ b).extract p a.size = a.extract (a.size - (a.size - p)) a.size := by
      refine ba_ext ?_
      rw [Lib.extract_data, Lib.extract_data, ByteArray.data_append, Array.toList_append, List.drop_append_of_le_length (by rw [← Lib.size_eq]; omega), List.take_append_of_le_length (by rw [List.length_drop, ← Lib.size_eq]; omega), show a.size - (a.size - p) = p by omega]
    rw [hx] at hopen
    have hlong := openN_long a (min a.size 3) (a.size - p) (by omega) (by omega) (by omega) hopen
    have hE : (openE a).size = a.size - p ∧ openE a = a.extract (a.size - (a.size - p)) a.size := by
      rcases openN_at a (min a.size 3) (by omega) with e | ⟨k, k1, k2, k3, k4⟩
      · omega
      · have hk : (a.extract (a.size - k) a.size).size = k := by rw [ByteArray.size_extract]; omega
        have he : openE a = a.extract (a.size - k) a.size := k3
        have : k = a.size - p := by
          have hkk : a.size - p ≤ k := by rw [← hk, ← k3]; exact hlong
          by_cases c : k = a.size - p
          · exact c
          · exfalso
            obtain ⟨o1, o2, o3, o4⟩ := open_bytes _ (by omega) k4
            have hfirst : 194 ≤ ((a ++ b).get! p).toNat := by
              have := (open_bytes _ (by rw [ByteArray.size_extract]; omega) hopen).1.1
              rw [get_part _ _ _ _ (by omega), ← get_app_l a b _ (by omega), show a.size - (a.size - p) + 0 = p by omega] at this
              exact this
            have g : ∀ i, i < k → (a.extract (a.size - k) a.size).get! i = (a ++ b).get! (a.size - k + i) := fun i hi => by
              rw [get_part _ _ _ _ (by omega), ← get_app_l a b _ (by omega)]
            rw [hk] at o2 o3 o4
            rcases (show p = a.size - k + 1 ∨ p = a.size - k + 2 by omega) with e | e
            · have := o2 (by omega)
              rw [g 1 (by omega), ← e] at this
              omega
            · have := o3 (by omega)
              rw [g 2 (by omega), ← e] at this
              omega
        subst this
        exact ⟨by rw [he, hk], he⟩
    refine ⟨by omega, ?_⟩
    rw [hE.1, hE.2]
    have hk : (a.extract (a.size - (a.size - p)) a.size).size = a.size - p := by rw [ByteArray.size_extract]; omega
    rw [firstL_at _ (by rw [ByteArray.size_append, hk]; omega), seam_decode a b (a.size - p) (by omega) (by omega) (by omega), show a.size - (a.size - p) = p by omega]
    omega
end Go.Proofs.YtlkgnheccoodpaaGreatDoor
namespace Go.Proofs.YtlkgnheccoodpaaGreatDoor
open Go.RowKit Go.Shelf
attribute [local go_sem] Oper.semAt_some

end Go.Proofs.YtlkgnheccoodpaaGreatDoor
namespace Go.Proofs.YtlkgnheccoodpaaGreatDoor
open Go.RowKit
def SAt (W : World) (g n : Nat) (x : Sg) : Prop := W.cell? ⟨g, n * 4, none⟩ = some (.int .i64 x.loc) ∧ W.cell? ⟨g, n * 4 + 1, none⟩ = some (.int .i64 x.len) ∧ W.cell? ⟨g, n * 4 + 2, none⟩ = some (.int .i32 x.rune) ∧ W.cell? ⟨g, n * 4 + 3, none⟩ = some (.bool x.bad)
theorem SAt.below {W W' : World} {g n m : Nat} {x : Sg} (h : SAt W g n x) (hb : Below m W W') (hg : g < m) : SAt W' g n x :=
  ⟨(hb.cell (p := ⟨g, n * 4, none⟩) hg).trans h.1, (hb.cell (p := ⟨g, n * 4 + 1, none⟩) hg).trans h.2.1, (hb.cell (p := ⟨g, n * 4 + 2, none⟩) hg).trans h.2.2.1, (hb.cell (p := ⟨g, n * 4 + 3, none⟩) hg).trans h.2.2.2⟩
theorem lies_mem {s : ByteArray} {x : Sg} : ∀ {l : List Sg} {p e : Nat}, Lies s p l e → x ∈ l → ∃ q, q < s.size ∧ x = sgn s q
  | [], _, _, _, h => by simp at h
  | y :: l, p, e, h, hx => by
    obtain ⟨h1, h2, h3⟩ := h
    rcases List.mem_cons.1 hx with rfl | hx
    · exact ⟨p, h1, h2⟩
    · exact lies_mem h3 hx
end Go.Proofs.YtlkgnheccoodpaaGreatDoor
namespace Go.Proofs.YtlkgnheccoodpaaGreatDoor
open Go.RowKit

theorem extract_app_l (a b : ByteArray) : (a ++ b).extract 0 a.size = a := by
  refine ba_ext ?_
  rw [Lib.extract_data, List.drop_zero, Nat.sub_zero, ByteArray.data_append, Array.toList_append, Lib.size_eq, List.take_left]
theorem extract_app_r (a b : ByteArray) : (a ++ b).extract a.size (a.size + b.size) = b := by
  refine ba_ext ?_
  rw [Lib.extract_data, ByteArray.data_append, Array.toList_append, Lib.size_eq a, List.drop_left, Lib.size_eq b, List.take_of_length_le (by omega)]
theorem up_zero (l : List Sg) : l.map (Sg.up 0) = l := by
  induction l with
  | nil => rfl
  | cons x l ih => rw [List.map_cons, ih]; rfl
theorem melts_signs (a b : ByteArray) : meltsB a b = true ↔ signs (a ++ b) ≠ signs a ++ (signs b).map (Sg.up a.size) := by
  have hsz : (a ++ b).size = a.size + b.size := ByteArray.size_append
  rw [melts_iff]
  constructor
  · intro h e
    have hl := signs_lies (a ++ b)
    rw [e] at hl
    obtain ⟨q, h1, h2⟩ := lies_split hl
    refine h ⟨signs a, ?_⟩
    have s1 := stepsF_b ⟨0, 0, 0⟩ h1
    have s2 := stepsF_b ⟨0, 0, 0⟩ (signs_lies a)
    rw [s1] at s2
    have : q = a.size := by simp at s2; omega
    rwa [this] at h1
  · rintro h ⟨l, hl⟩
    apply h
    obtain ⟨p, f, hf⟩ : ∃ m, ∃ f, f = l ++ m ∧ Lies (a ++ b) a.size m (a.size + b.size) := by
      refine ⟨sgns (a ++ b) (a ++ b).size a.size, _, rfl, ?_⟩
      have := sgns_lies (a ++ b) (a ++ b).size a.size (by omega) (by omega)
      rwa [hsz] at this ⊢
    have h1 : signs (a ++ b) = l ++ p := by
      refine lies_uniq (signs_lies (a ++ b)) ?_
      rw [hsz]
      exact lies_append hl hf.2
    have h2 := signs_part hl (by omega)
    rw [up_zero, extract_app_l] at h2
    have h3 := signs_part hf.2 (by omega)
    rw [extract_app_r] at h3
    rw [h1, h2, h3]

theorem rsign_guard : Tryz.prog.eqGuardType Tryz.prog.depth 133 = false := by kernel_rfl
theorem rsign_under : Tryz.prog.underlying 133 = some (.struct (Tryz.prog.fieldsOf 133)) := by kernel_rfl
theorem rsign_held : Tryz.prog.stoodInHeld 133 = false := by kernel_rfl
theorem rsign_fields : (Tryz.prog.fieldsOf 133).toList.map (fun f => (f.name, f.type, f.offset)) = [("At", 3, 0), ("Len", 3, 1), ("Rune", 3, 2), ("Bad", 4, 3)] := by kernel_rfl
set_option maxRecDepth 100000 in
theorem rsign_ne (a b c a' b' c' : Int) (d d' : Bool) (w : World) : (binOp .neq 133 (.agg #[.int .i64 a, .int .i64 b, .int .i64 c, .bool d]) (.agg #[.int .i64 a', .int .i64 b', .int .i64 c', .bool d'])).run Tryz.prog w = .ok (.bool (!(a == a' && (b == b' && (c == c' && d == d'))))) w := by
  rw [run_neq_struct, run_equalIn_agg _ _ _ _ _ rsign_under rsign_held]
  have hf := rsign_fields
  match h : (Tryz.prog.fieldsOf 133).toList, hf with
  | [f0, f1, f2, f3], hf =>
    clear h
    simp only [List.map_cons, List.map_nil, List.cons.injEq, Prod.mk.injEq, and_true] at hf
    obtain ⟨⟨n0, t0, o0⟩, ⟨n1, t1, o1⟩, ⟨n2, t2, o2⟩, ⟨n3, t3, o3⟩⟩ := hf
    have u3 : Tryz.prog.underlying 3 = some (.int .i64) := Tryz.underlying3
    have u4 : Tryz.prog.underlying 4 = some .bool := Tryz.underlying4
    simp [Op.eqFields, n0, n1, n2, n3, t0, t1, t2, t3, o0, o1, o2, o3, go_sem, u3, u4]
    by_cases h0 : a = a' <;> by_cases h1 : b = b' <;> by_cases h2 : c = c' <;> by_cases h3 : d = d' <;> simp [h0, h1, h2, h3]
  | [], hf => simp at hf
  | [_], hf => simp at hf
  | [_, _], hf => simp at hf
  | [_, _, _], hf => simp at hf
  | _ :: _ :: _ :: _ :: _ :: _, hf => simp at hf

set_option maxRecDepth 100000 in
set_option maxHeartbeats 4000000 in
theorem rmelts_any (a b : ByteArray) (hs : a.size + b.size ≤ 1048576) (w : World) :
    Calls Tryz.prog 51 #[.string a, .string b] w fun e w' => e = .returned (.bool (meltsB a b)) ∧ Below w.heap.size w w' := by
  have hx : (signs a).length ≤ a.size := sgns_length a _ _
  have hy : (signs b).length ≤ b.size := sgns_length b _ _
  have hz : (signs (a ++ b)).length ≤ (a ++ b).size := sgns_length _ _ _
  rw [ByteArray.size_append] at hz
  have HX := hideO (fun W => rsigns_any a (by omega) W)
  have HY := hideO (fun W => rsigns_any b (by omega) W)
  have HZ := hideO (fun W => rsigns_any (a ++ b) (by rw [ByteArray.size_append]; omega) W)
  have HM := hideO (melts_signs a b)
  have HYL : Hid (∀ j (hj : j < (signs b).length), (signs b)[j].loc ≤ 1048576) := fun j hj => by
    obtain ⟨q, h1, h2⟩ := lies_mem (signs_lies b) (List.getElem_mem hj)
    rw [h2, (sgn_dec b q h1).1]
    omega
  have t1 : ¬ 9223372036854775807 < a.size + b.size := by omega
  generalize hM : meltsB a b = M at *
  generalize hL : signs (a ++ b) = L at *
  generalize hX : signs a = X at *
  generalize hY : signs b = Y at *
  clear hM hL hX hY
  go_enter Tryz.func51, Tryz.ntmps51
  go_wp2_with fail
  refine (HX.out _).mono ?_
  rintro r w1 ⟨v1, rfl, o1, b1⟩
  have s1 := b1.size
  obtain ⟨oa, ca, rfl, hca⟩ := rows_at o1
  have HCA := hideO hca
  clear o1 hca
  go_wp2_with fail
  refine (HY.out _).mono ?_
  rintro r w2 ⟨v2, rfl, o2, b2⟩
  have s2 := b2.size
  have b12 := b1.trans (b2.mono s1)
  obtain ⟨ob, cb, rfl, hcb⟩ := rows_at o2
  have HCB := hideO hcb
  clear o2 hcb
  go_wp2_with fail
  refine (HZ.out _).mono ?_
  rintro r w3 ⟨v3, rfl, o3, b3⟩
  have s3 := b3.size
  have b13 := b12.trans (b3.mono (by omega))
  obtain ⟨oc, cc, rfl, hcc⟩ := rows_at o3
  have HCC := hideO hcc
  clear o3 hcc
  by_cases hlen : L.length = X.length + Y.length
  · have t2 : ((L.length : Int) != (X.length : Int) + (Y.length : Int)) = false := by rw [bne_eq_false_iff_eq]; omega
    have HLEN := hideO hlen
    clear hlen
    go_wp2
    go_loopw [8, 9] (fun i _ wr => ∃ k : Nat, i = .int .i64 k ∧ k ≤ L.length ∧ Hid (∀ j (h1 : j < k) (h2 : j < L.length), L[j]? = (X ++ Y.map (Sg.up a.size))[j]?) ∧ Below w3.heap.size w3 wr) (fun i _ _ => L.length - (intOf i).toNat)
    case atStart => exact ⟨0, rfl, by omega, fun j h1 _ => by omega, Below.refl _ _⟩
    case round =>
      obtain ⟨k, rfl, hk, HE, hB⟩ := hrel
      have sB := hB.size
      have b1B := b13.trans (hB.mono (by omega))
      by_cases hkl : k < L.length
      · obtain ⟨gc, rfl, hgc, _, hc⟩ := HCC.out k hkl
        obtain ⟨c0, c1, c2, c3⟩ := hc.below hB hgc
        clear hc
        by_cases hkx : k < X.length
        · obtain ⟨ga, rfl, hga, _, ha⟩ := HCA.out k hkx
          obtain ⟨a0, a1, a2, a3⟩ := (ha.below (b2.trans (b3.mono s2)) hga).below hB (by omega)
          clear ha
          have hgaz : ga < wr.heap.size := by omega
          have hgcz : gc < wr.heap.size := by omega
          have hgl : L[k]? = some L[k] := List.getElem?_eq_getElem hkl
          have hgz : (X ++ Y.map (Sg.up a.size))[k]? = some X[k] := by rw [List.getElem?_append_left hkx, List.getElem?_eq_getElem hkx]
          have HGL := hideO hgl
          have HGZ := hideO hgz
          clear hgl hgz
          generalize L[k] = x at *
          generalize X[k] = z at *
          have hki : (k : Int) < (L.length : Int) := by omega
          have hgd := rsign_guard
          have hnq := fun w => rsign_ne x.loc x.len x.rune z.loc z.len z.rune x.bad z.bad w
          generalize hq : (!((x.loc : Int) == z.loc && ((x.len : Int) == z.len && (x.rune == z.rune && x.bad == z.bad)))) = q at *
          have HQ := hideO hq
          clear hq
          cases q with
          | false =>
            have hxz : x = z := by
              have := HQ.out
              simp at this
              exact sg_ext (by omega) (by omega) this.2.2.1 this.2.2.2
            have HE2 : Hid (∀ j (h1 : j < k + 1) (h2 : j < L.length), L[j]? = (X ++ Y.map (Sg.up a.size))[j]?) := fun j h1 h2 => by
              by_cases e : j = k
              · rw [e, HGL.out, HGZ.out, hxz]
              · exact HE.out j (by omega) h2
            clear HQ hxz
            go_wp2
            go_quiet (fail)
            go_wp2
            exact ⟨⟨k + 1, by go_num, by omega, HE2, below_dn (hB.alloc sB _) nq⟩, by simp [intOf]; omega⟩
          | true =>
            have hm : M = true := HM.out.2 (fun e => by
              have h1 := HGL.out
              rw [e, HGZ.out] at h1
              have h2 : z = x := Option.some.inj h1
              have := HQ.out
              rw [h2] at this
              simp at this)
            subst hm
            clear HQ
            go_wp2
            go_quiet (fail)
            go_wp2
            go_ret
            exact ⟨rfl, below_dn (b1B.alloc b1B.size _) _⟩
        · obtain ⟨j, hj⟩ : ∃ j, k = X.length + j := ⟨k - X.length, by omega⟩
          have hjy : j < Y.length := by have := HLEN.out; omega
          obtain ⟨gb, rfl, hgb, _, hb⟩ := HCB.out j hjy
          obtain ⟨a0, a1, a2, a3⟩ := (hb.below b3 hgb).below hB (by omega)
          clear hb
          have hgbz : gb < wr.heap.size := by omega
          have hgcz : gc < wr.heap.size := by omega
          have hgl : L[k]? = some L[k] := List.getElem?_eq_getElem hkl
          have hgz : (X ++ Y.map (Sg.up a.size))[k]? = some (Y[j].up a.size) := by rw [List.getElem?_append_right (by omega), show k - X.length = j by omega, List.getElem?_map, List.getElem?_eq_getElem hjy]; rfl
          have HGL := hideO hgl
          have HGZ := hideO hgz
          clear hgl hgz
          generalize L[k] = x at *
          have hyl : Y[j].loc ≤ 1048576 := HYL.out j hjy
          generalize Y[j] = z at *
          have hki : (k : Int) < (L.length : Int) := by omega
          have hkj : (k : Int) - (X.length : Int) = (j : Int) := by omega
          have hji : (j : Int) < (Y.length : Int) := by omega
          have hgd := rsign_guard
          have hnq := fun w => rsign_ne x.loc x.len x.rune ((z.loc : Int) + (a.size : Int)) z.len z.rune x.bad z.bad w
          generalize hq : (!((x.loc : Int) == (z.loc : Int) + (a.size : Int) && ((x.len : Int) == z.len && (x.rune == z.rune && x.bad == z.bad)))) = q at *
          have HQ := hideO hq
          have HJ := hideO hj
          clear hq hj
          cases q with
          | false =>
            have hxz : x = z.up a.size := by
              have := HQ.out
              simp at this
              exact sg_ext (by rw [up_loc]; omega) (by rw [up_len]; omega) this.2.2.1 this.2.2.2
            have HE2 : Hid (∀ j (h1 : j < k + 1) (h2 : j < L.length), L[j]? = (X ++ Y.map (Sg.up a.size))[j]?) := fun i h1 h2 => by
              by_cases e : i = k
              · rw [e, HGL.out, HGZ.out, hxz]
              · exact HE.out i (by omega) h2
            clear HQ hxz
            go_wp2
            go_quiet (fail)
            go_wp2
            exact ⟨⟨k + 1, by go_num, by omega, HE2, below_dn (hB.alloc sB _) nq⟩, by simp [intOf]; omega⟩
          | true =>
            have hm : M = true := HM.out.2 (fun e => by
              have h1 := HGL.out
              rw [e, HGZ.out] at h1
              have h2 : z.up a.size = x := Option.some.inj h1
              have := HQ.out
              rw [← h2] at this
              simp [up_loc, up_len, up_rune, up_bad] at this)
            subst hm
            clear HQ
            go_wp2
            go_quiet (fail)
            go_wp2
            go_ret
            exact ⟨rfl, below_dn (b1B.alloc b1B.size _) _⟩
      · obtain rfl : k = L.length := by omega
        have hm : M = false := by
          cases hM : M
          · rfl
          · exact absurd (List.ext_getElem? (fun j => by
              by_cases c : j < L.length
              · exact HE.out j c c
              · have := HLEN.out
                rw [List.getElem?_eq_none (by omega), List.getElem?_eq_none (by simp; omega)])) (HM.out.1 hM)
        subst hm
        go_wp2
        go_ret
        exact ⟨rfl, b1B⟩
  · have t2 : ((L.length : Int) != (X.length : Int) + (Y.length : Int)) = true := by rw [bne_iff_ne]; omega
    have hm : M = true := HM.out.2 (fun e => hlen (by rw [e]; simp))
    subst hm
    clear hlen
    go_wp2
    go_ret
    exact ⟨rfl, b13⟩
end Go.Proofs.YtlkgnheccoodpaaGreatDoor
