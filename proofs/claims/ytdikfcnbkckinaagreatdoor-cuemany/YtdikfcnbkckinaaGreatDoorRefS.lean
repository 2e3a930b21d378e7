/- Contracts of the document's own small functions on bytes (surtitleref1): long, second, more, rest. -/
import Derived.WalkKit
import Derived.WalkSpells
import Derived.WalkLawsBesides
import Derived.Test.YtdikfcnbkckinaaGreatDoorW1
namespace Go.Proofs.YtdikfcnbkckinaaGreatDoor
open Go.RowKit

/-- Of how many bytes the encoding is that a byte begins; 0: none. -/
def longN (c : Int) : Int := if c < 128 then 1 else if 194 ≤ c ∧ c ≤ 223 then 2 else if 224 ≤ c ∧ c ≤ 239 then 3 else if 240 ≤ c ∧ c ≤ 244 then 4 else 0
set_option maxHeartbeats 400000 in
theorem long_any (c : Int) (w : World) : Calls Tryz.prog 88 #[.int .u8 c] w fun e w' => e = .returned (.int .i64 (longN c)) ∧ w' = w := by
  unfold longN
  by_cases h1 : c < 128
  · rw [if_pos h1]
    go_enter Tryz.func88, Tryz.ntmps88
    go_wp2
    go_ret
    exact ⟨rfl, rfl⟩
  · rw [if_neg h1]
    by_cases h2 : 194 ≤ c ∧ c ≤ 223
    · rw [if_pos h2]
      obtain ⟨h2, h3⟩ := h2
      go_enter Tryz.func88, Tryz.ntmps88
      go_wp2
      go_ret
      exact ⟨rfl, rfl⟩
    · rw [if_neg h2]
      by_cases h4 : 224 ≤ c ∧ c ≤ 239
      · rw [if_pos h4]
        obtain ⟨h4, h5⟩ := h4
        clear h2
        go_enter Tryz.func88, Tryz.ntmps88
        go_wp2
        go_ret
        exact ⟨rfl, rfl⟩
      · rw [if_neg h4]
        by_cases h6 : 240 ≤ c ∧ c ≤ 244
        · rw [if_pos h6]
          obtain ⟨h6, h7⟩ := h6
          clear h2 h4
          go_enter Tryz.func88, Tryz.ntmps88
          go_wp2
          go_ret
          exact ⟨rfl, rfl⟩
        · rw [if_neg h6]
          have hr : c < 194 ∨ 244 < c := by omega
          clear h2 h4 h6
          rcases hr with hr | hr
          all_goals
            go_enter Tryz.func88, Tryz.ntmps88
            go_wp2
            go_ret
            exact ⟨rfl, rfl⟩

/-- From which to which byte the second one may be, behind a first one. -/
def secLo (c : Int) : Int := if c = 224 then 160 else if c = 240 then 144 else 128
def secHi (c : Int) : Int := if c = 237 then 159 else if c = 244 then 143 else 191
def secondB (c d : Int) : Bool := decide (secLo c ≤ d) && decide (d ≤ secHi c)
set_option maxHeartbeats 1000000 in
theorem second_any (c d : Int) (w : World) : Calls Tryz.prog 89 #[.int .u8 c, .int .u8 d] w fun e w' => e = .returned (.bool (secondB c d)) ∧ w' = w := by
  by_cases e224 : c = 224
  · subst e224
    by_cases h1 : d < 160
    · rw [show secondB 224 d = false from by unfold secondB; rw [show secLo 224 = 160 from rfl, show secHi 224 = 191 from rfl]; simp; omega]
      go_enter Tryz.func89, Tryz.ntmps89
      go_wp2
      go_ret
      exact ⟨rfl, rfl⟩
    · by_cases h2 : d ≤ 191
      · rw [show secondB 224 d = true from by unfold secondB; rw [show secLo 224 = 160 from rfl, show secHi 224 = 191 from rfl]; simp; omega]
        go_enter Tryz.func89, Tryz.ntmps89
        go_wp2
        go_ret
        exact ⟨rfl, rfl⟩
      · rw [show secondB 224 d = false from by unfold secondB; rw [show secLo 224 = 160 from rfl, show secHi 224 = 191 from rfl]; simp; omega]
        go_enter Tryz.func89, Tryz.ntmps89
        go_wp2
        go_ret
        exact ⟨rfl, rfl⟩
  · have t224 : (c == 224) = false := beq_eq_false_iff_ne.2 e224
    by_cases e237 : c = 237
    · subst e237
      by_cases h1 : d < 128
      · rw [show secondB 237 d = false from by unfold secondB; rw [show secLo 237 = 128 from rfl, show secHi 237 = 159 from rfl]; simp; omega]
        go_enter Tryz.func89, Tryz.ntmps89
        go_wp2
        go_ret
        exact ⟨rfl, rfl⟩
      · by_cases h2 : d ≤ 159
        · rw [show secondB 237 d = true from by unfold secondB; rw [show secLo 237 = 128 from rfl, show secHi 237 = 159 from rfl]; simp; omega]
          go_enter Tryz.func89, Tryz.ntmps89
          go_wp2
          go_ret
          exact ⟨rfl, rfl⟩
        · rw [show secondB 237 d = false from by unfold secondB; rw [show secLo 237 = 128 from rfl, show secHi 237 = 159 from rfl]; simp; omega]
          go_enter Tryz.func89, Tryz.ntmps89
          go_wp2
          go_ret
          exact ⟨rfl, rfl⟩
    · have t237 : (c == 237) = false := beq_eq_false_iff_ne.2 e237
      by_cases e240 : c = 240
      · subst e240
        by_cases h1 : d < 144
        · rw [show secondB 240 d = false from by unfold secondB; rw [show secLo 240 = 144 from rfl, show secHi 240 = 191 from rfl]; simp; omega]
          go_enter Tryz.func89, Tryz.ntmps89
          go_wp2
          go_ret
          exact ⟨rfl, rfl⟩
        · by_cases h2 : d ≤ 191
          · rw [show secondB 240 d = true from by unfold secondB; rw [show secLo 240 = 144 from rfl, show secHi 240 = 191 from rfl]; simp; omega]
            go_enter Tryz.func89, Tryz.ntmps89
            go_wp2
            go_ret
            exact ⟨rfl, rfl⟩
          · rw [show secondB 240 d = false from by unfold secondB; rw [show secLo 240 = 144 from rfl, show secHi 240 = 191 from rfl]; simp; omega]
            go_enter Tryz.func89, Tryz.ntmps89
            go_wp2
            go_ret
            exact ⟨rfl, rfl⟩
      · have t240 : (c == 240) = false := beq_eq_false_iff_ne.2 e240
        by_cases e244 : c = 244
        · subst e244
          by_cases h1 : d < 128
          · rw [show secondB 244 d = false from by unfold secondB; rw [show secLo 244 = 128 from rfl, show secHi 244 = 143 from rfl]; simp; omega]
            go_enter Tryz.func89, Tryz.ntmps89
            go_wp2
            go_ret
            exact ⟨rfl, rfl⟩
          · by_cases h2 : d ≤ 143
            · rw [show secondB 244 d = true from by unfold secondB; rw [show secLo 244 = 128 from rfl, show secHi 244 = 143 from rfl]; simp; omega]
              go_enter Tryz.func89, Tryz.ntmps89
              go_wp2
              go_ret
              exact ⟨rfl, rfl⟩
            · rw [show secondB 244 d = false from by unfold secondB; rw [show secLo 244 = 128 from rfl, show secHi 244 = 143 from rfl]; simp; omega]
              go_enter Tryz.func89, Tryz.ntmps89
              go_wp2
              go_ret
              exact ⟨rfl, rfl⟩
        · have t244 : (c == 244) = false := beq_eq_false_iff_ne.2 e244
          have l1 : secLo c = 128 := by unfold secLo; rw [if_neg e224, if_neg e240]
          have l2 : secHi c = 191 := by unfold secHi; rw [if_neg e237, if_neg e244]
          have L1 : Hid (secLo c = 128) := l1
          have L2 : Hid (secHi c = 191) := l2
          clear l1 l2 e224 e237 e240 e244
          by_cases h1 : d < 128
          · rw [show secondB c d = false from by unfold secondB; rw [L1.out, L2.out]; simp; omega]
            go_enter Tryz.func89, Tryz.ntmps89
            go_wp2
            go_ret
            exact ⟨rfl, rfl⟩
          · by_cases h2 : d ≤ 191
            · rw [show secondB c d = true from by unfold secondB; rw [L1.out, L2.out]; simp; omega]
              go_enter Tryz.func89, Tryz.ntmps89
              go_wp2
              go_ret
              exact ⟨rfl, rfl⟩
            · rw [show secondB c d = false from by unfold secondB; rw [L1.out, L2.out]; simp; omega]
              go_enter Tryz.func89, Tryz.ntmps89
              go_wp2
              go_ret
              exact ⟨rfl, rfl⟩

/-- The bytes of s, laid out from the beginning of a block on. -/
def BytesAt (W : World) (B : Nat) (s : ByteArray) : Prop := ∀ k (h : k < s.size), W.cell? ⟨B, k, none⟩ = some (.int .u8 s[k].toNat)

set_option maxHeartbeats 400000 in
theorem rest_any (w : World) (B cap : Nat) (s : ByteArray) (k : Nat) (hk : k < s.size) (_hs : s.size ≤ 140737488355328) (hb : BytesAt w B s) :
    Calls Tryz.prog 90 #[.slice (some ⟨B, 0, none⟩) s.size cap, .int .i64 k] w fun e w' => e = .returned (.int .i64 (s[k].toNat - 128)) ∧ w' = w := by
  have hc := hb k hk
  clear hb
  have hlt := s[k].toNat_lt
  go_enter Tryz.func90, Tryz.ntmps90
  go_wp2
  go_ret
  exact ⟨rfl, rfl⟩

def moreB (s : ByteArray) (k : Nat) : Bool := decide (k < s.size) && (decide (128 ≤ (s.get! k).toNat) && decide ((s.get! k).toNat ≤ 191))
set_option maxHeartbeats 400000 in
theorem more_any (w : World) (B cap : Nat) (s : ByteArray) (k : Nat) (_hs : s.size ≤ 140737488355328) (hb : BytesAt w B s) :
    Calls Tryz.prog 91 #[.slice (some ⟨B, 0, none⟩) s.size cap, .int .i64 k] w fun e w' => e = .returned (.bool (moreB s k)) ∧ w' = w := by
  by_cases hk : k < s.size
  · have hc := hb k hk
    clear hb
    have hg : s.get! k = s[k] := get_at s k hk
    by_cases h1 : 128 ≤ s[k].toNat
    · by_cases h2 : s[k].toNat ≤ 191
      · rw [show moreB s k = true from by unfold moreB; rw [hg]; simp [hk, h1, h2]]
        clear hg
        go_enter Tryz.func91, Tryz.ntmps91
        go_wp2
        go_ret
        exact ⟨by simp; omega, rfl⟩
      · rw [show moreB s k = false from by unfold moreB; rw [hg]; simp [hk, h2]]
        clear hg
        go_enter Tryz.func91, Tryz.ntmps91
        go_wp2
        go_ret
        exact ⟨by simp; omega, rfl⟩
    · rw [show moreB s k = false from by unfold moreB; rw [hg]; simp [hk, h1]]
      clear hg
      go_enter Tryz.func91, Tryz.ntmps91
      go_wp2
      go_ret
      exact ⟨rfl, rfl⟩
  · clear hb
    rw [show moreB s k = false from by unfold moreB; simp [hk]]
    go_enter Tryz.func91, Tryz.ntmps91
    go_wp2
    go_ret
    exact ⟨rfl, rfl⟩
end Go.Proofs.YtdikfcnbkckinaaGreatDoor
