/- The contract of the document's own one (surtitleref1): the sign at a place of laid bytes. -/
import Derived.Test.YtdikfcnbkckinaaGreatDoorRefS
import Derived.Laws.NewBlocks
import Derived.Deep.RegionHeld
namespace Go.Proofs.YtdikfcnbkckinaaGreatDoor
open Go.RowKit

/-- What is gathered of the bytes behind the first, up to the k-th. -/
def rr (s : ByteArray) (p : Nat) : Nat → Int
  | 0 => 0
  | 1 => 0
  | 2 => ((s.get! (p + 1)).toNat : Int) - 128
  | k + 3 => 64 * rr s p (k + 2) + (((s.get! (p + (k + 2))).toNat : Int) - 128)

structure OneR where
  len : Nat
  rune : Int
  bad : Bool
def OneR.val (x : OneR) (p : Nat) : Value := .agg #[.int .i64 p, .int .i64 x.len, .int .i64 x.rune, .bool x.bad]
def badR : OneR := ⟨1, 65533, true⟩
def leadN (n : Nat) (c : Int) : Int := if n = 2 then 64 * (c - 192) else if n = 3 then 4096 * (c - 224) else 262144 * (c - 240)
/-- Are the bytes behind the second, up to the n-th, such as go on? -/
def goOn (s : ByteArray) (p n : Nat) : Bool := decide (n ≤ 2 ∨ moreB s (p + 2) = true) && decide (n ≤ 3 ∨ moreB s (p + 3) = true)
def oneR (s : ByteArray) (p : Nat) : OneR :=
  let c : Int := (s.get! p).toNat
  if longN c = 0 then badR else if longN c = 1 then ⟨1, c, false⟩
  else if ¬ (p + 1 < s.size ∧ secondB c (s.get! (p + 1)).toNat = true) then badR
  else if goOn s p (longN c).toNat = true then ⟨(longN c).toNat, rr s p (longN c).toNat + leadN (longN c).toNat c, false⟩ else badR

theorem hideO {p : Prop} (h : p) : Hid p := h
theorem longN_cases (c : Int) : longN c = 0 ∨ longN c = 1 ∨ longN c = 2 ∨ longN c = 3 ∨ longN c = 4 := by
  unfold longN
  by_cases h1 : c < 128
  · rw [if_pos h1]; simp
  rw [if_neg h1]
  by_cases h2 : 194 ≤ c ∧ c ≤ 223
  · rw [if_pos h2]; simp
  rw [if_neg h2]
  by_cases h3 : 224 ≤ c ∧ c ≤ 239
  · rw [if_pos h3]; simp
  rw [if_neg h3]
  by_cases h4 : 240 ≤ c ∧ c ≤ 244
  · rw [if_pos h4]; simp
  rw [if_neg h4]; simp
theorem rr_le (s : ByteArray) (p k : Nat) (hk : k ≤ 4) : -128 * 5000 ≤ rr s p k ∧ rr s p k ≤ 128 * 5000 := by
  have h1 := (s.get! (p + 1)).toNat_lt
  have h2 := (s.get! (p + 2)).toNat_lt
  have h3 := (s.get! (p + 3)).toNat_lt
  rcases (show k = 0 ∨ k = 1 ∨ k = 2 ∨ k = 3 ∨ k = 4 by omega) with rfl | rfl | rfl | rfl | rfl <;> simp only [rr, Nat.zero_add, Nat.reduceAdd] <;> omega

theorem more_q (w : World) (B cap : Nat) (s : ByteArray) (k : Nat) (q : Int) (hq : q = k) (hs : s.size ≤ 140737488355328) (hb : BytesAt w B s) :
    Calls Tryz.prog 91 #[.slice (some ⟨B, 0, none⟩) s.size cap, .int .i64 q] w fun e w' => e = .returned (.bool (moreB s k)) ∧ w' = w := by subst hq; exact more_any w B cap s k hs hb
theorem rest_q (w : World) (B cap : Nat) (s : ByteArray) (k : Nat) (q : Int) (hq : q = k) (hk : k < s.size) (hs : s.size ≤ 140737488355328) (hb : BytesAt w B s) :
    Calls Tryz.prog 90 #[.slice (some ⟨B, 0, none⟩) s.size cap, .int .i64 q] w fun e w' => e = .returned (.int .i64 ((s.get! k).toNat - 128)) ∧ w' = w := by
  subst hq
  have e : s.get! k = s[k] := get_at s k hk
  rw [e]
  exact rest_any w B cap s k hk hs hb
theorem BytesAt.alloc {w : World} {B : Nat} {s : ByteArray} (h : BytesAt w B s) (hB : B < w.heap.size) (o : Obj) : BytesAt (w.alloc o) B s := fun k hk => by rw [World.cell?_alloc_past o B k hB]; exact h k hk
theorem BytesAt.drew {w : World} {B : Nat} {s : ByteArray} (h : BytesAt w B s) : BytesAt w.drew B s := fun k hk => h k hk
theorem more_lt {s : ByteArray} {k : Nat} (h : moreB s k = true) : k < s.size := by unfold moreB at h; rw [Bool.and_eq_true] at h; exact of_decide_eq_true h.1

set_option maxRecDepth 100000 in
set_option maxHeartbeats 2000000 in
theorem one_n (w : World) (B cap : Nat) (s : ByteArray) (p : Nat) (c : Int) (n : Nat) (hp : p < s.size) (hs : s.size ≤ 1048576) (hb : BytesAt w B s) (ec : (s[p].toNat : Int) = c) (h2 : 2 ≤ n) (h4 : n ≤ 4) (hn : longN c = n) :
    Calls Tryz.prog 83 #[.slice (some ⟨B, 0, none⟩) s.size cap, .int .i64 p] w fun e w' => e = .returned ((oneR s p).val p) ∧ Below w.heap.size w w' := by
  have hBz : B < w.heap.size := World.block_lt_of_cell? w _ (hb p hp)
  have hc := hb p hp
  have hg : s.get! p = s[p] := get_at s p hp
  have hlt := s[p].toNat_lt
  have hc0 : 0 ≤ c := by omega
  have hc1 : c < 256 := by omega
  rw [ec] at hc
  have t0 : ((n : Int) == 0) = false := beq_eq_false_iff_ne.2 (by omega)
  have t1 : ((n : Int) == 1) = false := beq_eq_false_iff_ne.2 (by omega)
  have ONE : oneR s p = if ¬ (p + 1 < s.size ∧ secondB c (s.get! (p + 1)).toNat = true) then badR else if goOn s p n = true then ⟨n, rr s p n + leadN n c, false⟩ else badR := by
    unfold oneR
    rw [hg, ec]
    dsimp only
    rw [hn, if_neg (by omega), if_neg (by omega), Int.toNat_natCast]
  by_cases hp1 : p + 1 < s.size
  · have hd := hb (p + 1) hp1
    have hg1 : s.get! (p + 1) = s[p + 1] := get_at s (p + 1) hp1
    have tg : decide ((s.size : Int) ≤ (p : Int) + 1) = false := decide_eq_false (by omega)
    have tw : IntKind.i64.wrap ((p : Int) + 1) = (p : Int) + 1 := by rw [IntKind.wrap_i64]; omega
    have tv : decide ((s.size : Int) ≤ IntKind.i64.wrap ((p : Int) + 1)) = false := by rw [tw]; exact tg
    have i0 : (0 : Int) ≤ (p : Int) := by omega
    have i1 : (p : Int) < (s.size : Int) := by omega
    have i2 : (p : Int) + 1 < (s.size : Int) := by omega
    obtain ⟨d, ed⟩ : ∃ d : Int, (s[p + 1].toNat : Int) = d := ⟨_, rfl⟩
    rw [ed] at hd
    rw [hg1, ed] at ONE
    cases hsec : secondB c d with
    | false =>
      have R : oneR s p = badR := by rw [ONE, if_pos (by rw [hsec]; simp)]
      rw [R]
      clear R ONE hg hg1 hb
      go_enter Tryz.func83, Tryz.ntmps83
      go_wp2_with (go_at_call 88; refine (long_any c _).mono ?_; rintro e w' ⟨rfl, rfl⟩; rw [hn])
      go_region_held (fun w' => w'.cell? ⟨B, p, none⟩ = some (.int .u8 c) ∧ w'.cell? ⟨B, p + 1, none⟩ = some (.int .u8 d)) (go_keep) (first | (go_at_call 89; refine (second_any c d _).mono ?_; rintro e w' ⟨rfl, rfl⟩; rw [hsec]))
      all_goals go_wp2
      all_goals exact bodyPost_ret (v := badR.val p) (by simp [results, Tryz.results83, go_sem, badR, OneR.val]) rfl ⟨rfl, (((Below.refl _ w).alloc (Nat.le_refl _) _).alloc (by simp) _).drew⟩
    | true =>
      have GO : Hid (oneR s p = if goOn s p n = true then ⟨n, rr s p n + leadN n c, false⟩ else badR) := by
        show oneR s p = _
        rw [ONE, if_neg (fun h => h ⟨hp1, hsec⟩)]
      have hr2 : rr s p 2 = d - 128 := by simp only [rr]; rw [hg1, ed]
      have HB : Hid (BytesAt w B s) := hb
      clear ONE hg hb
      go_enter Tryz.func83, Tryz.ntmps83
      go_wp2_with (go_at_call 88; refine (long_any c _).mono ?_; rintro e w' ⟨rfl, rfl⟩; rw [hn])
      go_region_held (fun w' => w'.cell? ⟨B, p, none⟩ = some (.int .u8 c) ∧ w'.cell? ⟨B, p + 1, none⟩ = some (.int .u8 d)) (go_keep) (first | (go_at_call 89; refine (second_any c d _).mono ?_; rintro e w' ⟨rfl, rfl⟩; rw [hsec]))
      all_goals go_wp2_with (go_at_call 90; refine (rest_q _ B cap s (p + 1) _ (by omega) hp1 (by omega) ((HB.out.alloc hBz _).alloc (by simp; omega) _).drew).mono ?_; rintro e w' ⟨rfl, rfl⟩; rw [hg1, ed])
      go_loopw [7, 8] (fun r i wr => wr = ((w.alloc (.cells #[.int .i64 0, .int .i64 0, .int .i64 0, .bool false] 140)).alloc (.cells #[.int .i64 p, .int .i64 1, .int .i64 65533, .bool true] 140)).drew ∧ ∃ k : Nat, i = .int .i64 k ∧ r = .int .i64 (rr s p k) ∧ 2 ≤ k ∧ k ≤ n ∧ Hid (∀ j, 2 ≤ j → j < k → moreB s (p + j) = true)) (fun _ i _ => n - (intOf i).toNat)
      case atStart => exact ⟨rfl, 2, rfl, by rw [hr2], by omega, h2, fun j h1 h2 => by omega⟩
      case round =>
        obtain ⟨rfl, k, rfl, rfl, hk2, hkn, HM⟩ := hrel
        have HA := hideO (((HB.out.alloc hBz (.cells #[.int .i64 0, .int .i64 0, .int .i64 0, .bool false] 140)).alloc (by simp; omega) (.cells #[.int .i64 p, .int .i64 1, .int .i64 65533, .bool true] 140)).drew)
        obtain ⟨hR1, hR2⟩ := rr_le s p k (by omega)
        by_cases hkn2 : k < n
        · cases hm : moreB s (p + k) with
          | true =>
            have hlt2 := more_lt hm
            have HM2 : Hid (∀ j, 2 ≤ j → j < k + 1 → moreB s (p + j) = true) := fun j h1 h2 => by
              by_cases e : j = k
              · rw [e]; exact hm
              · exact HM.out j h1 (by omega)
            have hR3 : rr s p (k + 1) = 64 * rr s p k + (((s.get! (p + k)).toNat : Int) - 128) := by
              obtain ⟨j, rfl⟩ : ∃ j, k = j + 2 := ⟨k - 2, by omega⟩
              rfl
            have hb3 := (s.get! (p + k)).toNat_lt
            obtain ⟨R, eR⟩ : ∃ R, rr s p k = R := ⟨_, rfl⟩
            obtain ⟨y, ey⟩ : ∃ y : Int, ((s.get! (p + k)).toNat : Int) = y := ⟨_, rfl⟩
            have hy0 : 0 ≤ y := by omega
            have hy1 : y < 256 := by omega
            rw [eR] at hR1 hR2 hR3 ⊢
            rw [ey] at hR3
            have HR3 := hideO hR3
            clear hR3 hr2 hb3
            go_wp2_with (first | (go_at_call 91; refine (more_q _ B cap s (p + k) _ (by omega) (by omega) HA.out).mono ?_; rintro e w' ⟨rfl, rfl⟩; rw [hm]) | (go_at_call 90; refine (rest_q _ B cap s (p + k) _ (by omega) hlt2 (by omega) HA.out).mono ?_; rintro e w' ⟨rfl, rfl⟩; rw [ey]))
            exact ⟨⟨by trivial, k + 1, by go_num, by rw [HR3.out], by omega, by omega, HM2⟩, by simp [intOf]; omega⟩
          | false =>
            have R : oneR s p = badR := by
              rw [GO.out, if_neg]
              unfold goOn
              intro h
              rw [Bool.and_eq_true, decide_eq_true_eq, decide_eq_true_eq] at h
              rcases (show k = 2 ∨ k = 3 by omega) with rfl | rfl
              · rcases h.1 with h | h
                · omega
                · rw [hm] at h; cases h
              · rcases h.2 with h | h
                · omega
                · rw [hm] at h; cases h
            have HR := hideO R
            clear R hr2
            go_wp2_with (go_at_call 91; refine (more_q _ B cap s (p + k) _ (by omega) (by omega) HA.out).mono ?_; rintro e w' ⟨rfl, rfl⟩; rw [hm])
            exact bodyPost_ret (v := badR.val p) (by simp [results, Tryz.results83, go_sem, badR, OneR.val]) rfl ⟨by rw [HR.out], (((Below.refl _ w).alloc (Nat.le_refl _) _).alloc (by simp) _).drew⟩
        · obtain rfl : k = n := by omega
          have R : oneR s p = ⟨k, rr s p k + leadN k c, false⟩ := by
            rw [GO.out, if_pos]
            unfold goOn
            rw [Bool.and_eq_true, decide_eq_true_eq, decide_eq_true_eq]
            refine ⟨?_, ?_⟩
            · by_cases h : k ≤ 2
              · exact .inl h
              · exact .inr (HM.out 2 (by omega) (by omega))
            · by_cases h : k ≤ 3
              · exact .inl h
              · exact .inr (HM.out 3 (by omega) (by omega))
          obtain ⟨Rv, eR⟩ : ∃ R, rr s p k = R := ⟨_, rfl⟩
          rw [eR] at hR1 hR2 R ⊢
          have HR := hideO R
          clear R hr2 eR HM GO
          rcases (show k = 2 ∨ k = 3 ∨ k = 4 by omega) with rfl | rfl | rfl
          · go_wp2
            exact bodyPost_ret (v := OneR.val ⟨2, Rv + 64 * (c - 192), false⟩ p) (by simp [results, Tryz.results83, go_sem, OneR.val]) rfl ⟨by rw [HR.out]; rfl, (((Below.refl _ w).alloc (Nat.le_refl _) _).alloc (by simp) _).drew⟩
          · go_wp2
            exact bodyPost_ret (v := OneR.val ⟨3, Rv + 4096 * (c - 224), false⟩ p) (by simp [results, Tryz.results83, go_sem, OneR.val]) rfl ⟨by rw [HR.out]; rfl, (((Below.refl _ w).alloc (Nat.le_refl _) _).alloc (by simp) _).drew⟩
          · go_wp2
            exact bodyPost_ret (v := OneR.val ⟨4, Rv + 262144 * (c - 240), false⟩ p) (by simp [results, Tryz.results83, go_sem, OneR.val]) rfl ⟨by rw [HR.out]; rfl, (((Below.refl _ w).alloc (Nat.le_refl _) _).alloc (by simp) _).drew⟩
  · have tg : decide ((s.size : Int) ≤ (p : Int) + 1) = true := decide_eq_true (by omega)
    have tw : IntKind.i64.wrap ((p : Int) + 1) = (p : Int) + 1 := by rw [IntKind.wrap_i64]; omega
    have tv : decide ((s.size : Int) ≤ IntKind.i64.wrap ((p : Int) + 1)) = true := by rw [tw]; exact tg
    have R : oneR s p = badR := by rw [ONE, if_pos (fun h => hp1 h.1)]
    rw [R]
    clear R ONE hg hb
    go_enter Tryz.func83, Tryz.ntmps83
    go_wp2_with (go_at_call 88; refine (long_any c _).mono ?_; rintro e w' ⟨rfl, rfl⟩; rw [hn])
    go_region
    all_goals go_wp2
    exact bodyPost_ret (v := badR.val p) (by simp [results, Tryz.results83, go_sem, badR, OneR.val]) rfl ⟨rfl, (((Below.refl _ w).alloc (Nat.le_refl _) _).alloc (by simp) _).drew⟩

set_option maxHeartbeats 1000000 in
theorem one_any (w : World) (B cap : Nat) (s : ByteArray) (p : Nat) (hp : p < s.size) (hs : s.size ≤ 1048576) (hb : BytesAt w B s) :
    Calls Tryz.prog 83 #[.slice (some ⟨B, 0, none⟩) s.size cap, .int .i64 p] w fun e w' => e = .returned ((oneR s p).val p) ∧ Below w.heap.size w w' := by
  have hBz : B < w.heap.size := World.block_lt_of_cell? w _ (hb p hp)
  have hc := hb p hp
  have hg : s.get! p = s[p] := get_at s p hp
  have hlt := s[p].toNat_lt
  obtain ⟨c, ec⟩ : ∃ c : Int, (s[p].toNat : Int) = c := ⟨_, rfl⟩
  rcases longN_cases c with hn | hn | hn | hn | hn
  · have R : oneR s p = badR := by unfold oneR; rw [hg, ec]; simp only [hn]; simp
    rw [R]
    clear R hg hb
    rw [ec] at hc
    go_enter Tryz.func83, Tryz.ntmps83
    go_wp2_with (go_at_call 88; refine (long_any c _).mono ?_; rintro e w' ⟨rfl, rfl⟩; rw [hn])
    exact bodyPost_ret (v := badR.val p) (by simp [results, Tryz.results83, go_sem, badR, OneR.val]) rfl ⟨rfl, ((Below.refl _ w).alloc (Nat.le_refl _) _).alloc (by simp) _⟩
  · have R : oneR s p = ⟨1, c, false⟩ := by unfold oneR; rw [hg, ec]; simp only [hn]; simp
    rw [R]
    clear R hg hb
    have hc0 : 0 ≤ c := by omega
    have hc1 : c < 256 := by omega
    rw [ec] at hc
    go_enter Tryz.func83, Tryz.ntmps83
    go_wp2_with (go_at_call 88; refine (long_any c _).mono ?_; rintro e w' ⟨rfl, rfl⟩; rw [hn])
    exact bodyPost_ret (v := OneR.val ⟨1, c, false⟩ p) (by simp [results, Tryz.results83, go_sem, OneR.val]) rfl ⟨rfl, ((Below.refl _ w).alloc (Nat.le_refl _) _).alloc (by simp) _⟩
  · exact one_n w B cap s p c 2 hp hs hb ec (by omega) (by omega) hn
  · exact one_n w B cap s p c 3 hp hs hb ec (by omega) (by omega) hn
  · exact one_n w B cap s p c 4 hp hs hb ec (by omega) (by omega) hn
end Go.Proofs.YtdikfcnbkckinaaGreatDoor
