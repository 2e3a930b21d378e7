/- What CodeTurns reads: contracts of the reference's Clock, RateText, Label at what it hands on. -/
import Derived.Test.YtaipdckakgohjaaGreatDoorGF
import Derived.Test.YtaipdckakgohjaaGreatDoorGE
import Derived.Test.YtaipdckakgohjaaGreatDoorGB
namespace Go.Proofs.YtaipdckakgohjaaGreatDoor
open Go.RowKit Go.Shelf
open Go.Lib (decDigits)

theorem time_wholeT (k : Nat) (hk : k ≤ 360000) : timeA ⟨k, 1⟩ = 0 := by
  unfold timeA
  have r : rightB ⟨(k : Int), 1⟩ = true := (right_iff _).2 ⟨by simp, by simp, by simp only; omega, by simp only; omega, by simp⟩
  rw [if_pos ⟨r, by simp⟩, if_neg]
  rintro (x | x)
  · simp only at x
    omega
  · unfold cmpI at x
    simp only [Int.mul_one] at x
    split at x
    · omega
    · split at x <;> omega
theorem pad_le (x k : Nat) (hx : x ≤ 9223372036854775807) (hk : k ≤ 3) : (padL x k).length ≤ 100 := by
  have := dd_len6 x hx
  rw [pad_len]
  omega
theorem rclk_1 (k : Nat) (hk : k ≤ 360000) : ∃ c : List UInt8, (1 ≤ c.length ∧ c.length ≤ 100) ∧ ∀ w : World, Calls Tryz.prog 12 #[.int .i64 1, .agg #[.int .i64 k, .int .i64 1]] w fun e w' => e = .returned (.tuple #[.string (bs c), .int .i64 0]) ∧ Below w.heap.size w w' := by
  have HG := rgridB 1
  rw [show gridG 1 = 1000 from rfl] at HG
  have HT := timed_any ⟨k, 1⟩
  rw [time_wholeT k hk] at HT
  obtain ⟨n, hn⟩ : ∃ n : Nat, k * 1000 = n := ⟨_, rfl⟩
  refine ⟨dialL 2 44 1000 3 n, dial_len 2 44 1000 3 n (by omega) (by omega) (by omega) (by omega) (by omega) (by omega), fun w => ?_⟩
  exact rclock_1 k 1 n 1000 (n / 1000) (n / 1000 / 60) (n / 1000 / 3600) (n / 1000 / 60 % 60) (n / 1000 % 60) (n % 1000) (padL (n / 1000 / 3600) 2) (padL (n / 1000 / 60 % 60) 2) (padL (n / 1000 % 60) 2) (padL (n % 1000) 3) (pad_le _ _ (by omega) (by omega)) (pad_le _ _ (by omega) (by omega)) (pad_le _ _ (by omega) (by omega)) (pad_le _ _ (by omega) (by omega)) (by omega) (by omega) (by omega) (by omega) (by omega) (by omega) (by omega) (by omega) (by omega) (by omega) (by omega) w HG HT (rdigits_any _ 2 (by omega) (by omega) (by omega)) (rdigits_any _ 2 (by omega) (by omega) (by omega)) (rdigits_any _ 2 (by omega) (by omega) (by omega)) (rdigits_any _ 3 (by omega) (by omega) (by omega))
theorem rclk_2 (k : Nat) (hk : k ≤ 360000) : ∃ c : List UInt8, (1 ≤ c.length ∧ c.length ≤ 100) ∧ ∀ w : World, Calls Tryz.prog 12 #[.int .i64 2, .agg #[.int .i64 k, .int .i64 1]] w fun e w' => e = .returned (.tuple #[.string (bs c), .int .i64 0]) ∧ Below w.heap.size w w' := by
  have HG := rgridB 2
  rw [show gridG 2 = 1000 from rfl] at HG
  have HT := timed_any ⟨k, 1⟩
  rw [time_wholeT k hk] at HT
  obtain ⟨n, hn⟩ : ∃ n : Nat, k * 1000 = n := ⟨_, rfl⟩
  refine ⟨dialL 2 46 1000 3 n, dial_len 2 46 1000 3 n (by omega) (by omega) (by omega) (by omega) (by omega) (by omega), fun w => ?_⟩
  exact rclock_2 k 1 n 1000 (n / 1000) (n / 1000 / 60) (n / 1000 / 3600) (n / 1000 / 60 % 60) (n / 1000 % 60) (n % 1000) (padL (n / 1000 / 3600) 2) (padL (n / 1000 / 60 % 60) 2) (padL (n / 1000 % 60) 2) (padL (n % 1000) 3) (pad_le _ _ (by omega) (by omega)) (pad_le _ _ (by omega) (by omega)) (pad_le _ _ (by omega) (by omega)) (pad_le _ _ (by omega) (by omega)) (by omega) (by omega) (by omega) (by omega) (by omega) (by omega) (by omega) (by omega) (by omega) (by omega) (by omega) w HG HT (rdigits_any _ 2 (by omega) (by omega) (by omega)) (rdigits_any _ 2 (by omega) (by omega) (by omega)) (rdigits_any _ 2 (by omega) (by omega) (by omega)) (rdigits_any _ 3 (by omega) (by omega) (by omega))
theorem rclk_4 (k : Nat) (hk : k ≤ 360000) : ∃ c : List UInt8, (1 ≤ c.length ∧ c.length ≤ 100) ∧ ∀ w : World, Calls Tryz.prog 12 #[.int .i64 4, .agg #[.int .i64 k, .int .i64 1]] w fun e w' => e = .returned (.tuple #[.string (bs c), .int .i64 0]) ∧ Below w.heap.size w w' := by
  have HG := rgridB 4
  rw [show gridG 4 = 100 from rfl] at HG
  have HT := timed_any ⟨k, 1⟩
  rw [time_wholeT k hk] at HT
  obtain ⟨n, hn⟩ : ∃ n : Nat, k * 100 = n := ⟨_, rfl⟩
  refine ⟨dialL 1 46 100 2 n, dial_len 1 46 100 2 n (by omega) (by omega) (by omega) (by omega) (by omega) (by omega), fun w => ?_⟩
  exact rclock_4 k 1 n 100 (n / 100) (n / 100 / 60) (n / 100 / 3600) (n / 100 / 60 % 60) (n / 100 % 60) (n % 100) (padL (n / 100 / 3600) 2) (padL (n / 100 / 60 % 60) 2) (padL (n / 100 % 60) 2) (padL (n % 100) 2) (padL (n / 100 / 3600) 1) (pad_le _ _ (by omega) (by omega)) (pad_le _ _ (by omega) (by omega)) (pad_le _ _ (by omega) (by omega)) (pad_le _ _ (by omega) (by omega)) (by omega) (by omega) (by omega) (by omega) (by omega) (by omega) (by omega) (by omega) (by omega) (by omega) (by omega) w HG HT (rdigits_any _ 2 (by omega) (by omega) (by omega)) (rdigits_any _ 2 (by omega) (by omega) (by omega)) (rdigits_any _ 2 (by omega) (by omega) (by omega)) (rdigits_any _ 2 (by omega) (by omega) (by omega)) (rdigits_any _ 1 (by omega) (by omega) (by omega))
theorem rclk_any (fm : Int) (k : Nat) (hk : k ≤ 360000) : ∃ (c : List UInt8) (f : Int), ((f != 0) = false → 1 ≤ c.length ∧ c.length ≤ 100) ∧ ∀ w : World, Calls Tryz.prog 12 #[.int .i64 fm, .agg #[.int .i64 k, .int .i64 1]] w fun e w' => e = .returned (.tuple #[.string (bs c), .int .i64 f]) ∧ Below w.heap.size w w' := by
  by_cases h1 : fm = 1
  · subst h1
    obtain ⟨c, h, H⟩ := rclk_1 k hk
    exact ⟨c, 0, fun _ => h, H⟩
  · by_cases h2 : fm = 2
    · subst h2
      obtain ⟨c, h, H⟩ := rclk_2 k hk
      exact ⟨c, 0, fun _ => h, H⟩
    · by_cases h4 : fm = 4
      · subst h4
        obtain ⟨c, h, H⟩ := rclk_4 k hk
        exact ⟨c, 0, fun _ => h, H⟩
      · have HG := rgridB fm
        rw [show gridG fm = 0 by unfold gridG; rw [if_neg (by omega), if_neg h4]] at HG
        exact ⟨[], 5, fun x => absurd x (by decide), fun w => rclock_kind fm k 1 w HG⟩
theorem pad1T (m : Nat) : padL m 1 = decDigits m := by
  unfold padL
  have := dd_pos m
  rw [show 1 - (decDigits m).length = 0 by omega]
  rfl
theorem rateL_len (n d : Nat) (dr : Bool) (hn : n < 1000000000) (hd : d < 1000000000) : 1 ≤ (rateL n d dr).length ∧ (rateL n d dr).length ≤ 100 := by
  have a := dd_pos n
  have b := dd_len 8 n (by omega)
  have c := dd_len 8 d (by omega)
  unfold rateL tailR lastR
  by_cases e : d = 1
  · rw [if_pos e]
    cases dr <;> simp <;> omega
  · rw [if_neg e]
    cases dr <;> simp <;> omega
theorem rrtext_ok (n d : Nat) (dr : Bool) (h : checkI n d dr = 0) (w : World) :
    Calls Tryz.prog 14 #[.agg #[.int .i64 n, .int .i64 d, .bool dr]] w fun e w' => e = .returned (.tuple #[.string (bs (rateL n d dr)), .int .i64 0]) ∧ Below w.heap.size w w' := by
  obtain ⟨n1, d1, _, _, _⟩ := full_ok n d dr h
  have H1 := rcheck_any n d dr
  rw [h] at H1
  have G1 := rdigits_any n 1 (by omega) (by omega) (by omega)
  have G2 := rdigits_any d 1 (by omega) (by omega) (by omega)
  rw [pad1T] at G1 G2
  have la := dd_len6 n (by omega)
  have lb := dd_len6 d (by omega)
  by_cases e1 : d = 1
  · cases dr
    · have := rrt_onef n _ w (by subst e1; exact H1) G1
      subst e1
      unfold rateL tailR lastR
      simp only [if_true, Bool.false_eq_true, if_false, List.append_nil]
      exact this
    · exact absurd (by omega) (drop_den h)
  · have e2 : ((d : Int) != 1) = true := by rw [bne_iff_ne]; omega
    cases dr
    · have := rrt_twof n d _ la _ lb e2 w H1 G1 G2
      unfold rateL tailR lastR
      rw [if_neg e1]
      simp only [Bool.false_eq_true, if_false, List.append_nil]
      refine this.mono ?_
      rintro e w' ⟨rfl, b⟩
      refine ⟨?_, b⟩
      simp
    · have := rrt_twot n d _ la _ lb e2 w H1 G1 G2
      unfold rateL tailR lastR
      rw [if_neg e1]
      simp only [if_true]
      refine this.mono ?_
      rintro e w' ⟨rfl, b⟩
      refine ⟨?_, b⟩
      simp
theorem label_len (n d : Int) (dr : Bool) (fr : Int) (h : checkI n d dr = 0) (hb : 0 ≤ fr ∧ fr * d ≤ 360000 * n) : 1 ≤ (labelF n d dr fr).length ∧ (labelF n d dr fr).length ≤ 100 := by
  obtain ⟨n1, d1, _, nd, hF⟩ := full_ok n d dr h
  have f1 := hF.1
  have f2 := hF.2.1
  have k := num_hours _ _ fr hF hb.1 (frame_few n d fr dr h hb.2)
  unfold labelF
  exact dial_len 2 _ _ _ _ (by omega) (by omega) (by split <;> omega) (by split <;> omega) (by split <;> omega) k.1
end Go.Proofs.YtaipdckakgohjaaGreatDoor
