/- Package code: Number at every text. -/
import Derived.Test.YtaipdckakgohjaaGreatDoorCdC0
import Derived.Test.YtaipdckakgohjaaGreatDoorCdR2
import Derived.Test.YtaipdckakgohjaaGreatDoorGA
namespace Go.Proofs.YtaipdckakgohjaaGreatDoor
open Go.RowKit Go.Shelf

theorem skips_any (f l nu : Int) (h : Full f l) (hn : 0 ≤ nu ∧ nu ≤ 1000000000000) (w : World) :
    Calls Tryz.prog 58 #[.agg #[.int .i64 f, .int .i64 l], .int .i64 nu] w fun e w' => e = .returned (.bool (skipB f l nu)) ∧ Below w.heap.size w w' := by
  obtain ⟨f1, f2, l1, l2⟩ := h
  have q0 : 0 ≤ nu / (60 * f) := Int.ediv_nonneg hn.1 (by omega)
  have q1 : nu / (60 * f) ≤ nu := Int.ediv_le_self _ hn.1
  unfold skipB
  by_cases c : nu / (60 * f) % 10 = 0
  · rw [show decide (nu / (60 * f) % 10 ≠ 0 ∧ nu % (60 * f) < l) = false from decide_eq_false fun x => x.1 c]
    exact skips_ten f l nu (60 * f) _ (by omega) hn rfl (by omega) c w (minute_any f l ⟨f1, f2⟩)
  · exact skips_walk f l nu (60 * f) _ _ _ (by omega) hn rfl (by omega) rfl rfl c w (minute_any f l ⟨f1, f2⟩)
/-- The frame that a number has. -/
def frmI (f l nu : Int) : Int := nu - l * (nu / (60 * f) - nu / (60 * f) / 10)
theorem cframe_any (f l nu : Int) (h : Full f l) (hn : 0 ≤ nu ∧ nu ≤ 1000000000000) (w : World) :
    Calls Tryz.prog 59 #[.agg #[.int .i64 f, .int .i64 l], .int .i64 nu] w fun e w' => e = .returned (.int .i64 (frmI f l nu)) ∧ Below w.heap.size w w' := by
  obtain ⟨f1, f2, l1, l2⟩ := h
  have q0 : 0 ≤ nu / (60 * f) := Int.ediv_nonneg hn.1 (by omega)
  have q1 : nu / (60 * f) ≤ nu := Int.ediv_le_self _ hn.1
  have e1 : 0 ≤ l * (nu / (60 * f) - nu / (60 * f) / 10) := Int.mul_nonneg l1 (by omega)
  have e2 : l * (nu / (60 * f) - nu / (60 * f) / 10) ≤ 4 * 1000000000000 := Int.mul_le_mul l2 (by omega) (by omega) (by omega)
  exact frame_walk f l nu (60 * f) _ (by omega) hn rfl (by omega) ⟨e1, by omega⟩ w (minute_any f l ⟨f1, f2⟩)
theorem frm_in (f l nu : Int) (h : Full f l) (hn : 0 ≤ nu ∧ nu ≤ 1000000000000) : I64 (frmI f l nu) := by
  obtain ⟨f1, f2, l1, l2⟩ := h
  have q0 : 0 ≤ nu / (60 * f) := Int.ediv_nonneg hn.1 (by omega)
  have q1 : nu / (60 * f) ≤ nu := Int.ediv_le_self _ hn.1
  have e1 : 0 ≤ l * (nu / (60 * f) - nu / (60 * f) / 10) := Int.mul_nonneg l1 (by omega)
  have e2 : l * (nu / (60 * f) - nu / (60 * f) / 10) ≤ 4 * 1000000000000 := Int.mul_le_mul l2 (by omega) (by omega) (by omega)
  unfold frmI I64
  omega
theorem read_bound (hours per dg : Nat) (mark : UInt8) (ds : Bool) (l : List UInt8) (hdg : dg ≤ 3) (hper : per ≤ 1000) : 0 ≤ (readA hours mark per dg ds l).1 ∧ (readA hours mark per dg ds l).1 ≤ 1000000000000 := by
  unfold readA
  split
  · exact ⟨by simp, by simp⟩
  · split
    · exact ⟨by simp, by simp⟩
    · split
      · rename_i h _ _
        have b1 := hours_bound hours ds (l.take (l.length - 6 - dg))
        have b2 := dig_bound ((l.drop (l.length - 6 - dg)).take 2) 2 (by simp; omega) (by omega)
        have b3 := dig_bound ((l.drop (l.length - 6 - dg + 3)).take 2) 2 (by simp; omega) (by omega)
        have b4 := dig_bound (l.drop (l.length - 6 - dg + 6)) 3 (by simp; omega) (by omega)
        generalize (hoursA hours ds (l.take (l.length - 6 - dg))).1 = a at *
        generalize (digA ((l.drop (l.length - 6 - dg)).take 2)).1 = b at *
        generalize (digA ((l.drop (l.length - 6 - dg + 3)).take 2)).1 = c at *
        generalize (digA (l.drop (l.length - 6 - dg + 6))).1 = x at *
        have v1 : 0 ≤ ((a * 60 + b) * 60 + c) * (per : Int) := Int.mul_nonneg (by omega) (by omega)
        have v2 : ((a * 60 + b) * 60 + c) * (per : Int) ≤ 10000000 * 1000 := Int.mul_le_mul (by omega) (by omega) (by omega) (by omega)
        show 0 ≤ ((a * 60 + b) * 60 + c) * (per : Int) + x ∧ ((a * 60 + b) * 60 + c) * (per : Int) + x ≤ 1000000000000
        omega
      · exact ⟨by simp, by simp⟩
/-- What a rate's label reads as: its number; is it one? -/
def readF (n d : Int) (dr : Bool) (s : List UInt8) : Int × Bool := readA 2 (if dr = true then 59 else 58) (fullI n d).toNat (if 100 < fullI n d then 3 else 2) false s
/-- What a number that is read says. -/
def toldF (n d : Int) (dr : Bool) (r : Int × Bool) : Int × Int :=
  if r.2 = false then (0, 13)
  else if skipB (fullI n d) (if dr = true then leftI n d else 0) r.1 = true then (0, 15)
  else if 0 ≤ frmI (fullI n d) (if dr = true then leftI n d else 0) r.1 ∧ frmI (fullI n d) (if dr = true then leftI n d else 0) r.1 * d ≤ 360000 * n then (frmI (fullI n d) (if dr = true then leftI n d else 0) r.1, 0)
  else (0, 31)
def numF (n d : Int) (dr : Bool) (s : List UInt8) : Int × Int := if checkI n d dr = 0 then toldF n d dr (readF n d dr s) else (0, 14)
theorem cnum_any (n d : Int) (dr : Bool) (hn : I64 n) (hd : I64 d) (s : List UInt8) (hs : s.length ≤ 9223372036854775807) (w : World) :
    Calls Tryz.prog 23 #[.agg #[.int .i64 n, .int .i64 d, .bool dr], .string (bs s)] w fun e w' => e = .returned (.tuple #[.int .i64 (numF n d dr s).1, .int .i64 (numF n d dr s).2]) ∧ Below w.heap.size w w' := by
  have HC := check_any n d dr hn hd
  unfold numF
  rcases check_two n d dr with h | h
  · rw [if_pos h]
    rw [h] at HC
    obtain ⟨n1, d1, _, nd, hF⟩ := full_ok n d dr h
    have f1 := hF.1
    have f2 := hF.2.1
    have HN := count_any n d dr n1 d1
    have HD := cdial_any (fullI n d) (if dr = true then leftI n d else 0) dr ⟨hF.1, hF.2.1⟩
    have HR := read_any 2 (fullI n d).toNat (if 100 < fullI n d then 3 else 2) (if dr = true then 59 else 58) false s (by split <;> omega) (by omega) hs
    have rb := read_bound 2 (fullI n d).toNat (if 100 < fullI n d then 3 else 2) (if dr = true then 59 else 58) false s (by split <;> omega) (by omega)
    rw [show (((fullI n d).toNat : Nat) : Int) = fullI n d by omega, show (((if 100 < fullI n d then 3 else 2 : Nat) : Nat) : Int) = (if 100 < fullI n d then (3 : Int) else 2) by split <;> rfl, show (((if dr = true then 59 else 58 : UInt8).toNat : Nat) : Int) = (if dr = true then (59 : Int) else 58) by split <;> rfl] at HR
    unfold readF
    generalize readA 2 (if dr = true then 59 else 58) (fullI n d).toNat (if 100 < fullI n d then 3 else 2) false s = r at *
    obtain ⟨nu, ok⟩ := r
    unfold toldF
    cases ok
    · rw [if_pos rfl]
      exact number_form n d _ _ _ _ _ _ _ dr false s w HC HN HD HR
    · rw [if_neg (by simp)]
      have HK := skips_any (fullI n d) (if dr = true then leftI n d else 0) nu hF rb
      cases hk : skipB (fullI n d) (if dr = true then leftI n d else 0) nu
      · rw [hk] at HK
        rw [if_neg (by simp)]
        have HF := cframe_any (fullI n d) (if dr = true then leftI n d else 0) nu hF rb
        have HT := ctime_any n d dr hn hd _ (frm_in _ _ nu hF rb)
        rw [time_form n d dr _ h] at HT
        by_cases c : 0 ≤ frmI (fullI n d) (if dr = true then leftI n d else 0) nu ∧ frmI (fullI n d) (if dr = true then leftI n d else 0) nu * d ≤ 360000 * n
        · rw [if_pos c] at HT ⊢
          exact number_ok n d _ _ _ _ _ _ _ _ _ _ dr false s w HC HN HD HR HK HF HT
        · rw [if_neg c] at HT ⊢
          exact number_out n d _ _ _ _ _ _ _ _ _ _ 31 dr false s rfl w HC HN HD HR HK HF HT
      · rw [hk] at HK
        rw [if_pos rfl]
        exact number_drop n d _ _ _ _ _ _ _ dr false s w HC HN HD HR HK
  · rw [if_neg (by omega)]
    rw [h] at HC
    exact number_bad n d 14 dr s rfl w HC
end Go.Proofs.YtaipdckakgohjaaGreatDoor
