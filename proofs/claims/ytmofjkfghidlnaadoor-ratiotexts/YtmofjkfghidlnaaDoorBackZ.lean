/- RatioBack over all ratios and numbers. -/
import Derived.Test.YtmofjkfghidlnaaDoorBackW
import Derived.Test.YtmofjkfghidlnaaDoorRatW12
namespace Go.Proofs.YtmofjkfghidlnaaDoor
open Go.RowKit Go.Shelf
open Go.Lib (decDigits)

/-- What Text writes. -/
def txt (r : Rt) : List UInt8 := if r.N < 0 then 45 :: bare r.N.natAbs r.D.toNat else bare r.N.natAbs r.D.toNat
theorem itoa_txt (n : Int) : Lib.itoa n = if n < 0 then 45 :: decDigits n.natAbs else decDigits n.natAbs := by
  unfold Lib.itoa
  split
  · rfl
  · rw [show n.toNat = n.natAbs by omega]
theorem text_any (r : Rt) (hr : rightB r = true) (hin : RtIn r) (w : World) (hp : PowAt w) :
    Calls Tryd.prog 49 #[rtv r] w fun e w' => e = .returned (.string (bs (txt r))) ∧ Below w.heap.size w w' := by
  have ri := (right_iff r).1 hr
  have hN := hin.1
  have hD := hin.2
  have l1 := Lib.itoa_length_le r.N hN.1 hN.2
  have l2 := Lib.itoa_length_le r.D hD.1 hD.2
  by_cases h1 : r.D = 1
  · have e : txt r = Lib.itoa r.N := by
      rw [itoa_txt]
      unfold txt bare
      rw [if_pos (show r.D.toNat = 1 by omega)]
    rw [e]
    unfold rtv
    rw [h1]
    exact text_one w r.N _ (fun w0 b => format_any r.N hN w0 (hp.keep b))
  · have e : txt r = Lib.itoa r.N ++ 47 :: Lib.itoa r.D := by
      rw [itoa_txt, itoa_txt, if_neg (show ¬ r.D < 0 by omega)]
      unfold txt bare
      rw [if_neg (show ¬ r.D.toNat = 1 by omega), show r.D.natAbs = r.D.toNat by omega]
      split <;> rfl
    rw [e]
    exact text_two w r.N r.D h1 _ _ (by omega) (by omega) (fun w0 b => format_any r.N hN w0 (hp.keep b)) (fun w0 b => format_any r.D hD w0 (hp.keep b))
theorem parse_txt (r : Rt) (hr : rightB r = true) (w : World) :
    Calls Tryd.prog 47 #[.string (bs (txt r))] w fun e w' => e = .returned (.tuple #[rtv r, .int .i64 0]) ∧ Below w.heap.size w w' := by
  have ri := (right_iff r).1 hr
  have hl := low_right r hr
  unfold valQ at hl
  have eD : ((r.D.toNat : Nat) : Int) = r.D := by omega
  unfold txt
  by_cases h : r.N < 0
  · rw [if_pos h]
    have HP := prefix_any (45 :: bare r.N.natAbs r.D.toNat)
    rw [(pre_at _).1, (pre_at _).2] at HP
    have := back_parse _ true r.N.natAbs r.D.toNat (by omega) (by omega) (by omega) (fun _ => by omega) HP w
    rw [if_pos rfl, show -((r.N.natAbs : Nat) : Int) = r.N by omega, eD, hl] at this
    exact this
  · rw [if_neg h]
    have HP := prefix_any (bare r.N.natAbs r.D.toNat)
    rw [(pre_not _ (bare_not _ _)).1, (pre_not _ (bare_not _ _)).2] at HP
    have := back_parse _ false r.N.natAbs r.D.toNat (by omega) (by omega) (by omega) (fun h => by cases h) HP w
    rw [if_neg (by simp), show ((r.N.natAbs : Nat) : Int) = r.N by omega, eD, hl] at this
    exact this

theorem small_quo (P Q : Int) (hP : -2147483648 ≤ P ∧ P ≤ 2147483648) (hQ : 1 ≤ Q ∧ Q ≤ 2147483648) :
    ∃ x : Rt, low (Rat.divInt P Q) = (x, 0) ∧ rightB x = true ∧ x.N * Q = P * x.D ∧ 0 ≤ x.D ∧ x.D ≤ 2147483648 := by
  have hg : 0 < P.natAbs.gcd Q.natAbs := Nat.gcd_pos_of_pos_right _ (by omega)
  have h1 := q_num P Q (by omega)
  have h2 := q_den P Q (by omega)
  have d1 : ((P.natAbs.gcd Q.natAbs : Nat) : Int) ∣ P := Int.ofNat_dvd_left.2 (Nat.gcd_dvd_left P.natAbs Q.natAbs)
  have d2 : ((P.natAbs.gcd Q.natAbs : Nat) : Int) ∣ Q := Int.ofNat_dvd_left.2 (Nat.gcd_dvd_right P.natAbs Q.natAbs)
  have b1 := ediv_bounds P ((P.natAbs.gcd Q.natAbs : Nat) : Int) 2147483648 (by omega) (by omega) (by omega) (by omega)
  have b2 : Q / ((P.natAbs.gcd Q.natAbs : Nat) : Int) ≤ Q := Int.ediv_le_self _ (by omega)
  have hf : fitsQ (Rat.divInt P Q) = true := by
    unfold fitsQ
    rw [h1, h2]
    exact decide_eq_true ⟨by omega, by omega, by omega⟩
  refine ⟨⟨(Rat.divInt P Q).num, (Rat.divInt P Q).den⟩, low_fits _ hf, fits_right _ hf, ?_, by simp, by simp only; rw [h2]; omega⟩
  simp only
  rw [h1, h2]
  have hg0 : 0 < ((P.natAbs.gcd Q.natAbs : Nat) : Int) := by omega
  clear h1 h2 b1 b2 hf
  generalize ((P.natAbs.gcd Q.natAbs : Nat) : Int) = g at *
  obtain ⟨p, rfl⟩ := d1
  obtain ⟨q, rfl⟩ := d2
  rw [Int.mul_ediv_cancel_left _ (by omega), Int.mul_ediv_cancel_left _ (by omega), Int.mul_left_comm, Int.mul_assoc]

theorem back_any (r : Rt) (hin : RtIn r) (n : Int) (hn0 : IntKind.i32.min ≤ n ∧ n ≤ IntKind.i32.max) (d : Int) (hd0 : IntKind.i32.min ≤ d ∧ d ≤ IntKind.i32.max) (w : World) (hp : PowAt w) :
    Calls Tryd.prog 14 #[rtv r, .int .i32 n, .int .i32 d] w fun e w' => e = .returned (.bool true) ∧ Below w.heap.size w w' := by
  have hn : -2147483648 ≤ n ∧ n ≤ 2147483647 := hn0
  have hd : -2147483648 ≤ d ∧ d ≤ 2147483647 := hd0
  have HN := new_any n d ⟨by omega, by omega⟩ ⟨by omega, by omega⟩
  have HT : rightB r = true → ∀ w0, Below w.heap.size w w0 → Calls Tryd.prog 49 #[rtv r] w0 fun e w' => e = .returned (.string (bs (txt r))) ∧ Below w0.heap.size w0 w' := fun hr w0 b => text_any r hr hin w0 (hp.keep b)
  by_cases h0 : d = 0
  · subst h0
    have e : newA n 0 = bad 11 := by unfold newA; rw [if_pos rfl]
    rw [e] at HN
    exact back_walk r.N r.D n 0 _ _ _ _ _ w hn (.inl ⟨rfl, by decide⟩) (right_any r hin) HT (fun hr => parse_txt r hr) HN (fun h => absurd rfl h)
  · have key : ∃ x : Rt, newA n d = (x, 0) ∧ rightB x = true ∧ x.N * d = n * x.D ∧ 0 ≤ x.D ∧ x.D ≤ 2147483648 := by
      by_cases hs : d < 0
      · obtain ⟨x, e1, e2, e3, e4, e5⟩ := small_quo (-n) (sz d) ⟨by omega, by omega⟩ (by unfold sz; omega)
        refine ⟨x, by rw [newA_neg n d hs]; exact e1, e2, ?_, e4, e5⟩
        rw [show sz d = -d by unfold sz; omega, Int.mul_neg, Int.neg_mul] at e3
        omega
      · obtain ⟨x, e1, e2, e3, e4, e5⟩ := small_quo n (sz d) ⟨by omega, by omega⟩ (by unfold sz; omega)
        refine ⟨x, by rw [newA_pos n d (by omega)]; exact e1, e2, ?_, e4, e5⟩
        rw [show sz d = d by unfold sz; omega] at e3
        exact e3
    obtain ⟨x, e1, e2, e3, e4, e5⟩ := key
    rw [e1] at HN
    have xi := (right_iff x).1 e2
    have hb := mul_bounds (x := n) (y := x.D) (X := 2147483648) (Y := 2147483648) ⟨by omega, by omega⟩ ⟨by omega, by omega⟩
    have HR := right_any x ⟨⟨by omega, by omega⟩, ⟨by omega, by omega⟩⟩
    rw [e2] at HR
    exact back_walk r.N r.D n d x.N x.D 0 _ _ w hn (.inr ⟨h0, rfl, by omega, by omega, e3, by omega, by omega⟩) (right_any r hin) HT (fun hr => parse_txt r hr) HN (fun _ => HR)
end Go.Proofs.YtmofjkfghidlnaaDoor
