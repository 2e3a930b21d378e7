/- Package code: contracts of Grid, Time, Label; surtitlelaw5.known. -/
import Derived.Test.YtaipdckakgohjaaDoorCdB
import Derived.Test.YtaipdckakgohjaaDoorCdC
import Derived.Test.YtaipdckakgohjaaDoorCdE
import Derived.Test.YtaipdckakgohjaaDoorCdG
import Derived.Test.YtaipdckakgohjaaDoorCdK
import Derived.Test.YtaipdckakgohjaaDoorCdR
namespace Go.Proofs.YtaipdckakgohjaaDoor
open Go.RowKit Go.Shelf

theorem low_in (q : Rat) : RtIn (low q).1 := by
  unfold low
  split
  · rename_i h
    have := of_decide_eq_true h
    have := q.den_pos
    unfold RtIn I64
    simp only
    omega
  · unfold RtIn I64
    simp
theorem mulA_in (a b : Rt) : RtIn (mulA a b).1 := by
  unfold mulA
  split
  · exact low_in _
  · unfold RtIn I64 bad; simp
theorem check_two (n d : Int) (dr : Bool) : checkI n d dr = 0 ∨ checkI n d dr = 14 := by
  unfold checkI
  split
  · exact .inl rfl
  · exact .inr rfl
def gridF (n d : Int) (dr : Bool) : Rt × Int := if checkI n d dr = 0 then (⟨d, n⟩, 0) else bad 14
theorem grid_any (n d : Int) (dr : Bool) (hn : I64 n) (hd : I64 d) (w : World) :
    Calls Tryd.prog 17 #[.agg #[.int .i64 n, .int .i64 d, .bool dr]] w fun e w' => e = .returned (.tuple #[rtv (gridF n d dr).1, .int .i64 (gridF n d dr).2]) ∧ Below w.heap.size w w' := by
  have HC := check_any n d dr hn hd
  unfold gridF
  by_cases h : checkI n d dr = 0
  · rw [if_pos h]
    rw [h] at HC
    exact grid_ok n d dr w HC
  · rw [if_neg h]
    have h14 := (check_two n d dr).resolve_left h
    rw [h14] at HC
    exact grid_bad n d 14 dr rfl w HC
def timeF (n d : Int) (dr : Bool) (fr : Int) : Rt × Int :=
  if checkI n d dr = 0 then (if (mulA ⟨fr, 1⟩ ⟨d, n⟩).2 = 0 ∧ timeA (mulA ⟨fr, 1⟩ ⟨d, n⟩).1 = 0 then ((mulA ⟨fr, 1⟩ ⟨d, n⟩).1, 0) else bad 31) else bad 14
theorem ctime_any (n d : Int) (dr : Bool) (hn : I64 n) (hd : I64 d) (fr : Int) (hf : I64 fr) (w : World) :
    Calls Tryd.prog 22 #[.agg #[.int .i64 n, .int .i64 d, .bool dr], .int .i64 fr] w fun e w' => e = .returned (.tuple #[rtv (timeF n d dr fr).1, .int .i64 (timeF n d dr fr).2]) ∧ Below w.heap.size w w' := by
  have HG := grid_any n d dr hn hd
  unfold gridF at HG
  unfold timeF
  by_cases h : checkI n d dr = 0
  · rw [if_pos h]
    rw [if_pos h] at HG
    have HM := mul_any ⟨fr, 1⟩ ⟨d, n⟩ ⟨hf, by unfold I64; simp⟩ ⟨hd, hn⟩
    have HT := time_any _ (mulA_in ⟨fr, 1⟩ ⟨d, n⟩)
    by_cases h1 : (mulA ⟨fr, 1⟩ ⟨d, n⟩).2 = 0
    · rw [h1] at HM
      by_cases h2 : timeA (mulA ⟨fr, 1⟩ ⟨d, n⟩).1 = 0
      · rw [if_pos ⟨h1, h2⟩]
        rw [h2] at HT
        exact ctime_ok n d fr _ _ _ _ dr w HG HM HT
      · rw [if_neg fun x => h2 x.2]
        exact ctime_out n d fr _ _ _ _ _ dr (by simpa using h2) w HG HM HT
    · rw [if_neg fun x => h1 x.1]
      exact ctime_mul n d fr _ _ _ _ _ dr (by simpa using h1) w HG HM
  · rw [if_neg h]
    rw [if_neg h] at HG
    exact ctime_bad n d fr 14 dr rfl w HG
theorem full_ok (n d : Int) (dr : Bool) (h : checkI n d dr = 0) : (1 ≤ n ∧ n ≤ 240000) ∧ (1 ≤ d ∧ d ≤ 1001) ∧ d ≤ n ∧ n ≤ d * 240 ∧ Full (fullI n d) (if dr = true then leftI n d else 0) := by
  unfold checkI at h
  by_cases c : 1 ≤ n ∧ n ≤ 240000 ∧ 1 ≤ d ∧ d ≤ 1001 ∧ d ≤ n ∧ n ≤ d * 240 ∧ rightB ⟨n, d⟩ = true ∧ (dr = true → leftI n d ≠ 0)
  · obtain ⟨c1, c2, c3, c4, c5, c6, _, _⟩ := c
    refine ⟨⟨c1, c2⟩, ⟨c3, c4⟩, c5, c6, ?_⟩
    have f1 : 1 ≤ fullI n d := by
      unfold fullI
      exact (Int.le_ediv_iff_mul_le (by omega)).2 (by omega)
    have f2 : fullI n d ≤ 240 := by
      unfold fullI
      have : (n + d - 1) / d < 241 := (Int.ediv_lt_iff_lt_mul (by omega)).2 (by omega)
      omega
    have f3 : 0 ≤ leftI n d ∧ leftI n d ≤ 4 := by
      unfold leftI
      split
      · omega
      · split <;> omega
    unfold Full
    split <;> omega
  · rw [if_neg c] at h
    cases h
theorem known5_any (w : World) (hp : PowAt w) :
    Calls Tryd.prog 15 #[] w fun e w' => e = .returned (.bool true) ∧ Below w.heap.size w w' := by
  have T1 := ctime_any 24000 1001 false (by unfold I64; simp) (by unfold I64; simp) 24 (by unfold I64; simp)
  rw [show timeF 24000 1001 false 24 = (⟨1001, 1000⟩, 0) by kernel_rfl] at T1
  have T3 := ctime_any 30000 1001 true (by unfold I64; simp) (by unfold I64; simp) 1800 (by unfold I64; simp)
  rw [show timeF 30000 1001 true 1800 = (⟨3003, 50⟩, 0) by kernel_rfl] at T3
  have C3 := check_any 30000 1001 true (by unfold I64; simp) (by unfold I64; simp)
  rw [show checkI 30000 1001 true = 0 by kernel_rfl] at C3
  have N3 := count_any 30000 1001 true (by simp) (by simp)
  rw [show fullI 30000 1001 = 30 by rfl, if_pos rfl, show leftI 30000 1001 = 2 by rfl] at N3
  have D3 := cdial_any 30 2 true (by simp)
  rw [if_pos rfl, if_neg (by simp)] at D3
  have U3 := cnumber_any 30 2 1800 (by unfold Full; simp) (by simp)
  rw [show numI 30 2 1800 = 1802 by rfl] at U3
  have K2 := mul_any ⟨7, 2⟩ ⟨1000, 1⟩ (by unfold RtIn I64; simp) (by unfold RtIn I64; simp)
  rw [show mulA ⟨7, 2⟩ ⟨1000, 1⟩ = (⟨3500, 1⟩, 0) by kernel_rfl] at K2
  have K3 := time_any ⟨7, 2⟩ (by unfold RtIn I64; simp)
  rw [show timeA ⟨7, 2⟩ = 0 by kernel_rfl] at K3
  have O2 := dialOf_any 1
  rw [if_pos rfl] at O2
  have W2 := fun (w0 : World) (b0 : Below w.heap.size w w0) => write_any 2 44 1000 3 3500 false (by omega) (by omega) (by omega) (by omega) w0 (hp.keep b0)
  rw [show dialL 2 44 1000 3 3500 = [48, 48, 58, 48, 48, 58, 48, 51, 44, 53, 48, 48] by kernel_rfl] at W2
  have W3 := fun (w0 : World) (b0 : Below w.heap.size w w0) => write_any 2 59 30 2 1802 false (by omega) (by omega) (by omega) (by omega) w0 (hp.keep b0)
  rw [show dialL 2 59 30 2 1802 = [48, 48, 58, 48, 49, 58, 48, 48, 59, 48, 50] by kernel_rfl] at W3
  have R0 := hours_any 2 59 30 2 false [48, 48, 58] (by simp)
  rw [show hoursA 2 false [48, 48, 58] = (0, true) by kernel_rfl] at R0
  have R1 := fun w => below_walk 60 1 true [48, 49] w (digits_tup [48, 49] (by simp) 1 true (by kernel_rfl))
  have R2 := fun w => below_walk 60 0 true [48, 48] w (digits_tup [48, 48] (by simp) 0 true (by kernel_rfl))
  have R3 := fun w => below_walk 30 1 true [48, 49] w (digits_tup [48, 49] (by simp) 1 true (by kernel_rfl))
  have RD := fun w => read_walk 2 30 2 3 5 6 8 9 59 false [48, 48, 58, 48, 49, 58, 48, 48, 59, 48, 49] [48, 48, 58] [48, 49] [48, 48] [48, 49] 0 1 0 1 true true true true (by simp) (by simp) rfl rfl rfl rfl (by omega) (by decide) (by decide) rfl rfl (by kernel_rfl) (by kernel_rfl) (by kernel_rfl) (by kernel_rfl) (by omega) (fun _ => ⟨by omega, by omega, by omega, by omega⟩) w R0 R1 R2 R3
  have SK := fun w => skips_walk 30 2 1801 1800 1 1 1 (by omega) (by omega) rfl (by omega) rfl rfl (by omega) w (minute_any 30 2 (by omega))
  exact known5_walk w T1 (fun w0 b0 => clock_walk 1 7 2 _ _ _ _ 3500 false _ w0 O2 K3 K2 (fun w1 b1 => W2 w1 (bup b0 b1)))
    (fun w0 b0 => label_walk 30000 1001 1800 _ _ 30 2 _ _ _ _ 1802 true false _ w0 T3 N3 D3 U3 (fun w1 b1 => W3 w1 (bup b0 b1)))
    (fun w => number_drop 30000 1001 30 2 _ _ _ _ 1801 true false _ w C3 N3 D3 RD SK)
end Go.Proofs.YtaipdckakgohjaaDoor
