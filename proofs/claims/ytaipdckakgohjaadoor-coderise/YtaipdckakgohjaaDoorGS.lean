/- Several texts, one behind the other. -/
import Derived.Test.YtaipdckakgohjaaDoorCdC
import Derived.Test.YtaipdckakgohjaaDoorCdP
import Derived.Test.YtaipdckakgohjaaDoorCdR
/- Package code: a number of a tenth minute is not left out. -/
namespace Go.Proofs.YtaipdckakgohjaaDoor
open Go.RowKit Go.Shelf
attribute [local go_sem] Oper.semAt_some

set_option maxRecDepth 100000 in
set_option maxHeartbeats 2000000 in
theorem skips_ten (f l n M q : Int) (hM0 : 0 < M ∧ M ≤ 14400) (hn : 0 ≤ n ∧ n ≤ 1000000000000) (hq : n / M = q) (hq0 : 0 ≤ q ∧ q ≤ 1000000000000) (ht : q % 10 = 0) (w : World)
    (HM : ∀ w, Calls Tryd.prog 78 #[.agg #[.int .i64 f, .int .i64 l]] w fun e w' => e = .returned (.int .i64 M) ∧ Below w.heap.size w w') :
    Calls Tryd.prog 58 #[.agg #[.int .i64 f, .int .i64 l], .int .i64 n] w fun e w' => e = .returned (.bool false) ∧ Below w.heap.size w w' := by
  have HM := hideR HM
  have zq : ∀ w, (Op.intDiv .quo .i64 n M).run Tryd.prog w = .ok (.int .i64 q) w := fun w => by
    unfold Op.intDiv
    rw [if_neg (by omega), Int.tdiv_eq_ediv_of_nonneg (by omega), hq]
    exact congrArg (fun z => Result.ok (Value.int .i64 z) w) (by rw [IntKind.wrap_i64]; omega)
  have zt : ∀ w, (Op.intDiv .rem .i64 q 10).run Tryd.prog w = .ok (.int .i64 0) w := fun w => by
    unfold Op.intDiv
    rw [if_neg (by omega), Int.tmod_eq_emod_of_nonneg (by omega), ht]
    rfl
  have hq10 : q.tmod 10 = 0 := by rw [Int.tmod_eq_emod_of_nonneg (by omega), ht]
  go_enter Tryd.func58, Tryd.ntmps58
  go_wp2_with fail
  have C0 := (Two.new w (.int .i64 f) (.int .i64 l) 71)
  first
    | (go_region_with (first
    | (go_at_call 78; have _ := B1; fail)
    | (go_at_call 78; refine (HM.out _).mono ?_; rintro e w1 ⟨rfl, b1⟩; have C1 := C0.drew.keep b1; have B1 := bup (bel1 w (.cells #[.int .i64 f, .int .i64 l] 71)).drew b1; obtain ⟨_, c0, c1, _, _⟩ := id C1)))
    | fail
  all_goals (try go_wp2_with fail)
  all_goals (go_ret; exact ⟨by first | rfl | go_simp, B1⟩)
end Go.Proofs.YtaipdckakgohjaaDoor

/- Package code: a dial's text read, at every text. -/
namespace Go.Proofs.YtaipdckakgohjaaDoor
open Go.RowKit Go.Shelf
attribute [local go_sem] Oper.semAt_some bs_toList

set_option maxRecDepth 100000 in
set_option maxHeartbeats 2000000 in
theorem read_m2 (hours per dg k k2 k5 : Nat) (mark : UInt8) (ds : Bool) (l : List UInt8) (hl : (l.length : Int) - 6 - (dg : Int) = (k : Int)) (hlb : l.length ≤ 9223372036854775807) (e2 : (k : Int) + 2 = (k2 : Int)) (e5 : (k : Int) + 5 = (k5 : Int)) (hdg : dg ≤ 3)
    (g2 : k2 < (bs l).size) (_g5 : k5 < (bs l).size) (m2 : ¬ (bs l)[k2] = 58) (w : World) :
    Calls Tryd.prog 57 #[.agg #[.int .i64 hours, .int .u8 mark.toNat, .int .i64 per, .int .i64 dg, .bool ds], .string (bs l)] w fun e w' => e = .returned (.tuple #[.int .i64 0, .bool false]) ∧ Below w.heap.size w w' := by
  have hsz := bs_size l
  have z1 : ((bs l).size : Int) - 6 - (dg : Int) = (k : Int) := by omega
  have z2 : (k2 : Int) < ((bs l).size : Int) := by omega
  have z5 : (k5 : Int) < ((bs l).size : Int) := by omega
  have gk : decide ((k : Int) < 0) = false := decide_eq_false (by omega)
  have w2 : IntKind.i64.wrap ((k : Int) + 2) = (k2 : Int) := by rw [IntKind.wrap_i64]; omega
  have w5 : IntKind.i64.wrap ((k : Int) + 5) = (k5 : Int) := by rw [IntKind.wrap_i64]; omega
  have m3 : ¬ (bs l)[k2].toNat = 58 := fun h => m2 (UInt8.toNat_inj.1 h)
  have n2 : (((bs l)[k2].toNat : Int) != 58) = true := by
    rw [bne_iff_ne]
    omega
  have zl : ((bs l).size : Int) ≤ 9223372036854775807 := by omega
  clear hsz hl hlb
  go_enter Tryd.func57, Tryd.ntmps57
  go_wp2_with fail
  go_quiet (fail)
  go_wp2_with fail
  go_ret2
  exact ⟨rfl, below_drewN (bel1 w _) _⟩
set_option maxRecDepth 100000 in
set_option maxHeartbeats 2000000 in
theorem read_m5 (hours per dg k k2 k5 : Nat) (mark : UInt8) (ds : Bool) (l : List UInt8) (hl : (l.length : Int) - 6 - (dg : Int) = (k : Int)) (hlb : l.length ≤ 9223372036854775807) (e2 : (k : Int) + 2 = (k2 : Int)) (e5 : (k : Int) + 5 = (k5 : Int)) (hdg : dg ≤ 3)
    (g2 : k2 < (bs l).size) (g5 : k5 < (bs l).size) (m2 : (bs l)[k2] = 58) (m5 : ¬ (bs l)[k5] = mark) (w : World) :
    Calls Tryd.prog 57 #[.agg #[.int .i64 hours, .int .u8 mark.toNat, .int .i64 per, .int .i64 dg, .bool ds], .string (bs l)] w fun e w' => e = .returned (.tuple #[.int .i64 0, .bool false]) ∧ Below w.heap.size w w' := by
  have hsz := bs_size l
  have z1 : ((bs l).size : Int) - 6 - (dg : Int) = (k : Int) := by omega
  have z2 : (k2 : Int) < ((bs l).size : Int) := by omega
  have z5 : (k5 : Int) < ((bs l).size : Int) := by omega
  have gk : decide ((k : Int) < 0) = false := decide_eq_false (by omega)
  have w2 : IntKind.i64.wrap ((k : Int) + 2) = (k2 : Int) := by rw [IntKind.wrap_i64]; omega
  have w5 : IntKind.i64.wrap ((k : Int) + 5) = (k5 : Int) := by rw [IntKind.wrap_i64]; omega
  have n2 : (((bs l)[k2].toNat : Int) != 58) = false := by rw [m2]; rfl
  have m6 : ¬ (bs l)[k5].toNat = mark.toNat := fun h => m5 (UInt8.toNat_inj.1 h)
  have n5 : (((bs l)[k5].toNat : Int) != (mark.toNat : Int)) = true := by
    rw [bne_iff_ne]
    omega
  have zl : ((bs l).size : Int) ≤ 9223372036854775807 := by omega
  clear hsz hl hlb
  go_enter Tryd.func57, Tryd.ntmps57
  go_wp2_with fail
  go_quiet (fail)
  go_wp2_with fail
  go_ret2
  exact ⟨rfl, below_drewN (bel1 w _) _⟩
theorem bs_cut (l : List UInt8) (a b : Nat) : (bs l).extract a b = bs ((l.drop a).take (b - a)) := by
  apply ByteArray.ext
  simp [bs]
theorem head_drop (l : List UInt8) (k : Nat) (hk : k < l.length) : (l.drop k).head? = some (l[k]'hk) := by
  rw [List.head?_drop, List.getElem?_eq_getElem hk]
theorem dig_bound (l : List UInt8) (k : Nat) (h : l.length ≤ k) (hk : k ≤ 3) : 0 ≤ (digA l).1 ∧ (digA l).1 ≤ 1000 := by
  unfold digA
  by_cases c : l.all isDig = true
  · rw [if_pos c]
    refine ⟨by simp, ?_⟩
    show ((valN l : Nat) : Int) ≤ 1000
    have hv := valN_lt l c l.length (Nat.le_refl _)
    rw [List.take_length] at hv
    have : (10 : Nat) ^ l.length ≤ 10 ^ 3 := Nat.pow_le_pow_right (by omega) (by omega)
    omega
  · rw [if_neg c]
    exact ⟨by simp, by simp⟩
theorem hours_bound (hours : Nat) (short : Bool) (l : List UInt8) : 0 ≤ (hoursA hours short l).1 ∧ (hoursA hours short l).1 ≤ 1000 := by
  unfold hoursA
  by_cases c : l = []
  · rw [if_pos c]
    exact ⟨by simp, by simp⟩
  · rw [if_neg c]
    by_cases c2 : Lib.hasSuffix l [58] = false ∨ (Lib.trimSuffix l [58]).length < hours ∨ 3 < (Lib.trimSuffix l [58]).length ∨ (hours < (Lib.trimSuffix l [58]).length ∧ (Lib.trimSuffix l [58]).head? = some 48)
    · rw [if_pos c2]
      exact ⟨by simp, by simp⟩
    · rw [if_neg c2]
      exact dig_bound _ 3 (by
        refine Nat.le_of_not_lt fun h => c2 (.inr (.inr (.inl h)))) (by omega)
theorem below_any (bd : Int) (l : List UInt8) (hl : l.length ≤ 18) (w : World) :
    Calls Tryd.prog 81 #[.int .i64 bd, .string (bs l)] w fun e w' => e = .returned (.tuple #[.int .i64 (digA l).1, .bool ((digA l).2 && decide ((digA l).1 < bd))]) ∧ w' = w :=
  below_walk bd (digA l).1 (digA l).2 l w (digits_tup l hl _ _ rfl)
theorem read_any (hours per dg : Nat) (mark : UInt8) (ds : Bool) (l : List UInt8) (hdg : dg ≤ 3) (hper : per ≤ 1000) (hlb : l.length ≤ 9223372036854775807) (w : World) :
    Calls Tryd.prog 57 #[.agg #[.int .i64 hours, .int .u8 mark.toNat, .int .i64 per, .int .i64 dg, .bool ds], .string (bs l)] w fun e w' => e = .returned (.tuple #[.int .i64 (readA hours mark per dg ds l).1, .bool (readA hours mark per dg ds l).2]) ∧ Below w.heap.size w w' := by
  unfold readA
  by_cases h : l.length < 6 + dg
  · rw [if_pos h]
    exact read_short hours per dg mark ds l h hdg w
  · rw [if_neg h]
    have hsz := bs_size l
    generalize hk : l.length - 6 - dg = k
    have r2 := head_drop l (k + 2) (by omega)
    have r5 := head_drop l (k + 5) (by omega)
    have q2 := bs_get l (k + 2) (by omega)
    have q5 := bs_get l (k + 5) (by omega)
    by_cases m2 : l[k + 2]'(by omega) = 58
    · by_cases m5 : l[k + 5]'(by omega) = mark
      · rw [if_neg (by rw [r2, r5, m2, m5]; simp)]
        have := read_walk hours per dg k (k + 2) (k + 3) (k + 5) (k + 6) mark ds l (l.take k) ((l.drop k).take 2) ((l.drop (k + 3)).take 2) (l.drop (k + 6)) _ _ _ _ _ _ _ _ (by omega) hlb (by omega) (by omega) (by omega) (by omega) hdg (by omega) (by omega) (by rw [q2, m2]) (by rw [q5, m5])
          (by rw [bs_cut]; simp) (by rw [bs_cut]; congr 2; omega) (by rw [bs_cut]; congr 2; omega) (by rw [bs_cut, List.take_of_length_le (by simp [hsz])]) hper (fun _ => by
            exact ⟨hours_bound hours ds _, dig_bound _ 2 (by simp; omega) (by omega), dig_bound _ 2 (by simp; omega) (by omega), dig_bound _ 3 (by simp; omega) (by omega)⟩) w
          (hours_any hours mark.toNat per dg ds (l.take k) (by simp; omega))
          (below_any 60 _ (by simp; omega)) (below_any 60 _ (by simp; omega)) (below_any per _ (by simp; omega))
        refine this.mono ?_
        rintro e w' ⟨rfl, b⟩
        refine ⟨?_, b⟩
        split <;> rename_i c <;> simp [c]
      · rw [if_pos (.inr (by rw [r5]; simpa using m5))]
        exact read_m5 hours per dg k (k + 2) (k + 5) mark ds l (by omega) hlb (by omega) (by omega) hdg (by omega) (by omega) (by rw [q2, m2]) (by rw [q5]; exact m5) w
    · rw [if_pos (.inl (by rw [r2]; simpa using m2))]
      exact read_m2 hours per dg k (k + 2) (k + 5) mark ds l (by omega) hlb (by omega) (by omega) hdg (by omega) (by omega) (by rw [q2]; exact m2) w
end Go.Proofs.YtaipdckakgohjaaDoor

/- Package code: Number at every text. -/
namespace Go.Proofs.YtaipdckakgohjaaDoor
open Go.RowKit Go.Shelf

theorem skips_any (f l nu : Int) (h : Full f l) (hn : 0 ≤ nu ∧ nu ≤ 1000000000000) (w : World) :
    Calls Tryd.prog 58 #[.agg #[.int .i64 f, .int .i64 l], .int .i64 nu] w fun e w' => e = .returned (.bool (skipB f l nu)) ∧ Below w.heap.size w w' := by
  obtain ⟨f1, f2, l1, l2⟩ := h
  have q0 : 0 ≤ nu / (60 * f) := Int.ediv_nonneg hn.1 (by omega)
  have q1 : nu / (60 * f) ≤ nu := Int.ediv_le_self _ hn.1
  unfold skipB
  by_cases c : nu / (60 * f) % 10 = 0
  · rw [show decide (nu / (60 * f) % 10 ≠ 0 ∧ nu % (60 * f) < l) = false from decide_eq_false fun x => x.1 c]
    exact skips_ten f l nu (60 * f) _ (by omega) hn rfl (by omega) c w (minute_any f l ⟨f1, f2⟩)
  · exact skips_walk f l nu (60 * f) _ _ _ (by omega) hn rfl (by omega) rfl rfl c w (minute_any f l ⟨f1, f2⟩)
/-- The frame that a number has. -/
def frmI (f l nu : Int) : Int := nu - l * (nu / (60 * f) - nu / (60 * f) / 10)
theorem cframe_any (f l nu : Int) (h : Full f l) (hn : 0 ≤ nu ∧ nu ≤ 1000000000000) (w : World) :
    Calls Tryd.prog 59 #[.agg #[.int .i64 f, .int .i64 l], .int .i64 nu] w fun e w' => e = .returned (.int .i64 (frmI f l nu)) ∧ Below w.heap.size w w' := by
  obtain ⟨f1, f2, l1, l2⟩ := h
  have q0 : 0 ≤ nu / (60 * f) := Int.ediv_nonneg hn.1 (by omega)
  have q1 : nu / (60 * f) ≤ nu := Int.ediv_le_self _ hn.1
  have e1 : 0 ≤ l * (nu / (60 * f) - nu / (60 * f) / 10) := Int.mul_nonneg l1 (by omega)
  have e2 : l * (nu / (60 * f) - nu / (60 * f) / 10) ≤ 4 * 1000000000000 := Int.mul_le_mul l2 (by omega) (by omega) (by omega)
  exact frame_walk f l nu (60 * f) _ (by omega) hn rfl (by omega) ⟨e1, by omega⟩ w (minute_any f l ⟨f1, f2⟩)
theorem frm_in (f l nu : Int) (h : Full f l) (hn : 0 ≤ nu ∧ nu ≤ 1000000000000) : I64 (frmI f l nu) := by
  obtain ⟨f1, f2, l1, l2⟩ := h
  have q0 : 0 ≤ nu / (60 * f) := Int.ediv_nonneg hn.1 (by omega)
  have q1 : nu / (60 * f) ≤ nu := Int.ediv_le_self _ hn.1
  have e1 : 0 ≤ l * (nu / (60 * f) - nu / (60 * f) / 10) := Int.mul_nonneg l1 (by omega)
  have e2 : l * (nu / (60 * f) - nu / (60 * f) / 10) ≤ 4 * 1000000000000 := Int.mul_le_mul l2 (by omega) (by omega) (by omega)
  unfold frmI I64
  omega
theorem read_bound (hours per dg : Nat) (mark : UInt8) (ds : Bool) (l : List UInt8) (hdg : dg ≤ 3) (hper : per ≤ 1000) : 0 ≤ (readA hours mark per dg ds l).1 ∧ (readA hours mark per dg ds l).1 ≤ 1000000000000 := by
  unfold readA
  split
  · exact ⟨by simp, by simp⟩
  · split
    · exact ⟨by simp, by simp⟩
    · split
      · rename_i h _ _
        have b1 := hours_bound hours ds (l.take (l.length - 6 - dg))
        have b2 := dig_bound ((l.drop (l.length - 6 - dg)).take 2) 2 (by simp; omega) (by omega)
        have b3 := dig_bound ((l.drop (l.length - 6 - dg + 3)).take 2) 2 (by simp; omega) (by omega)
        have b4 := dig_bound (l.drop (l.length - 6 - dg + 6)) 3 (by simp; omega) (by omega)
        generalize (hoursA hours ds (l.take (l.length - 6 - dg))).1 = a at *
        generalize (digA ((l.drop (l.length - 6 - dg)).take 2)).1 = b at *
        generalize (digA ((l.drop (l.length - 6 - dg + 3)).take 2)).1 = c at *
        generalize (digA (l.drop (l.length - 6 - dg + 6))).1 = x at *
        have v1 : 0 ≤ ((a * 60 + b) * 60 + c) * (per : Int) := Int.mul_nonneg (by omega) (by omega)
        have v2 : ((a * 60 + b) * 60 + c) * (per : Int) ≤ 10000000 * 1000 := Int.mul_le_mul (by omega) (by omega) (by omega) (by omega)
        show 0 ≤ ((a * 60 + b) * 60 + c) * (per : Int) + x ∧ ((a * 60 + b) * 60 + c) * (per : Int) + x ≤ 1000000000000
        omega
      · exact ⟨by simp, by simp⟩
/-- What a rate's label reads as: its number; is it one? -/
def readF (n d : Int) (dr : Bool) (s : List UInt8) : Int × Bool := readA 2 (if dr = true then 59 else 58) (fullI n d).toNat (if 100 < fullI n d then 3 else 2) false s
/-- What a number that is read says. -/
def toldF (n d : Int) (dr : Bool) (r : Int × Bool) : Int × Int :=
  if r.2 = false then (0, 13)
  else if skipB (fullI n d) (if dr = true then leftI n d else 0) r.1 = true then (0, 15)
  else if 0 ≤ frmI (fullI n d) (if dr = true then leftI n d else 0) r.1 ∧ frmI (fullI n d) (if dr = true then leftI n d else 0) r.1 * d ≤ 360000 * n then (frmI (fullI n d) (if dr = true then leftI n d else 0) r.1, 0)
  else (0, 31)
def numF (n d : Int) (dr : Bool) (s : List UInt8) : Int × Int := if checkI n d dr = 0 then toldF n d dr (readF n d dr s) else (0, 14)
theorem cnum_any (n d : Int) (dr : Bool) (hn : I64 n) (hd : I64 d) (s : List UInt8) (hs : s.length ≤ 9223372036854775807) (w : World) :
    Calls Tryd.prog 28 #[.agg #[.int .i64 n, .int .i64 d, .bool dr], .string (bs s)] w fun e w' => e = .returned (.tuple #[.int .i64 (numF n d dr s).1, .int .i64 (numF n d dr s).2]) ∧ Below w.heap.size w w' := by
  have HC := check_any n d dr hn hd
  unfold numF
  rcases check_two n d dr with h | h
  · rw [if_pos h]
    rw [h] at HC
    obtain ⟨n1, d1, _, nd, hF⟩ := full_ok n d dr h
    have f1 := hF.1
    have f2 := hF.2.1
    have HN := count_any n d dr n1 d1
    have HD := cdial_any (fullI n d) (if dr = true then leftI n d else 0) dr ⟨hF.1, hF.2.1⟩
    have HR := read_any 2 (fullI n d).toNat (if 100 < fullI n d then 3 else 2) (if dr = true then 59 else 58) false s (by split <;> omega) (by omega) hs
    have rb := read_bound 2 (fullI n d).toNat (if 100 < fullI n d then 3 else 2) (if dr = true then 59 else 58) false s (by split <;> omega) (by omega)
    rw [show (((fullI n d).toNat : Nat) : Int) = fullI n d by omega, show (((if 100 < fullI n d then 3 else 2 : Nat) : Nat) : Int) = (if 100 < fullI n d then (3 : Int) else 2) by split <;> rfl, show (((if dr = true then 59 else 58 : UInt8).toNat : Nat) : Int) = (if dr = true then (59 : Int) else 58) by split <;> rfl] at HR
    unfold readF
    generalize readA 2 (if dr = true then 59 else 58) (fullI n d).toNat (if 100 < fullI n d then 3 else 2) false s = r at *
    obtain ⟨nu, ok⟩ := r
    unfold toldF
    cases ok
    · rw [if_pos rfl]
      exact number_form n d _ _ _ _ _ _ _ dr false s w HC HN HD HR
    · rw [if_neg (by simp)]
      have HK := skips_any (fullI n d) (if dr = true then leftI n d else 0) nu hF rb
      cases hk : skipB (fullI n d) (if dr = true then leftI n d else 0) nu
      · rw [hk] at HK
        rw [if_neg (by simp)]
        have HF := cframe_any (fullI n d) (if dr = true then leftI n d else 0) nu hF rb
        have HT := ctime_any n d dr hn hd _ (frm_in _ _ nu hF rb)
        rw [time_form n d dr _ h] at HT
        by_cases c : 0 ≤ frmI (fullI n d) (if dr = true then leftI n d else 0) nu ∧ frmI (fullI n d) (if dr = true then leftI n d else 0) nu * d ≤ 360000 * n
        · rw [if_pos c] at HT ⊢
          exact number_ok n d _ _ _ _ _ _ _ _ _ _ dr false s w HC HN HD HR HK HF HT
        · rw [if_neg c] at HT ⊢
          exact number_out n d _ _ _ _ _ _ _ _ _ _ 31 dr false s rfl w HC HN HD HR HK HF HT
      · rw [hk] at HK
        rw [if_pos rfl]
        exact number_drop n d _ _ _ _ _ _ _ dr false s w HC HN HD HR HK
  · rw [if_neg (by omega)]
    rw [h] at HC
    exact number_bad n d 14 dr s rfl w HC
end Go.Proofs.YtaipdckakgohjaaDoor
