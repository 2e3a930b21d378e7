/- Package code: a dial's text read. -/
import Derived.Test.YtaipdckakgohjaaGreatDoorCdA
import Derived.Test.YtaipdckakgohjaaGreatDoorCdL
import Derived.Test.YtaipdckakgohjaaGreatDoorCdG
import Derived.Deep.RegionHeld3
namespace Go.Proofs.YtaipdckakgohjaaGreatDoor
open Go.RowKit Go.Shelf
attribute [local go_sem] Oper.semAt_some bs_toList

theorem digits_tup (l : List UInt8) (hl : l.length ≤ 18) (x : Int) (b : Bool) (hx : digA l = (x, b)) (w : World) :
    Calls Tryz.prog 86 #[.string (bs l)] w fun e w' => e = .returned (.tuple #[.int .i64 x, .bool b]) ∧ w' = w := by
  have := digits_any l hl w
  rw [hx] at this
  exact this
set_option maxRecDepth 100000 in
theorem below_walk (bd x : Int) (b : Bool) (l : List UInt8) (w : World)
    (HD : ∀ w, Calls Tryz.prog 86 #[.string (bs l)] w fun e w' => e = .returned (.tuple #[.int .i64 x, .bool b]) ∧ w' = w) :
    Calls Tryz.prog 61 #[.int .i64 bd, .string (bs l)] w fun e w' => e = .returned (.tuple #[.int .i64 x, .bool (b && decide (x < bd))]) ∧ w' = w := by
  have HD := hideR HD
  cases b
  all_goals (
    go_enter Tryz.func61, Tryz.ntmps61
    go_wp2_with fail
    go_at_call 86
    refine (HD.out _).mono ?_
    rintro e w1 ⟨rfl, rfl⟩
    go_wp2_with fail
    go_ret2
    exact ⟨by simp, rfl⟩)
theorem suffix_any (l : List UInt8) (hl : l.length ≤ 9223372036854775807) (w : World) :
    Calls Tryz.prog 69 #[.string (bs l), .string ⟨#[58]⟩] w fun e w' => e = .returned (.tuple #[.string (bs (Lib.trimSuffix l [58])), .bool (Lib.hasSuffix l [58])]) ∧ w' = w := by
  have := Any.strings_CutSuffix (ρ := lay104Ren) lay104 (bs l) ⟨#[58]⟩ w (by rw [bs_size]; exact hl)
  rw [bs_list] at this
  exact this
set_option maxRecDepth 100000 in
theorem hours_empty (hours : Nat) (dm dp dg : Int) (ds : Bool) (w : World) :
    Calls Tryz.prog 60 #[.agg #[.int .i64 (hours : Nat), .int .u8 dm, .int .i64 dp, .int .i64 dg, .bool ds], .string (bs [])] w fun e w' => e = .returned (.tuple #[.int .i64 0, .bool ds]) ∧ Below w.heap.size w w' := by
  have hz : (bs []).toList = [] := bs_toList []
  go_enter Tryz.func60, Tryz.ntmps60
  go_wp2_with fail
  go_region
  all_goals (
    try go_wp2_with fail
    go_ret2
    exact ⟨rfl, (bel1 w _).drew⟩)
set_option maxRecDepth 100000 in
theorem hours_colon (hours : Nat) (dm dp dg : Int) (ds : Bool) (l : List UInt8) (m : List UInt8) (he : l.isEmpty = false) (w : World)
    (HC : ∀ w, Calls Tryz.prog 69 #[.string (bs l), .string ⟨#[58]⟩] w fun e w' => e = .returned (.tuple #[.string (bs m), .bool false]) ∧ w' = w) :
    Calls Tryz.prog 60 #[.agg #[.int .i64 (hours : Nat), .int .u8 dm, .int .i64 dp, .int .i64 dg, .bool ds], .string (bs l)] w fun e w' => e = .returned (.tuple #[.int .i64 0, .bool false]) ∧ Below w.heap.size w w' := by
  have HC := hideR HC
  go_enter Tryz.func60, Tryz.ntmps60
  go_wp2_with fail
  go_at_call 69
  refine (HC.out _).mono ?_
  rintro e w1 ⟨rfl, rfl⟩
  go_wp2_with fail
  go_ret2
  exact ⟨rfl, bel1 w _⟩
set_option maxRecDepth 100000 in
theorem hours_few (hours : Nat) (dm dp dg : Int) (ds : Bool) (l : List UInt8) (m : List UInt8) (he : l.isEmpty = false) (hm : m.length < hours) (w : World)
    (HC : ∀ w, Calls Tryz.prog 69 #[.string (bs l), .string ⟨#[58]⟩] w fun e w' => e = .returned (.tuple #[.string (bs m), .bool true]) ∧ w' = w) :
    Calls Tryz.prog 60 #[.agg #[.int .i64 (hours : Nat), .int .u8 dm, .int .i64 dp, .int .i64 dg, .bool ds], .string (bs l)] w fun e w' => e = .returned (.tuple #[.int .i64 0, .bool false]) ∧ Below w.heap.size w w' := by
  have HC := hideR HC
  have hsz := bs_size m
  have z1 : (m.length : Int) < (hours : Int) := by omega
  go_enter Tryz.func60, Tryz.ntmps60
  go_wp2_with fail
  go_at_call 69
  refine (HC.out _).mono ?_
  rintro e w1 ⟨rfl, rfl⟩
  go_wp2_with fail
  go_ret2
  exact ⟨rfl, bel1 w _⟩
set_option maxRecDepth 100000 in
theorem hours_many (hours : Nat) (dm dp dg : Int) (ds : Bool) (l : List UInt8) (m : List UInt8) (he : l.isEmpty = false) (hm : 3 < m.length) (hm2 : hours ≤ m.length) (w : World)
    (HC : ∀ w, Calls Tryz.prog 69 #[.string (bs l), .string ⟨#[58]⟩] w fun e w' => e = .returned (.tuple #[.string (bs m), .bool true]) ∧ w' = w) :
    Calls Tryz.prog 60 #[.agg #[.int .i64 (hours : Nat), .int .u8 dm, .int .i64 dp, .int .i64 dg, .bool ds], .string (bs l)] w fun e w' => e = .returned (.tuple #[.int .i64 0, .bool false]) ∧ Below w.heap.size w w' := by
  have HC := hideR HC
  have hsz := bs_size m
  have z1 : (hours : Int) ≤ (m.length : Int) := by omega
  have z2 : (3 : Int) < (m.length : Int) := by omega
  go_enter Tryz.func60, Tryz.ntmps60
  go_wp2_with fail
  go_at_call 69
  refine (HC.out _).mono ?_
  rintro e w1 ⟨rfl, rfl⟩
  go_wp2_with fail
  go_ret2
  exact ⟨rfl, bel1 w _⟩
set_option maxRecDepth 100000 in
theorem hours_nought (hours : Nat) (dm dp dg : Int) (ds : Bool) (l : List UInt8) (m : List UInt8) (he : l.isEmpty = false) (hm : m.length ≤ 3) (hm2 : hours < m.length) (h0 : 0 < (bs m).size) (hz : (bs m)[0] = 48) (w : World)
    (HC : ∀ w, Calls Tryz.prog 69 #[.string (bs l), .string ⟨#[58]⟩] w fun e w' => e = .returned (.tuple #[.string (bs m), .bool true]) ∧ w' = w) :
    Calls Tryz.prog 60 #[.agg #[.int .i64 (hours : Nat), .int .u8 dm, .int .i64 dp, .int .i64 dg, .bool ds], .string (bs l)] w fun e w' => e = .returned (.tuple #[.int .i64 0, .bool false]) ∧ Below w.heap.size w w' := by
  have HC := hideR HC
  have hsz := bs_size m
  have z1 : (hours : Int) < (m.length : Int) := by omega
  have z2 : (m.length : Int) ≤ 3 := by omega
  have z3 : (0 : Int) < ((bs m).size : Int) := by omega
  go_enter Tryz.func60, Tryz.ntmps60
  go_wp2_with fail
  go_at_call 69
  refine (HC.out _).mono ?_
  rintro e w1 ⟨rfl, rfl⟩
  go_wp2_with fail
  go_ret2
  exact ⟨rfl, bel1 w _⟩
set_option maxRecDepth 100000 in
theorem hours_more (hours : Nat) (dm dp dg : Int) (ds : Bool) (l : List UInt8) (m : List UInt8) (x : Int) (b : Bool) (he : l.isEmpty = false) (hm : m.length ≤ 3) (hm2 : hours < m.length) (h0 : 0 < (bs m).size) (hz : ¬ (bs m)[0] = 48) (w : World)
    (HC : ∀ w, Calls Tryz.prog 69 #[.string (bs l), .string ⟨#[58]⟩] w fun e w' => e = .returned (.tuple #[.string (bs m), .bool true]) ∧ w' = w)
    (HD : ∀ w, Calls Tryz.prog 86 #[.string (bs m)] w fun e w' => e = .returned (.tuple #[.int .i64 x, .bool b]) ∧ w' = w) :
    Calls Tryz.prog 60 #[.agg #[.int .i64 (hours : Nat), .int .u8 dm, .int .i64 dp, .int .i64 dg, .bool ds], .string (bs l)] w fun e w' => e = .returned (.tuple #[.int .i64 x, .bool b]) ∧ Below w.heap.size w w' := by
  have HC := hideR HC
  have hsz := bs_size m
  have HD := hideR HD
  have z1 : (hours : Int) < (m.length : Int) := by omega
  have z2 : (m.length : Int) ≤ 3 := by omega
  have z3 : (0 : Int) < ((bs m).size : Int) := by omega
  have z4 : ¬ (bs m)[0].toNat = 48 := fun h => hz (UInt8.toNat_inj.1 h)
  go_enter Tryz.func60, Tryz.ntmps60
  go_wp2_with fail
  go_at_call 69
  refine (HC.out _).mono ?_
  rintro e w1 ⟨rfl, rfl⟩
  go_wp2_with fail
  go_at_call 86
  refine (HD.out _).mono ?_
  rintro e w1 ⟨rfl, rfl⟩
  go_wp2_with fail
  go_ret2
  exact ⟨rfl, bel1 w _⟩
set_option maxRecDepth 100000 in
theorem hours_just (hours : Nat) (dm dp dg : Int) (ds : Bool) (l : List UInt8) (m : List UInt8) (x : Int) (b : Bool) (he : l.isEmpty = false) (hm : m.length ≤ 3) (hm2 : hours = m.length) (w : World)
    (HC : ∀ w, Calls Tryz.prog 69 #[.string (bs l), .string ⟨#[58]⟩] w fun e w' => e = .returned (.tuple #[.string (bs m), .bool true]) ∧ w' = w)
    (HD : ∀ w, Calls Tryz.prog 86 #[.string (bs m)] w fun e w' => e = .returned (.tuple #[.int .i64 x, .bool b]) ∧ w' = w) :
    Calls Tryz.prog 60 #[.agg #[.int .i64 (hours : Nat), .int .u8 dm, .int .i64 dp, .int .i64 dg, .bool ds], .string (bs l)] w fun e w' => e = .returned (.tuple #[.int .i64 x, .bool b]) ∧ Below w.heap.size w w' := by
  have HC := hideR HC
  have hsz := bs_size m
  have HD := hideR HD
  have z1 : (hours : Int) = (m.length : Int) := by omega
  have z2 : (m.length : Int) ≤ 3 := by omega
  go_enter Tryz.func60, Tryz.ntmps60
  go_wp2_with fail
  go_at_call 69
  refine (HC.out _).mono ?_
  rintro e w1 ⟨rfl, rfl⟩
  go_wp2_with fail
  go_at_call 86
  refine (HD.out _).mono ?_
  rintro e w1 ⟨rfl, rfl⟩
  go_wp2_with fail
  go_ret2
  exact ⟨rfl, bel1 w _⟩
/-- Hours with the colon behind them, as they are read. -/
def hoursA (hours : Nat) (short : Bool) (l : List UInt8) : Int × Bool :=
  if l = [] then (0, short)
  else if Lib.hasSuffix l [58] = false ∨ (Lib.trimSuffix l [58]).length < hours ∨ 3 < (Lib.trimSuffix l [58]).length ∨ (hours < (Lib.trimSuffix l [58]).length ∧ (Lib.trimSuffix l [58]).head? = some 48) then (0, false)
  else digA (Lib.trimSuffix l [58])
theorem hours_any (hours : Nat) (dm dp dg : Int) (ds : Bool) (l : List UInt8) (hl : l.length ≤ 9223372036854775807) (w : World) :
    Calls Tryz.prog 60 #[.agg #[.int .i64 (hours : Nat), .int .u8 dm, .int .i64 dp, .int .i64 dg, .bool ds], .string (bs l)] w fun e w' => e = .returned (.tuple #[.int .i64 (hoursA hours ds l).1, .bool (hoursA hours ds l).2]) ∧ Below w.heap.size w w' := by
  unfold hoursA
  by_cases h : l = []
  · rw [if_pos h]
    subst h
    exact hours_empty hours dm dp dg ds w
  · rw [if_neg h]
    have he : l.isEmpty = false := by cases l with
      | nil => exact absurd rfl h
      | cons c t => rfl
    have HC := suffix_any l hl
    generalize Lib.trimSuffix l [58] = m at *
    generalize Lib.hasSuffix l [58] = cl at *
    cases cl
    · rw [if_pos (.inl rfl)]
      exact hours_colon hours dm dp dg ds l m he w HC
    · by_cases h1 : m.length < hours
      · rw [if_pos (.inr (.inl h1))]
        exact hours_few hours dm dp dg ds l m he h1 w HC
      · by_cases h2 : 3 < m.length
        · rw [if_pos (.inr (.inr (.inl h2)))]
          exact hours_many hours dm dp dg ds l m he h2 (by omega) w HC
        · have hsz := bs_size m
          by_cases h3 : hours < m.length
          · have hg := bs_get m 0 (by omega)
            have hh : m.head? = some (m[0]'(by omega)) := by
              cases m with
              | nil => simp at h3
              | cons c t => rfl
            by_cases h4 : m.head? = some 48
            · rw [if_pos (.inr (.inr (.inr ⟨h3, h4⟩)))]
              exact hours_nought hours dm dp dg ds l m he (by omega) h3 (by omega) (by rw [hg]; exact Option.some.inj (hh.symm.trans h4)) w HC
            · rw [if_neg (by rintro (h | h | h | h) <;> first | (cases h; done) | omega | exact h4 h.2)]
              exact hours_more hours dm dp dg ds l m _ _ he (by omega) h3 (by omega) (fun e => h4 (by rw [hh, ← hg, e])) w HC (digits_any m (by omega))
          · rw [if_neg (by rintro (h | h | h | h) <;> first | (cases h; done) | omega)]
            exact hours_just hours dm dp dg ds l m _ _ he (by omega) (by omega) w HC (digits_any m (by omega))
set_option maxRecDepth 100000 in
theorem read_short (hours per dg : Nat) (mark : UInt8) (ds : Bool) (l : List UInt8) (h : l.length < 6 + dg) (hdg : dg ≤ 3) (w : World) :
    Calls Tryz.prog 25 #[.agg #[.int .i64 hours, .int .u8 mark.toNat, .int .i64 per, .int .i64 dg, .bool ds], .string (bs l)] w fun e w' => e = .returned (.tuple #[.int .i64 0, .bool false]) ∧ Below w.heap.size w w' := by
  have hsz := bs_size l
  have gk : decide ((l.length : Int) - 6 - (dg : Int) < 0) = true := decide_eq_true (by omega)
  go_enter Tryz.func25, Tryz.ntmps25
  go_wp2_with fail
  go_quiet (fail)
  go_wp2_with fail
  go_ret2
  exact ⟨rfl, below_drewN (bel1 w _) _⟩
set_option maxRecDepth 100000 in
set_option maxHeartbeats 2000000 in
theorem read_walk (hours per dg k k2 k3 k5 k6 : Nat) (mark : UInt8) (ds : Bool) (l a b c d : List UInt8) (av bv cv dv : Int) (ab bb cb db : Bool) (hl : (l.length : Int) - 6 - (dg : Int) = (k : Int)) (hlb : l.length ≤ 9223372036854775807) (e2 : (k : Int) + 2 = (k2 : Int)) (e3 : (k : Int) + 3 = (k3 : Int)) (e5 : (k : Int) + 5 = (k5 : Int)) (e6 : (k : Int) + 6 = (k6 : Int)) (hdg : dg ≤ 3)
    (g2 : k2 < (bs l).size) (g5 : k5 < (bs l).size) (m2 : (bs l)[k2] = 58) (m5 : (bs l)[k5] = mark)
    (xa : (bs l).extract 0 k = bs a) (xb : (bs l).extract k k2 = bs b) (xc : (bs l).extract k3 k5 = bs c) (xd : (bs l).extract k6 (bs l).size = bs d) (hper : per ≤ 1000) (hb : (ab && bb && cb && db) = true → (0 ≤ av ∧ av ≤ 1000) ∧ (0 ≤ bv ∧ bv ≤ 1000) ∧ (0 ≤ cv ∧ cv ≤ 1000) ∧ (0 ≤ dv ∧ dv ≤ 1000)) (w : World)
    (HH : ∀ w, Calls Tryz.prog 60 #[.agg #[.int .i64 hours, .int .u8 mark.toNat, .int .i64 per, .int .i64 dg, .bool ds], .string (bs a)] w fun e w' => e = .returned (.tuple #[.int .i64 av, .bool ab]) ∧ Below w.heap.size w w')
    (HM : ∀ w, Calls Tryz.prog 61 #[.int .i64 60, .string (bs b)] w fun e w' => e = .returned (.tuple #[.int .i64 bv, .bool bb]) ∧ w' = w)
    (HS : ∀ w, Calls Tryz.prog 61 #[.int .i64 60, .string (bs c)] w fun e w' => e = .returned (.tuple #[.int .i64 cv, .bool cb]) ∧ w' = w)
    (HN : ∀ w, Calls Tryz.prog 61 #[.int .i64 per, .string (bs d)] w fun e w' => e = .returned (.tuple #[.int .i64 dv, .bool db]) ∧ w' = w) :
    Calls Tryz.prog 25 #[.agg #[.int .i64 hours, .int .u8 mark.toNat, .int .i64 per, .int .i64 dg, .bool ds], .string (bs l)] w fun e w' => e = .returned (.tuple #[.int .i64 (if (ab && bb && cb && db) = true then ((av * 60 + bv) * 60 + cv) * per + dv else 0), .bool (ab && bb && cb && db)]) ∧ Below w.heap.size w w' := by
  have HH := hideR HH
  have HM := hideR HM
  have HS := hideR HS
  have HN := hideR HN
  have hsz := bs_size l
  have z1 : ((bs l).size : Int) - 6 - (dg : Int) = (k : Int) := by omega
  have z2 : (k2 : Int) < ((bs l).size : Int) := by omega
  have z5 : (k5 : Int) < ((bs l).size : Int) := by omega
  have z0 : (k : Int) ≤ ((bs l).size : Int) := by omega
  have z6 : (k6 : Int) ≤ ((bs l).size : Int) := by omega
  have z7 : (k : Int) ≤ (k2 : Int) := by omega
  have zk : (0 : Int) ≤ (k : Int) := by omega
  have y0 : k ≤ (bs l).size := by omega
  have y1 : k ≤ k2 := by omega
  have y2 : k2 ≤ (bs l).size := by omega
  have y3 : k3 ≤ k5 := by omega
  have y5 : k5 ≤ (bs l).size := by omega
  have y6 : k6 ≤ (bs l).size := by omega
  have zk3 : (0 : Int) ≤ (k3 : Int) := by omega
  have zk6 : (0 : Int) ≤ (k6 : Int) := by omega
  have zk2 : (k2 : Int) ≤ ((bs l).size : Int) := by omega
  have zk5 : (k5 : Int) ≤ ((bs l).size : Int) := by omega
  have z8 : (k3 : Int) ≤ (k5 : Int) := by omega
  have gk : decide ((k : Int) < 0) = false := decide_eq_false (by omega)
  have w2 : IntKind.i64.wrap ((k : Int) + 2) = (k2 : Int) := by rw [IntKind.wrap_i64]; omega
  have w5 : IntKind.i64.wrap ((k : Int) + 5) = (k5 : Int) := by rw [IntKind.wrap_i64]; omega
  have w6 : IntKind.i64.wrap ((k : Int) + 6) = (k6 : Int) := by rw [IntKind.wrap_i64]; omega
  have n2 : (((bs l)[k2].toNat : Int) != 58) = false := by rw [m2]; rfl
  have n5 : (((bs l)[k5].toNat : Int) != (mark.toNat : Int)) = false := by rw [m5]; simp
  have zl : ((bs l).size : Int) ≤ 9223372036854775807 := by omega
  clear hsz hl hlb
  go_enter Tryz.func25, Tryz.ntmps25
  go_wp2_with fail
  go_quiet (fail)
  go_wp2_with fail
  have D1 : DialAt ((w.alloc (.cells #[.int .i64 hours, .int .u8 mark.toNat, .int .i64 per, .int .i64 dg, .bool ds] 56)).drewN nq) w.heap.size hours mark.toNat per dg ds := (DialAt.new w hours mark.toNat per dg ds).keep (below_drewN (Below.refl _ _) nq)
  have B1 : Below w.heap.size w ((w.alloc (.cells #[.int .i64 hours, .int .u8 mark.toNat, .int .i64 per, .int .i64 dg, .bool ds] 56)).drewN nq) := below_drewN (bel1 w _) nq
  generalize (w.alloc (.cells #[.int .i64 hours, .int .u8 mark.toNat, .int .i64 per, .int .i64 dg, .bool ds] 56)).drewN nq = V at *
  have S1 := D1.2
  obtain ⟨d0, d1, d2, d3, d4⟩ := id S1
  go_region_held3 (fun w' => w'.cell? ⟨w.heap.size, 0, none⟩ = some (.int .i64 hours) ∧ w'.cell? ⟨w.heap.size, 1, none⟩ = some (.int .u8 mark.toNat) ∧ w'.cell? ⟨w.heap.size, 2, none⟩ = some (.int .i64 per) ∧ w'.cell? ⟨w.heap.size, 3, none⟩ = some (.int .i64 dg) ∧ w'.cell? ⟨w.heap.size, 4, none⟩ = some (.bool ds)) (first | assumption | go_keep)
    (first
    | (go_at_call 60; refine (HH.out _).mono ?_; rintro e w1 ⟨rfl, b1⟩; have D2 := D1.drew.keep b1; have B2 := bup B1.drew b1; have S2 := D2.2))
  clear d0 d1 d2 d3 d4
  obtain ⟨d0, d1, d2, d3, d4⟩ := id S2
  go_wp2_with fail
  go_at_call 61
  refine (HM.out _).mono ?_
  rintro e w3 ⟨rfl, hw⟩
  obtain rfl := hw.symm
  go_wp2_with fail
  go_at_call 61
  refine (HS.out _).mono ?_
  rintro e w3 ⟨rfl, hw⟩
  obtain rfl := hw.symm
  go_wp2_with fail
  have D3 := D2
  have B3 := B2
  go_quiet (first | (go_at_call 61; exact Calls.quiet_of_same (HN.out _)))
  clear HH HM HS HN
  cases ab
  · go_wp2_with fail
    go_ret2
    exact ⟨rfl, below_drewN B3 _⟩
  · cases bb
    · go_wp2_with fail
      go_ret2
      exact ⟨rfl, below_drewN B3 _⟩
    · cases cb
      · go_wp2_with fail
        go_ret2
        exact ⟨rfl, below_drewN B3 _⟩
      · cases db
        · go_wp2_with fail
          go_ret2
          exact ⟨rfl, below_drewN B3 _⟩
        · obtain ⟨u1, u2, u3, u4⟩ := hb rfl
          have v1 : 0 ≤ ((av * 60 + bv) * 60 + cv) * (per : Int) := Int.mul_nonneg (by omega) (by omega)
          have v2 : ((av * 60 + bv) * 60 + cv) * (per : Int) ≤ 10000000 * 1000 := Int.mul_le_mul (by omega) (by omega) (by omega) (by omega)
          go_wp2_with fail
          go_ret2
          exact ⟨rfl, below_drewN B3 _⟩
/-- What a dial reads of a text. -/
def readA (hours : Nat) (mark : UInt8) (per dg : Nat) (short : Bool) (l : List UInt8) : Int × Bool :=
  if l.length < 6 + dg then (0, false)
  else if (l.drop (l.length - 6 - dg + 2)).head? ≠ some 58 ∨ (l.drop (l.length - 6 - dg + 5)).head? ≠ some mark then (0, false)
  else if ((hoursA hours short (l.take (l.length - 6 - dg))).2 && ((digA ((l.drop (l.length - 6 - dg)).take 2)).2 && decide ((digA ((l.drop (l.length - 6 - dg)).take 2)).1 < 60)) && ((digA ((l.drop (l.length - 6 - dg + 3)).take 2)).2 && decide ((digA ((l.drop (l.length - 6 - dg + 3)).take 2)).1 < 60)) && ((digA (l.drop (l.length - 6 - dg + 6))).2 && decide ((digA (l.drop (l.length - 6 - dg + 6))).1 < per))) = true then ((((hoursA hours short (l.take (l.length - 6 - dg))).1 * 60 + (digA ((l.drop (l.length - 6 - dg)).take 2)).1) * 60 + (digA ((l.drop (l.length - 6 - dg + 3)).take 2)).1) * per + (digA (l.drop (l.length - 6 - dg + 6))).1, true)
  else (0, false)
end Go.Proofs.YtaipdckakgohjaaGreatDoor
