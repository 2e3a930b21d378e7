/- surtitleref5's reader: numbers, hours. -/
import Derived.Test.YtaipdckakgohjaaGreatDoorCRefR
namespace Go.Proofs.YtaipdckakgohjaaGreatDoor
open Go.RowKit Go.Shelf
attribute [local go_sem] Oper.semAt_some

/-- Just so many digits: what they say, where the reader stands behind them, whether it is bad. -/
def rdS (m : Nat) (l : List UInt8) (k : Nat) (b : Bool) : Int × Nat × Bool := if m ≤ runC (l.drop k) then ((valN ((l.drop k).take m) : Nat), k + m, b) else (0, k + runC (l.drop k), true)
theorem runC_le (l : List UInt8) : runC l ≤ l.length := by
  induction l with
  | nil => simp [runC]
  | cons c t ih =>
    unfold runC
    split
    · simp; omega
    · simp
theorem runC_at (l : List UInt8) (k j : Nat) (h : j ≤ runC (l.drop k)) : runC (l.drop (k + j)) + j = runC (l.drop k) := by
  induction j with
  | zero => rfl
  | succ j ih =>
    have := ih (by omega)
    have hk : k + j < l.length := by
      refine Nat.lt_of_not_le fun x => ?_
      have := runC_end l (k + j) x
      omega
    have st := runC_step hk
    split at st
    · rw [show k + (j + 1) = k + j + 1 by omega]
      omega
    · omega
theorem rd_step (l : List UInt8) (k j : Nat) (h : k + j < l.length) : valN ((l.drop k).take (j + 1)) = valN ((l.drop k).take j) * 10 + ((l[k + j]'h).toNat - 48) := by
  have := valN_step (l.drop k) j (by simp; omega)
  rw [List.getElem_drop] at this
  exact this
theorem rd_lt (l : List UInt8) (k j m : Nat) (h : j ≤ m) (hj : j ≤ runC (l.drop k)) : valN ((l.drop k).take j) < 10 ^ m := by
  have al : ((l.drop k).take j).all isDig = true := by
    rw [List.all_eq_true]
    intro c hc
    obtain ⟨i, hi, rfl⟩ := List.getElem_of_mem hc
    simp only [List.length_take, List.length_drop] at hi
    have hk : k + i < l.length := by omega
    have e := runC_at l k i (by omega)
    have st := runC_step hk
    rw [List.getElem_take, List.getElem_drop]
    split at st
    · assumption
    · omega
  have hv := valN_lt _ al _ (Nat.le_refl _)
  rw [List.take_length] at hv
  have : (10 : Nat) ^ ((l.drop k).take j).length ≤ 10 ^ m := Nat.pow_le_pow_right (by omega) (by simp only [List.length_take]; omega)
  omega
set_option maxRecDepth 100000 in
set_option maxHeartbeats 1000000 in
theorem rnumber_any (B : Nat) (l : List UInt8) (p m : Nat) (b : Bool) (hp : p ≤ l.length) (hm : m ≤ 3) (hl : l.length ≤ 9223372036854775807) (w : World) (h : RdAt w B l p b) :
    Calls Tryz.prog 32 #[.pointer (some ⟨B, 0, none⟩), .int .i64 m] w fun e w' => e = .returned (.int .i64 (rdS m l p b).1) ∧ RdAt w' B l (rdS m l p b).2.1 (rdS m l p b).2.2 ∧ Below B w w' := by
  obtain ⟨r, hr⟩ : ∃ r, rdS m l p b = r := ⟨_, rfl⟩
  rw [hr]
  have HR := hideR hr
  clear hr
  have hsz := bs_size l
  go_enter Tryz.func32, Tryz.ntmps32
  go_wp2_with fail
  go_loopw [5, 6] (fun vv vi wr => ∃ (j v : Nat), vv = .int .i64 v ∧ vi = .int .i64 j ∧ j ≤ m ∧ v ≤ 1000 ∧ Hid (j ≤ runC (l.drop p) ∧ v = valN ((l.drop p).take j)) ∧ RdAt wr B l (p + j) b ∧ Below B w wr) (fun _ vi _ => m - (intOf vi).toNat)
  case atStart => exact ⟨0, 0, rfl, rfl, by omega, by omega, ⟨by omega, by simp [valN]⟩, h, Below.refl _ _⟩
  case round =>
    clear h
    obtain ⟨j, v, rfl, rfl, hj, hv, HK, h, hB⟩ := hrel
    obtain ⟨q, hq⟩ : ∃ q, p + j = q := ⟨_, rfl⟩
    have hk : q ≤ l.length := by
      have := HK.out.1
      have := runC_le (l.drop p)
      simp at this
      omega
    rw [hq] at h
    obtain ⟨h0, c0, c1, c2, f1, f2⟩ := id h
    by_cases hj2 : j < m
    · have zj : (j : Int) < (m : Int) := by omega
      by_cases h1 : q < l.length
      · have z1 : (q : Int) < ((bs l).size : Int) := by omega
        have z2 : q < (bs l).size := by omega
        have g1 : decide (((bs l).size : Int) ≤ (q : Int)) = false := decide_eq_false (by omega)
        have g2 : decide ((bs l).size ≤ q) = false := decide_eq_false (by omega)
        have zl : ((bs l).size : Int) ≤ 9223372036854775807 := by omega
        obtain ⟨c, hc⟩ : ∃ c, l[q]'h1 = c := ⟨_, rfl⟩
        have hg : (bs l)[q] = c := (bs_get l q z2).trans hc
        have HS := runC_step h1
        rw [hc] at HS
        have HA := hideR (runC_at l p j HK.out.1)
        rw [hq] at HA
        by_cases hd : isDig c = true
        · have hx : 48 ≤ c.toNat ∧ c.toNat ≤ 57 := of_decide_eq_true hd
          rw [if_pos hd] at HS
          have HE : Hid (j + 1 ≤ runC (l.drop p) ∧ 10 * v + (c.toNat - 48) = valN ((l.drop p).take (j + 1))) := by
            have e := rd_step l p j (by omega)
            have e2 := HK.out.2
            have e3 := HA.out
            refine ⟨by omega, ?_⟩
            simp only [hq] at e
            rw [e, hc, e2]
            omega
          have hv2 : 10 * v + (c.toNat - 48) ≤ 1000 := by
            have := rd_lt l p (j + 1) 3 (by omega) HE.out.1
            have := HE.out.2
            omega
          obtain ⟨u, hu⟩ : ∃ u, 10 * v + (c.toNat - 48) = u := ⟨_, rfl⟩
          rw [hu] at HE hv2
          have w8 : IntKind.u8.wrap ((c.toNat : Int) - 48) = (c.toNat : Int) - 48 := by rw [IntKind.wrap_u8]; omega
          have hui : 10 * (v : Int) + ((c.toNat : Int) - 48) = (u : Int) := by omega
          have g3 : decide ((c.toNat : Int) < 48) = false := decide_eq_false (by omega)
          have g4 : decide ((57 : Int) < (c.toNat : Int)) = false := decide_eq_false (by omega)
          clear HS HA hd hc HK hsz hl hp hk
          go_wp2_with fail
          go_quiet (fail)
          go_wp2_with fail
          go_quiet (fail)
          go_wp2_with fail
          go_roundw
          case rel => exact ⟨j + 1, u, by go_num, by go_num, by omega, by omega, HE, by rw [show p + (j + 1) = q + 1 by omega]; exact (h.drewN _).step, belowOwn (below_drewN hB _) _ _⟩
          case measure => simp [intOf]; omega
        · have hx : ¬ (48 ≤ c.toNat ∧ c.toNat ≤ 57) := fun h => hd (decide_eq_true h)
          rw [if_neg hd] at HS
          have HE : Hid (r = (0, q, true)) := by
            have e3 := HA.out
            rw [Hid, ← HR.out]
            unfold rdS
            rw [if_neg (by omega), show runC (l.drop p) = j by omega, hq]
          clear HS HA hd hc HK HR
          obtain ⟨r1, r2, r3⟩ := r
          have he := HE.out
          obtain ⟨rfl, rfl, rfl⟩ : r1 = 0 ∧ r2 = q ∧ r3 = true := by
            rw [Prod.mk.injEq, Prod.mk.injEq] at he
            exact he
          clear HE he hsz hl hp hk
          by_cases hy : c.toNat < 48
          · have g3 : decide ((c.toNat : Int) < 48) = true := decide_eq_true (by omega)
            go_wp2_with fail
            go_quiet (fail)
            go_wp2_with fail
            go_ret
            exact ⟨rfl, (h.drewN nq).bad, belowOwn (below_drewN hB nq) _ _⟩
          · have hy2 : 57 < c.toNat := by omega
            have g3 : decide ((c.toNat : Int) < 48) = false := decide_eq_false (by omega)
            have g4 : decide ((57 : Int) < (c.toNat : Int)) = true := decide_eq_true (by omega)
            go_wp2_with fail
            go_quiet (fail)
            go_wp2_with fail
            go_ret
            exact ⟨rfl, (h.drewN nq).bad, belowOwn (below_drewN hB nq) _ _⟩
      · have z1 : ((bs l).size : Int) ≤ (q : Int) := by omega
        have g1 : decide (((bs l).size : Int) ≤ (q : Int)) = true := decide_eq_true z1
        have g2 : decide ((bs l).size ≤ q) = true := decide_eq_true (by omega)
        have HE : Hid (r = (0, q, true)) := by
          have e3 := runC_at l p j HK.out.1
          have e4 := runC_end l q (by omega)
          rw [hq] at e3
          rw [Hid, ← HR.out]
          unfold rdS
          rw [if_neg (by omega), show runC (l.drop p) = j by omega, hq]
        clear HK HR
        obtain ⟨r1, r2, r3⟩ := r
        have he := HE.out
        obtain ⟨rfl, rfl, rfl⟩ : r1 = 0 ∧ r2 = q ∧ r3 = true := by
          rw [Prod.mk.injEq, Prod.mk.injEq] at he
          exact he
        clear HE he hsz hl hp hk h1
        go_wp2_with fail
        go_quiet (fail)
        go_wp2_with fail
        go_ret
        exact ⟨rfl, (h.drewN nq).bad, belowOwn (below_drewN hB nq) _ _⟩
    · obtain rfl : j = m := by omega
      have zj : (j : Int) ≤ (j : Int) := by omega
      have HE : Hid (r = ((v : Int), q, b)) := by
        rw [Hid, ← HR.out]
        unfold rdS
        rw [if_pos HK.out.1, ← HK.out.2, hq]
      clear HK HR
      obtain ⟨r1, r2, r3⟩ := r
      have he := HE.out
      obtain ⟨rfl, rfl, rfl⟩ : r1 = (v : Int) ∧ r2 = q ∧ r3 = b := by
        rw [Prod.mk.injEq, Prod.mk.injEq] at he
        exact he
      clear HE he
      go_wp2_with fail
      go_ret
      exact ⟨rfl, h, hB⟩
/-- Hours: from least to three digits. -/
def hrS (least : Nat) (l : List UInt8) (k : Nat) (b : Bool) : Int × Nat × Bool :=
  if runC (l.drop k) < least ∨ 3 < runC (l.drop k) ∨ (least < runC (l.drop k) ∧ l[k]? = some 48) then (0, k, true) else ((valN ((l.drop k).take (runC (l.drop k))) : Nat), k + runC (l.drop k), b)
/-- Two digits below 60. -/
def sxS (l : List UInt8) (k : Nat) (b : Bool) : Int × Nat × Bool := ((rdS 2 l k b).1, (rdS 2 l k b).2.1, (rdS 2 l k b).2.2 || decide (60 ≤ (rdS 2 l k b).1))
set_option maxRecDepth 100000 in
theorem sixty_walk (B : Nat) (l : List UInt8) (k k2 : Nat) (b b2 : Bool) (v : Int) (w : World) (h : RdAt w B l k b)
    (HN : ∀ w, RdAt w B l k b → Calls Tryz.prog 32 #[.pointer (some ⟨B, 0, none⟩), .int .i64 2] w fun e w' => e = .returned (.int .i64 v) ∧ RdAt w' B l k2 b2 ∧ Below B w w') :
    Calls Tryz.prog 31 #[.pointer (some ⟨B, 0, none⟩)] w fun e w' => e = .returned (.int .i64 v) ∧ RdAt w' B l k2 (b2 || decide (60 ≤ v)) ∧ Below B w w' := by
  have HN := hideR HN
  by_cases c : 60 ≤ v
  · rw [decide_eq_true c, Bool.or_true]
    go_enter Tryz.func31, Tryz.ntmps31
    go_wp2_with fail
    go_at_call 32
    refine (HN.out _ h).mono ?_
    rintro e w1 ⟨rfl, h1, b1⟩
    obtain ⟨h0, c0, c1, c2, f1, f2⟩ := id h1
    go_wp2_with fail
    go_ret
    exact ⟨rfl, h1.bad, belowOwn b1 _ _⟩
  · rw [decide_eq_false c, Bool.or_false]
    go_enter Tryz.func31, Tryz.ntmps31
    go_wp2_with fail
    go_at_call 32
    refine (HN.out _ h).mono ?_
    rintro e w1 ⟨rfl, h1, b1⟩
    go_wp2_with fail
    go_ret
    exact ⟨rfl, h1, b1⟩
theorem sixty_any (B : Nat) (l : List UInt8) (k : Nat) (b : Bool) (hp : k ≤ l.length) (hl : l.length ≤ 9223372036854775807) (w : World) (h : RdAt w B l k b) :
    Calls Tryz.prog 31 #[.pointer (some ⟨B, 0, none⟩)] w fun e w' => e = .returned (.int .i64 (sxS l k b).1) ∧ RdAt w' B l (sxS l k b).2.1 (sxS l k b).2.2 ∧ Below B w w' :=
  sixty_walk B l k _ b _ _ w h (fun w h => rnumber_any B l k 2 b hp (by omega) hl w h)
set_option maxRecDepth 100000 in
set_option maxHeartbeats 1000000 in
theorem rhours_walk (B : Nat) (l : List UInt8) (k r least : Nat) (b : Bool) (v k2 : Nat) (w : World) (h : RdAt w B l k b) (g1 : least ≤ r) (g2 : r ≤ 3) (g3 : r = least ∨ ∃ z : k < (bs l).size, least < r ∧ ¬ (bs l)[k] = 48)
    (HR : ∀ w, RdAt w B l k b → Calls Tryz.prog 68 #[.pointer (some ⟨B, 0, none⟩)] w fun e w' => e = .returned (.int .i64 (r : Nat)) ∧ Below w.heap.size w w')
    (HN : ∀ w, RdAt w B l k b → Calls Tryz.prog 32 #[.pointer (some ⟨B, 0, none⟩), .int .i64 r] w fun e w' => e = .returned (.int .i64 v) ∧ RdAt w' B l k2 b ∧ Below B w w') :
    Calls Tryz.prog 29 #[.pointer (some ⟨B, 0, none⟩), .int .i64 least] w fun e w' => e = .returned (.int .i64 v) ∧ RdAt w' B l k2 b ∧ Below B w w' := by
  have HN := hideR HN
  have HR := hideR HR
  have z1 : (least : Int) ≤ (r : Int) := by omega
  have z2 : (r : Int) ≤ 3 := by omega
  have e1 : decide ((r : Int) < (least : Int)) = false := decide_eq_false (by omega)
  have e2 : decide (r < least) = false := decide_eq_false (by omega)
  have e3 : decide ((3 : Int) < (r : Int)) = false := decide_eq_false (by omega)
  have e4 : decide (3 < r) = false := decide_eq_false (by omega)
  rcases g3 with rfl | ⟨z, g3, g4⟩
  · have e5 : decide ((r : Int) < (r : Int)) = false := decide_eq_false (by omega)
    have e6 : decide (r < r) = false := decide_eq_false (by omega)
    go_enter Tryz.func29, Tryz.ntmps29
    go_wp2_with fail
    go_at_call 68
    refine (HR.out _ h).mono ?_
    rintro e w1 ⟨rfl, b1⟩
    have h1 := h.keep b1
    have b2 := b1.mono (Nat.le_of_lt h.1)
    obtain ⟨h0, c0, c1, c2, f1, f2⟩ := id h1
    clear b1
    go_wp2_with fail
    go_quiet (fail)
    go_wp2_with fail
    go_at_call 32
    refine (HN.out _ (h1.drewN nq)).mono ?_
    rintro e w2 ⟨rfl, h2, b3⟩
    go_wp2_with fail
    go_ret
    exact ⟨rfl, h2, (below_drewN b2 nq).trans b3⟩
  · have z3 : (least : Int) < (r : Int) := by omega
    have z4 : (k : Int) < ((bs l).size : Int) := by omega
    have n3 : ¬ (bs l)[k].toNat = 48 := fun x => g4 (UInt8.toNat_inj.1 x)
    have n2 : (((bs l)[k].toNat : Int) == 48) = false := by
      rw [beq_eq_false_iff_ne]
      omega
    go_enter Tryz.func29, Tryz.ntmps29
    go_wp2_with fail
    go_at_call 68
    refine (HR.out _ h).mono ?_
    rintro e w1 ⟨rfl, b1⟩
    have h1 := h.keep b1
    have b2 := b1.mono (Nat.le_of_lt h.1)
    obtain ⟨h0, c0, c1, c2, f1, f2⟩ := id h1
    clear b1
    go_wp2_with fail
    go_quiet (fail)
    go_wp2_with fail
    go_at_call 32
    refine (HN.out _ (h1.drewN nq)).mono ?_
    rintro e w2 ⟨rfl, h2, b3⟩
    go_wp2_with fail
    go_ret
    exact ⟨rfl, h2, (below_drewN b2 nq).trans b3⟩
set_option maxRecDepth 100000 in
set_option maxHeartbeats 1000000 in
theorem rhours_bad (B : Nat) (l : List UInt8) (k r least : Nat) (b : Bool) (w : World) (h : RdAt w B l k b) (g : r < least ∨ (least ≤ r ∧ 3 < r) ∨ (least ≤ r ∧ r ≤ 3 ∧ least < r ∧ ∃ z : k < (bs l).size, (bs l)[k] = 48))
    (HR : ∀ w, RdAt w B l k b → Calls Tryz.prog 68 #[.pointer (some ⟨B, 0, none⟩)] w fun e w' => e = .returned (.int .i64 (r : Nat)) ∧ Below w.heap.size w w') :
    Calls Tryz.prog 29 #[.pointer (some ⟨B, 0, none⟩), .int .i64 least] w fun e w' => e = .returned (.int .i64 0) ∧ RdAt w' B l k true ∧ Below B w w' := by
  have HR := hideR HR
  rcases g with g | ⟨g0, g⟩ | ⟨g0, g1, g2, z, g3⟩
  · have z1 : (r : Int) < (least : Int) := by omega
    have e1 : decide ((r : Int) < (least : Int)) = true := decide_eq_true z1
    have e2 : decide (r < least) = true := decide_eq_true (by omega)
    go_enter Tryz.func29, Tryz.ntmps29
    go_wp2_with fail
    go_at_call 68
    refine (HR.out _ h).mono ?_
    rintro e w1 ⟨rfl, b1⟩
    have h1 := h.keep b1
    have b2 := b1.mono (Nat.le_of_lt h.1)
    obtain ⟨h0, c0, c1, c2, f1, f2⟩ := id h1
    clear b1
    go_wp2_with fail
    go_quiet (fail)
    go_wp2_with fail
    go_ret
    exact ⟨rfl, (h1.drewN nq).bad, belowOwn (below_drewN b2 nq) _ _⟩
  · have z1 : (least : Int) ≤ (r : Int) := by omega
    have z2 : (3 : Int) < (r : Int) := by omega
    have e1 : decide ((r : Int) < (least : Int)) = false := decide_eq_false (by omega)
    have e2 : decide (r < least) = false := decide_eq_false (by omega)
    have e3 : decide ((3 : Int) < (r : Int)) = true := decide_eq_true (by omega)
    have e4 : decide (3 < r) = true := decide_eq_true (by omega)
    go_enter Tryz.func29, Tryz.ntmps29
    go_wp2_with fail
    go_at_call 68
    refine (HR.out _ h).mono ?_
    rintro e w1 ⟨rfl, b1⟩
    have h1 := h.keep b1
    have b2 := b1.mono (Nat.le_of_lt h.1)
    obtain ⟨h0, c0, c1, c2, f1, f2⟩ := id h1
    clear b1
    go_wp2_with fail
    go_quiet (fail)
    go_wp2_with fail
    go_ret
    exact ⟨rfl, (h1.drewN nq).bad, belowOwn (below_drewN b2 nq) _ _⟩
  · have z1 : (least : Int) ≤ (r : Int) := by omega
    have z2 : (r : Int) ≤ 3 := by omega
    have e1 : decide ((r : Int) < (least : Int)) = false := decide_eq_false (by omega)
    have e2 : decide (r < least) = false := decide_eq_false (by omega)
    have e3 : decide ((3 : Int) < (r : Int)) = false := decide_eq_false (by omega)
    have e4 : decide (3 < r) = false := decide_eq_false (by omega)
    have n2 : (((bs l)[k].toNat : Int) == 48) = true := by rw [g3]; rfl
    have z3 : (least : Int) < (r : Int) := by omega
    have z4 : (k : Int) < ((bs l).size : Int) := by omega
    have e5 : decide ((least : Int) < (r : Int)) = true := decide_eq_true z3
    have e6 : decide (least < r) = true := decide_eq_true (by omega)
    go_enter Tryz.func29, Tryz.ntmps29
    go_wp2_with fail
    go_at_call 68
    refine (HR.out _ h).mono ?_
    rintro e w1 ⟨rfl, b1⟩
    have h1 := h.keep b1
    have b2 := b1.mono (Nat.le_of_lt h.1)
    obtain ⟨h0, c0, c1, c2, f1, f2⟩ := id h1
    clear b1
    go_wp2_with fail
    go_quiet (fail)
    go_wp2_with fail
    go_ret
    exact ⟨rfl, (h1.drewN nq).bad, belowOwn (below_drewN b2 nq) _ _⟩
theorem rhours_any (B : Nat) (l : List UInt8) (k least : Nat) (b : Bool) (hk : k ≤ l.length) (h1 : 1 ≤ least) (h2 : least ≤ 3) (hl : l.length ≤ 9223372036854775807) (w : World) (h : RdAt w B l k b) :
    Calls Tryz.prog 29 #[.pointer (some ⟨B, 0, none⟩), .int .i64 least] w fun e w' => e = .returned (.int .i64 (hrS least l k b).1) ∧ RdAt w' B l (hrS least l k b).2.1 (hrS least l k b).2.2 ∧ Below B w w' := by
  have hsz := bs_size l
  have HR := fun w h => rrun5_any B l k b hk hl w h
  have rl := runC_le (l.drop k)
  simp only [List.length_drop] at rl
  have HN := fun (hr : runC (l.drop k) ≤ 3) w h => rnumber_any B l k (runC (l.drop k)) b hk hr hl w h
  unfold rdS at HN
  rw [if_pos (Nat.le_refl _)] at HN
  unfold hrS
  generalize runC (l.drop k) = r at *
  by_cases c1 : r < least
  · rw [if_pos (.inl c1)]
    exact rhours_bad B l k r least b w h (.inl c1) HR
  · by_cases c2 : 3 < r
    · rw [if_pos (.inr (.inl c2))]
      exact rhours_bad B l k r least b w h (.inr (.inl ⟨by omega, c2⟩)) HR
    · by_cases c3 : least < r
      · have hg := bs_get l k (by omega)
        have hz : l[k]? = some (l[k]'(by omega)) := List.getElem?_eq_getElem (by omega)
        by_cases c4 : l[k]'(by omega) = 48
        · rw [if_pos (.inr (.inr ⟨c3, by rw [hz, c4]⟩))]
          exact rhours_bad B l k r least b w h (.inr (.inr ⟨by omega, by omega, c3, by omega, hg.trans c4⟩)) HR
        · rw [if_neg (by rintro (x | x | ⟨_, x⟩) <;> first | omega | exact c4 (Option.some.inj (hz.symm.trans x)))]
          exact rhours_walk B l k r least b _ _ w h (by omega) (by omega) (.inr ⟨by omega, c3, fun x => c4 (hg.symm.trans x)⟩) HR (HN (by omega))
      · rw [if_neg (by rintro (x | x | ⟨x, _⟩) <;> omega)]
        exact rhours_walk B l k r least b _ _ w h (by omega) (by omega) (.inl (by omega)) HR (HN (by omega))
end Go.Proofs.YtaipdckakgohjaaGreatDoor
