/- Several texts, one behind the other. -/
import Derived.Test.YtaipdckakgohjaaDoorGB
import Derived.Test.YtaipdckakgohjaaDoorGS
/- surtitleref5's reader. -/
namespace Go.Proofs.YtaipdckakgohjaaDoor
open Go.RowKit Go.Shelf
attribute [local go_sem] Oper.semAt_some

/-- A reader in memory: its text, where it stands, whether it is bad. -/
def RdAt (V : World) (B : Nat) (l : List UInt8) (k : Nat) (b : Bool) : Prop := B < V.heap.size ∧ V.cell? ⟨B, 0, none⟩ = some (.string (bs l)) ∧ V.cell? ⟨B, 1, none⟩ = some (.int .i64 k) ∧ V.cell? ⟨B, 2, none⟩ = some (.bool b) ∧ V.frozen? ⟨B, 1, none⟩ = false ∧ V.frozen? ⟨B, 2, none⟩ = false
theorem RdAt.keep {V U : World} {B : Nat} {l : List UInt8} {k : Nat} {b : Bool} (h : RdAt V B l k b) (q : Below V.heap.size V U) : RdAt U B l k b :=
  ⟨Nat.lt_of_lt_of_le h.1 q.size, (q.cell (p := ⟨B, 0, none⟩) h.1).trans h.2.1, (q.cell (p := ⟨B, 1, none⟩) h.1).trans h.2.2.1, (q.cell (p := ⟨B, 2, none⟩) h.1).trans h.2.2.2.1, (q.frozen (p := ⟨B, 1, none⟩) h.1).trans h.2.2.2.2.1, (q.frozen (p := ⟨B, 2, none⟩) h.1).trans h.2.2.2.2.2⟩
theorem RdAt.new (w : World) (l : List UInt8) : RdAt (w.alloc (.cells #[.string (bs l), .int .i64 0, .bool false] 87)) w.heap.size l 0 false := ⟨by simp, by go_simp, by go_simp, by go_simp, by go_simp, by go_simp⟩
theorem RdAt.drewN {V : World} {B : Nat} {l : List UInt8} {k : Nat} {b : Bool} (h : RdAt V B l k b) (n : Nat) : RdAt (V.drewN n) B l k b := h.keep (below_drewN (Below.refl _ _) n)
theorem RdAt.bad {V : World} {B : Nat} {l : List UInt8} {k : Nat} {b : Bool} (h : RdAt V B l k b) : RdAt (V.setCell ⟨B, 2, none⟩ (.bool true)) B l k true := by
  obtain ⟨h0, c0, c1, c2, f1, f2⟩ := h
  exact ⟨by simpa using h0, by go_simp, by go_simp, by go_simp, by go_simp, by go_simp⟩
theorem RdAt.step {V : World} {B : Nat} {l : List UInt8} {k : Nat} {b : Bool} (h : RdAt V B l k b) : RdAt (V.setCell ⟨B, 1, none⟩ (.int .i64 ((k + 1 : Nat) : Int))) B l (k + 1) b := by
  obtain ⟨h0, c0, c1, c2, f1, f2⟩ := h
  exact ⟨by simpa using h0, by go_simp, by go_simp, by go_simp, by go_simp, by go_simp⟩
theorem RdAt.drew {V : World} {B : Nat} {l : List UInt8} {k : Nat} {b : Bool} (h : RdAt V B l k b) : RdAt V.drew B l k b := h
theorem belowOwn {B : Nat} {a V : World} (h : Below B a V) (i : Nat) (v : Value) : Below B a (V.setCell ⟨B, i, none⟩ v) := h.setCell (p := ⟨B, i, none⟩) (Nat.le_refl _) v
/-- Just that byte. -/
def markS (c : UInt8) (l : List UInt8) (k : Nat) (b : Bool) : Nat × Bool := if l[k]? = some c then (k + 1, b) else (k, true)
set_option maxRecDepth 100000 in
theorem mark_end (B : Nat) (l : List UInt8) (k : Nat) (b : Bool) (c : Int) (hk : l.length ≤ k) (w : World) (h : RdAt w B l k b) :
    Calls Tryd.prog 61 #[.pointer (some ⟨B, 0, none⟩), .int .u8 c] w fun e w' => e = .returned (.tuple #[]) ∧ RdAt w' B l k true ∧ Below B w w' := by
  obtain ⟨h0, c0, c1, c2, f1, f2⟩ := id h
  have hsz := bs_size l
  have z1 : ((bs l).size : Int) ≤ (k : Int) := by omega
  have g1 : decide (((bs l).size : Int) ≤ (k : Int)) = true := decide_eq_true z1
  clear hsz hk
  go_enter Tryd.func61, Tryd.ntmps61
  go_wp2_with fail
  go_quiet (fail)
  go_wp2_with fail
  exact bodyPost_ret (v := .tuple #[]) (by simp [results, Tryd.results61, go_sem]) rfl ⟨rfl, (h.drewN nq).bad, belowOwn (below_drewN (Below.refl _ _) nq) _ _⟩
set_option maxRecDepth 100000 in
theorem mark_other (B : Nat) (l : List UInt8) (k : Nat) (b : Bool) (c : UInt8) (hk : k < l.length) (hc : ¬ (bs l)[k]'(by rw [bs_size]; exact hk) = c) (w : World) (h : RdAt w B l k b) :
    Calls Tryd.prog 61 #[.pointer (some ⟨B, 0, none⟩), .int .u8 c.toNat] w fun e w' => e = .returned (.tuple #[]) ∧ RdAt w' B l k true ∧ Below B w w' := by
  obtain ⟨h0, c0, c1, c2, f1, f2⟩ := id h
  have hsz := bs_size l
  have z1 : (k : Int) < ((bs l).size : Int) := by omega
  have z3 : k < (bs l).size := by omega
  have g1 : decide (((bs l).size : Int) ≤ (k : Int)) = false := decide_eq_false (by omega)
  have n3 : ¬ (bs l)[k].toNat = c.toNat := fun x => hc (UInt8.toNat_inj.1 x)
  have n2 : (((bs l)[k].toNat : Int) != (c.toNat : Int)) = true := by
    rw [bne_iff_ne]
    omega
  clear hsz
  go_enter Tryd.func61, Tryd.ntmps61
  go_wp2_with fail
  go_quiet (fail)
  go_wp2_with fail
  exact bodyPost_ret (v := .tuple #[]) (by simp [results, Tryd.results61, go_sem]) rfl ⟨rfl, (h.drewN nq).bad, belowOwn (below_drewN (Below.refl _ _) nq) _ _⟩
set_option maxRecDepth 100000 in
theorem mark_this (B : Nat) (l : List UInt8) (k : Nat) (b : Bool) (c : UInt8) (hl : l.length ≤ 9223372036854775807) (hk : k < l.length) (hc : (bs l)[k]'(by rw [bs_size]; exact hk) = c) (w : World) (h : RdAt w B l k b) :
    Calls Tryd.prog 61 #[.pointer (some ⟨B, 0, none⟩), .int .u8 c.toNat] w fun e w' => e = .returned (.tuple #[]) ∧ RdAt w' B l (k + 1) b ∧ Below B w w' := by
  obtain ⟨h0, c0, c1, c2, f1, f2⟩ := id h
  have hsz := bs_size l
  have z1 : (k : Int) < ((bs l).size : Int) := by omega
  have z3 : k < (bs l).size := by omega
  have zl : ((bs l).size : Int) ≤ 9223372036854775807 := by omega
  have g1 : decide (((bs l).size : Int) ≤ (k : Int)) = false := decide_eq_false (by omega)
  have n2 : (((bs l)[k].toNat : Int) != (c.toNat : Int)) = false := by rw [hc]; simp
  clear hsz hl
  go_enter Tryd.func61, Tryd.ntmps61
  go_wp2_with fail
  go_quiet (fail)
  go_wp2_with fail
  exact bodyPost_end (v := .tuple #[]) (by simp [results, Tryd.results61, go_sem]) rfl ⟨rfl, (h.drewN nq).step, belowOwn (below_drewN (Below.refl _ _) nq) _ _⟩
theorem rmark_any (B : Nat) (l : List UInt8) (k : Nat) (b : Bool) (c : UInt8) (hl : l.length ≤ 9223372036854775807) (w : World) (h : RdAt w B l k b) :
    Calls Tryd.prog 61 #[.pointer (some ⟨B, 0, none⟩), .int .u8 c.toNat] w fun e w' => e = .returned (.tuple #[]) ∧ RdAt w' B l (markS c l k b).1 (markS c l k b).2 ∧ Below B w w' := by
  have hsz := bs_size l
  unfold markS
  by_cases hk : k < l.length
  · have hg := bs_get l k (by omega)
    rw [List.getElem?_eq_getElem hk]
    by_cases hc : l[k] = c
    · rw [if_pos (by rw [hc])]
      exact mark_this B l k b c hl hk (hg.trans hc) w h
    · rw [if_neg (fun x => hc (Option.some.inj x))]
      exact mark_other B l k b c hk (fun x => hc (hg.symm.trans x)) w h
  · rw [List.getElem?_eq_none (by omega), if_neg (by simp)]
    exact mark_end B l k b _ (by omega) w h
/-- How many digits stand ahead. -/
def runC : List UInt8 → Nat
  | [] => 0
  | c :: t => if isDig c = true then runC t + 1 else 0
theorem runC_step {l : List UInt8} {k : Nat} (hk : k < l.length) : runC (l.drop k) = if isDig l[k] = true then runC (l.drop (k + 1)) + 1 else 0 := by
  rw [List.drop_eq_getElem_cons hk]
  rfl
theorem runC_end (l : List UInt8) (k : Nat) (h : l.length ≤ k) : runC (l.drop k) = 0 := by rw [List.drop_of_length_le h]; rfl
set_option maxRecDepth 100000 in
set_option maxHeartbeats 1000000 in
theorem rrun5_any (B : Nat) (l : List UInt8) (p : Nat) (b : Bool) (hp : p ≤ l.length) (hl : l.length ≤ 9223372036854775807) (w : World) (h : RdAt w B l p b) :
    Calls Tryd.prog 82 #[.pointer (some ⟨B, 0, none⟩)] w fun e w' => e = .returned (.int .i64 (runC (l.drop p) : Nat)) ∧ Below w.heap.size w w' := by
  have hsz := bs_size l
  go_enter Tryd.func82, Tryd.ntmps82
  go_wp2_with fail
  go_loopw [3] (fun vi wr => ∃ k : Nat, p + k ≤ l.length ∧ vi = .int .i64 k ∧ Hid (runC (l.drop p) = runC (l.drop (p + k)) + k) ∧ RdAt wr B l p b ∧ Below w.heap.size w wr) (fun vi _ => l.length - (intOf vi).toNat)
  case atStart => exact ⟨0, by omega, rfl, rfl, h, Below.refl _ _⟩
  case round =>
    clear h
    obtain ⟨k, hk, rfl, HK, h, hB⟩ := hrel
    obtain ⟨h0, c0, c1, c2, f1, f2⟩ := id h
    obtain ⟨j, hj⟩ : ∃ j, p + k = j := ⟨_, rfl⟩
    rw [hj] at HK hk
    have hji : (p : Int) + (k : Int) = (j : Int) := by omega
    have wj : IntKind.i64.wrap ((p : Int) + (k : Int)) = (j : Int) := by rw [IntKind.wrap_i64]; omega
    by_cases h1 : j < l.length
    · have z1 : (j : Int) < ((bs l).size : Int) := by omega
      have z2 : j < (bs l).size := by omega
      have g1 : decide ((j : Int) < ((bs l).size : Int)) = true := decide_eq_true z1
      obtain ⟨c, hc⟩ : ∃ c, l[j]'h1 = c := ⟨_, rfl⟩
      have hg : (bs l)[j] = c := (bs_get l j z2).trans hc
      have HS := runC_step h1
      rw [hc] at HS
      have HS := hideR HS
      clear hc
      have zl : ((bs l).size : Int) ≤ 9223372036854775807 := by omega
      have hlen : l.length = (bs l).size := hsz.symm
      have HL := hideR hlen
      clear hlen hsz hl hp hk h1
      by_cases hd : isDig c = true
      · have hx : 48 ≤ c.toNat ∧ c.toNat ≤ 57 := of_decide_eq_true hd
        have g2 : decide ((48 : Int) ≤ (c.toNat : Int)) = true := decide_eq_true (by omega)
        have g3 : decide ((c.toNat : Int) ≤ 57) = true := decide_eq_true (by omega)
        have HE : Hid (runC (l.drop j) = runC (l.drop (j + 1)) + 1) := by rw [Hid, HS.out, if_pos hd]
        clear hd HS
        go_wp2_with fail
        go_quiet (fail)
        go_wp2_with fail
        go_roundw
        case rel => exact ⟨k + 1, by have := HL.out; omega, by go_num, by have h1 := HK.out; have h2 := HE.out; rw [Hid, show p + (k + 1) = j + 1 by omega]; omega, h.drewN nq, below_drewN hB nq⟩
        case measure => have := HL.out; simp [intOf]; omega
      · have hx : ¬ (48 ≤ c.toNat ∧ c.toNat ≤ 57) := fun h => hd (decide_eq_true h)
        have HE : Hid (runC (l.drop j) = 0) := by rw [Hid, HS.out, if_neg hd]
        clear hd HS
        by_cases hy : c.toNat < 48
        · have g2 : decide ((48 : Int) ≤ (c.toNat : Int)) = false := decide_eq_false (by omega)
          go_wp2_with fail
          go_quiet (fail)
          go_wp2_with fail
          go_ret
          exact ⟨ret_int (by have h1 := HK.out; have h2 := HE.out; omega), below_drewN hB nq⟩
        · have g2 : decide ((48 : Int) ≤ (c.toNat : Int)) = true := decide_eq_true (by omega)
          have g3 : decide ((c.toNat : Int) ≤ 57) = false := decide_eq_false (by omega)
          go_wp2_with fail
          go_quiet (fail)
          go_wp2_with fail
          go_ret
          exact ⟨ret_int (by have h1 := HK.out; have h2 := HE.out; omega), below_drewN hB nq⟩
    · have z1 : ((bs l).size : Int) ≤ (j : Int) := by omega
      have g1 : decide ((j : Int) < ((bs l).size : Int)) = false := decide_eq_false (by omega)
      have HE := hideR (runC_end l j (by omega))
      have zl : ((bs l).size : Int) ≤ 9223372036854775807 := by omega
      have g3 : ¬ j < (bs l).size := by omega
      have z4 : (j : Int) ≤ ((bs l).size : Int) := by omega
      have wk : IntKind.i64.wrap (j : Int) = (j : Int) := by rw [IntKind.wrap_i64]; omega
      have g2 : decide (j < (bs l).size) = false := decide_eq_false g3
      clear hsz hl hp hk h1
      go_wp2_with fail
      go_quiet (fail)
      go_wp2_with fail
      go_ret
      exact ⟨ret_int (by have h1 := HK.out; have h2 := HE.out; omega), below_drewN hB nq⟩
end Go.Proofs.YtaipdckakgohjaaDoor

/- surtitleref5's reader: numbers, hours. -/
namespace Go.Proofs.YtaipdckakgohjaaDoor
open Go.RowKit Go.Shelf
attribute [local go_sem] Oper.semAt_some

/-- Just so many digits: what they say, where the reader stands behind them, whether it is bad. -/
def rdS (m : Nat) (l : List UInt8) (k : Nat) (b : Bool) : Int × Nat × Bool := if m ≤ runC (l.drop k) then ((valN ((l.drop k).take m) : Nat), k + m, b) else (0, k + runC (l.drop k), true)
theorem runC_le (l : List UInt8) : runC l ≤ l.length := by
  induction l with
  | nil => simp [runC]
  | cons c t ih =>
    unfold runC
    split
    · simp; omega
    · simp
theorem runC_at (l : List UInt8) (k j : Nat) (h : j ≤ runC (l.drop k)) : runC (l.drop (k + j)) + j = runC (l.drop k) := by
  induction j with
  | zero => rfl
  | succ j ih =>
    have := ih (by omega)
    have hk : k + j < l.length := by
      refine Nat.lt_of_not_le fun x => ?_
      have := runC_end l (k + j) x
      omega
    have st := runC_step hk
    split at st
    · rw [show k + (j + 1) = k + j + 1 by omega]
      omega
    · omega
theorem rd_step (l : List UInt8) (k j : Nat) (h : k + j < l.length) : valN ((l.drop k).take (j + 1)) = valN ((l.drop k).take j) * 10 + ((l[k + j]'h).toNat - 48) := by
  have := valN_step (l.drop k) j (by simp; omega)
  rw [List.getElem_drop] at this
  exact this
theorem rd_lt (l : List UInt8) (k j m : Nat) (h : j ≤ m) (hj : j ≤ runC (l.drop k)) : valN ((l.drop k).take j) < 10 ^ m := by
  have al : ((l.drop k).take j).all isDig = true := by
    rw [List.all_eq_true]
    intro c hc
    obtain ⟨i, hi, rfl⟩ := List.getElem_of_mem hc
    simp only [List.length_take, List.length_drop] at hi
    have hk : k + i < l.length := by omega
    have e := runC_at l k i (by omega)
    have st := runC_step hk
    rw [List.getElem_take, List.getElem_drop]
    split at st
    · assumption
    · omega
  have hv := valN_lt _ al _ (Nat.le_refl _)
  rw [List.take_length] at hv
  have : (10 : Nat) ^ ((l.drop k).take j).length ≤ 10 ^ m := Nat.pow_le_pow_right (by omega) (by simp only [List.length_take]; omega)
  omega
set_option maxRecDepth 100000 in
set_option maxHeartbeats 1000000 in
theorem rnumber_any (B : Nat) (l : List UInt8) (p m : Nat) (b : Bool) (hp : p ≤ l.length) (hm : m ≤ 3) (hl : l.length ≤ 9223372036854775807) (w : World) (h : RdAt w B l p b) :
    Calls Tryd.prog 63 #[.pointer (some ⟨B, 0, none⟩), .int .i64 m] w fun e w' => e = .returned (.int .i64 (rdS m l p b).1) ∧ RdAt w' B l (rdS m l p b).2.1 (rdS m l p b).2.2 ∧ Below B w w' := by
  obtain ⟨r, hr⟩ : ∃ r, rdS m l p b = r := ⟨_, rfl⟩
  rw [hr]
  have HR := hideR hr
  clear hr
  have hsz := bs_size l
  go_enter Tryd.func63, Tryd.ntmps63
  go_wp2_with fail
  go_loopw [5, 6] (fun vv vi wr => ∃ (j v : Nat), vv = .int .i64 v ∧ vi = .int .i64 j ∧ j ≤ m ∧ v ≤ 1000 ∧ Hid (j ≤ runC (l.drop p) ∧ v = valN ((l.drop p).take j)) ∧ RdAt wr B l (p + j) b ∧ Below B w wr) (fun _ vi _ => m - (intOf vi).toNat)
  case atStart => exact ⟨0, 0, rfl, rfl, by omega, by omega, ⟨by omega, by simp [valN]⟩, h, Below.refl _ _⟩
  case round =>
    clear h
    obtain ⟨j, v, rfl, rfl, hj, hv, HK, h, hB⟩ := hrel
    obtain ⟨q, hq⟩ : ∃ q, p + j = q := ⟨_, rfl⟩
    have hk : q ≤ l.length := by
      have := HK.out.1
      have := runC_le (l.drop p)
      simp at this
      omega
    rw [hq] at h
    obtain ⟨h0, c0, c1, c2, f1, f2⟩ := id h
    by_cases hj2 : j < m
    · have zj : (j : Int) < (m : Int) := by omega
      by_cases h1 : q < l.length
      · have z1 : (q : Int) < ((bs l).size : Int) := by omega
        have z2 : q < (bs l).size := by omega
        have g1 : decide (((bs l).size : Int) ≤ (q : Int)) = false := decide_eq_false (by omega)
        have g2 : decide ((bs l).size ≤ q) = false := decide_eq_false (by omega)
        have zl : ((bs l).size : Int) ≤ 9223372036854775807 := by omega
        obtain ⟨c, hc⟩ : ∃ c, l[q]'h1 = c := ⟨_, rfl⟩
        have hg : (bs l)[q] = c := (bs_get l q z2).trans hc
        have HS := runC_step h1
        rw [hc] at HS
        have HA := hideR (runC_at l p j HK.out.1)
        rw [hq] at HA
        by_cases hd : isDig c = true
        · have hx : 48 ≤ c.toNat ∧ c.toNat ≤ 57 := of_decide_eq_true hd
          rw [if_pos hd] at HS
          have HE : Hid (j + 1 ≤ runC (l.drop p) ∧ 10 * v + (c.toNat - 48) = valN ((l.drop p).take (j + 1))) := by
            have e := rd_step l p j (by omega)
            have e2 := HK.out.2
            have e3 := HA.out
            refine ⟨by omega, ?_⟩
            simp only [hq] at e
            rw [e, hc, e2]
            omega
          have hv2 : 10 * v + (c.toNat - 48) ≤ 1000 := by
            have := rd_lt l p (j + 1) 3 (by omega) HE.out.1
            have := HE.out.2
            omega
          obtain ⟨u, hu⟩ : ∃ u, 10 * v + (c.toNat - 48) = u := ⟨_, rfl⟩
          rw [hu] at HE hv2
          have w8 : IntKind.u8.wrap ((c.toNat : Int) - 48) = (c.toNat : Int) - 48 := by rw [IntKind.wrap_u8]; omega
          have hui : 10 * (v : Int) + ((c.toNat : Int) - 48) = (u : Int) := by omega
          have g3 : decide ((c.toNat : Int) < 48) = false := decide_eq_false (by omega)
          have g4 : decide ((57 : Int) < (c.toNat : Int)) = false := decide_eq_false (by omega)
          clear HS HA hd hc HK hsz hl hp hk
          go_wp2_with fail
          go_quiet (fail)
          go_wp2_with fail
          go_quiet (fail)
          go_wp2_with fail
          go_roundw
          case rel => exact ⟨j + 1, u, by go_num, by go_num, by omega, by omega, HE, by rw [show p + (j + 1) = q + 1 by omega]; exact (h.drewN _).step, belowOwn (below_drewN hB _) _ _⟩
          case measure => simp [intOf]; omega
        · have hx : ¬ (48 ≤ c.toNat ∧ c.toNat ≤ 57) := fun h => hd (decide_eq_true h)
          rw [if_neg hd] at HS
          have HE : Hid (r = (0, q, true)) := by
            have e3 := HA.out
            rw [Hid, ← HR.out]
            unfold rdS
            rw [if_neg (by omega), show runC (l.drop p) = j by omega, hq]
          clear HS HA hd hc HK HR
          obtain ⟨r1, r2, r3⟩ := r
          have he := HE.out
          obtain ⟨rfl, rfl, rfl⟩ : r1 = 0 ∧ r2 = q ∧ r3 = true := by
            rw [Prod.mk.injEq, Prod.mk.injEq] at he
            exact he
          clear HE he hsz hl hp hk
          by_cases hy : c.toNat < 48
          · have g3 : decide ((c.toNat : Int) < 48) = true := decide_eq_true (by omega)
            go_wp2_with fail
            go_quiet (fail)
            go_wp2_with fail
            go_ret
            exact ⟨rfl, (h.drewN nq).bad, belowOwn (below_drewN hB nq) _ _⟩
          · have hy2 : 57 < c.toNat := by omega
            have g3 : decide ((c.toNat : Int) < 48) = false := decide_eq_false (by omega)
            have g4 : decide ((57 : Int) < (c.toNat : Int)) = true := decide_eq_true (by omega)
            go_wp2_with fail
            go_quiet (fail)
            go_wp2_with fail
            go_ret
            exact ⟨rfl, (h.drewN nq).bad, belowOwn (below_drewN hB nq) _ _⟩
      · have z1 : ((bs l).size : Int) ≤ (q : Int) := by omega
        have g1 : decide (((bs l).size : Int) ≤ (q : Int)) = true := decide_eq_true z1
        have g2 : decide ((bs l).size ≤ q) = true := decide_eq_true (by omega)
        have HE : Hid (r = (0, q, true)) := by
          have e3 := runC_at l p j HK.out.1
          have e4 := runC_end l q (by omega)
          rw [hq] at e3
          rw [Hid, ← HR.out]
          unfold rdS
          rw [if_neg (by omega), show runC (l.drop p) = j by omega, hq]
        clear HK HR
        obtain ⟨r1, r2, r3⟩ := r
        have he := HE.out
        obtain ⟨rfl, rfl, rfl⟩ : r1 = 0 ∧ r2 = q ∧ r3 = true := by
          rw [Prod.mk.injEq, Prod.mk.injEq] at he
          exact he
        clear HE he hsz hl hp hk h1
        go_wp2_with fail
        go_quiet (fail)
        go_wp2_with fail
        go_ret
        exact ⟨rfl, (h.drewN nq).bad, belowOwn (below_drewN hB nq) _ _⟩
    · obtain rfl : j = m := by omega
      have zj : (j : Int) ≤ (j : Int) := by omega
      have HE : Hid (r = ((v : Int), q, b)) := by
        rw [Hid, ← HR.out]
        unfold rdS
        rw [if_pos HK.out.1, ← HK.out.2, hq]
      clear HK HR
      obtain ⟨r1, r2, r3⟩ := r
      have he := HE.out
      obtain ⟨rfl, rfl, rfl⟩ : r1 = (v : Int) ∧ r2 = q ∧ r3 = b := by
        rw [Prod.mk.injEq, Prod.mk.injEq] at he
        exact he
      clear HE he
      go_wp2_with fail
      go_ret
      exact ⟨rfl, h, hB⟩
/-- Hours: from least to three digits. -/
def hrS (least : Nat) (l : List UInt8) (k : Nat) (b : Bool) : Int × Nat × Bool :=
  if runC (l.drop k) < least ∨ 3 < runC (l.drop k) ∨ (least < runC (l.drop k) ∧ l[k]? = some 48) then (0, k, true) else ((valN ((l.drop k).take (runC (l.drop k))) : Nat), k + runC (l.drop k), b)
/-- Two digits below 60. -/
def sxS (l : List UInt8) (k : Nat) (b : Bool) : Int × Nat × Bool := ((rdS 2 l k b).1, (rdS 2 l k b).2.1, (rdS 2 l k b).2.2 || decide (60 ≤ (rdS 2 l k b).1))
set_option maxRecDepth 100000 in
theorem sixty_walk (B : Nat) (l : List UInt8) (k k2 : Nat) (b b2 : Bool) (v : Int) (w : World) (h : RdAt w B l k b)
    (HN : ∀ w, RdAt w B l k b → Calls Tryd.prog 63 #[.pointer (some ⟨B, 0, none⟩), .int .i64 2] w fun e w' => e = .returned (.int .i64 v) ∧ RdAt w' B l k2 b2 ∧ Below B w w') :
    Calls Tryd.prog 62 #[.pointer (some ⟨B, 0, none⟩)] w fun e w' => e = .returned (.int .i64 v) ∧ RdAt w' B l k2 (b2 || decide (60 ≤ v)) ∧ Below B w w' := by
  have HN := hideR HN
  by_cases c : 60 ≤ v
  · rw [decide_eq_true c, Bool.or_true]
    go_enter Tryd.func62, Tryd.ntmps62
    go_wp2_with fail
    go_at_call 63
    refine (HN.out _ h).mono ?_
    rintro e w1 ⟨rfl, h1, b1⟩
    obtain ⟨h0, c0, c1, c2, f1, f2⟩ := id h1
    go_wp2_with fail
    go_ret
    exact ⟨rfl, h1.bad, belowOwn b1 _ _⟩
  · rw [decide_eq_false c, Bool.or_false]
    go_enter Tryd.func62, Tryd.ntmps62
    go_wp2_with fail
    go_at_call 63
    refine (HN.out _ h).mono ?_
    rintro e w1 ⟨rfl, h1, b1⟩
    go_wp2_with fail
    go_ret
    exact ⟨rfl, h1, b1⟩
theorem sixty_any (B : Nat) (l : List UInt8) (k : Nat) (b : Bool) (hp : k ≤ l.length) (hl : l.length ≤ 9223372036854775807) (w : World) (h : RdAt w B l k b) :
    Calls Tryd.prog 62 #[.pointer (some ⟨B, 0, none⟩)] w fun e w' => e = .returned (.int .i64 (sxS l k b).1) ∧ RdAt w' B l (sxS l k b).2.1 (sxS l k b).2.2 ∧ Below B w w' :=
  sixty_walk B l k _ b _ _ w h (fun w h => rnumber_any B l k 2 b hp (by omega) hl w h)
set_option maxRecDepth 100000 in
set_option maxHeartbeats 1000000 in
theorem rhours_walk (B : Nat) (l : List UInt8) (k r least : Nat) (b : Bool) (v k2 : Nat) (w : World) (h : RdAt w B l k b) (g1 : least ≤ r) (g2 : r ≤ 3) (g3 : r = least ∨ ∃ z : k < (bs l).size, least < r ∧ ¬ (bs l)[k] = 48)
    (HR : ∀ w, RdAt w B l k b → Calls Tryd.prog 82 #[.pointer (some ⟨B, 0, none⟩)] w fun e w' => e = .returned (.int .i64 (r : Nat)) ∧ Below w.heap.size w w')
    (HN : ∀ w, RdAt w B l k b → Calls Tryd.prog 63 #[.pointer (some ⟨B, 0, none⟩), .int .i64 r] w fun e w' => e = .returned (.int .i64 v) ∧ RdAt w' B l k2 b ∧ Below B w w') :
    Calls Tryd.prog 60 #[.pointer (some ⟨B, 0, none⟩), .int .i64 least] w fun e w' => e = .returned (.int .i64 v) ∧ RdAt w' B l k2 b ∧ Below B w w' := by
  have HN := hideR HN
  have HR := hideR HR
  have z1 : (least : Int) ≤ (r : Int) := by omega
  have z2 : (r : Int) ≤ 3 := by omega
  have e1 : decide ((r : Int) < (least : Int)) = false := decide_eq_false (by omega)
  have e2 : decide (r < least) = false := decide_eq_false (by omega)
  have e3 : decide ((3 : Int) < (r : Int)) = false := decide_eq_false (by omega)
  have e4 : decide (3 < r) = false := decide_eq_false (by omega)
  rcases g3 with rfl | ⟨z, g3, g4⟩
  · have e5 : decide ((r : Int) < (r : Int)) = false := decide_eq_false (by omega)
    have e6 : decide (r < r) = false := decide_eq_false (by omega)
    go_enter Tryd.func60, Tryd.ntmps60
    go_wp2_with fail
    go_at_call 82
    refine (HR.out _ h).mono ?_
    rintro e w1 ⟨rfl, b1⟩
    have h1 := h.keep b1
    have b2 := b1.mono (Nat.le_of_lt h.1)
    obtain ⟨h0, c0, c1, c2, f1, f2⟩ := id h1
    clear b1
    go_wp2_with fail
    go_quiet (fail)
    go_wp2_with fail
    go_at_call 63
    refine (HN.out _ (h1.drewN nq)).mono ?_
    rintro e w2 ⟨rfl, h2, b3⟩
    go_wp2_with fail
    go_ret
    exact ⟨rfl, h2, (below_drewN b2 nq).trans b3⟩
  · have z3 : (least : Int) < (r : Int) := by omega
    have z4 : (k : Int) < ((bs l).size : Int) := by omega
    have n3 : ¬ (bs l)[k].toNat = 48 := fun x => g4 (UInt8.toNat_inj.1 x)
    have n2 : (((bs l)[k].toNat : Int) == 48) = false := by
      rw [beq_eq_false_iff_ne]
      omega
    go_enter Tryd.func60, Tryd.ntmps60
    go_wp2_with fail
    go_at_call 82
    refine (HR.out _ h).mono ?_
    rintro e w1 ⟨rfl, b1⟩
    have h1 := h.keep b1
    have b2 := b1.mono (Nat.le_of_lt h.1)
    obtain ⟨h0, c0, c1, c2, f1, f2⟩ := id h1
    clear b1
    go_wp2_with fail
    go_quiet (fail)
    go_wp2_with fail
    go_at_call 63
    refine (HN.out _ (h1.drewN nq)).mono ?_
    rintro e w2 ⟨rfl, h2, b3⟩
    go_wp2_with fail
    go_ret
    exact ⟨rfl, h2, (below_drewN b2 nq).trans b3⟩
set_option maxRecDepth 100000 in
set_option maxHeartbeats 1000000 in
theorem rhours_bad (B : Nat) (l : List UInt8) (k r least : Nat) (b : Bool) (w : World) (h : RdAt w B l k b) (g : r < least ∨ (least ≤ r ∧ 3 < r) ∨ (least ≤ r ∧ r ≤ 3 ∧ least < r ∧ ∃ z : k < (bs l).size, (bs l)[k] = 48))
    (HR : ∀ w, RdAt w B l k b → Calls Tryd.prog 82 #[.pointer (some ⟨B, 0, none⟩)] w fun e w' => e = .returned (.int .i64 (r : Nat)) ∧ Below w.heap.size w w') :
    Calls Tryd.prog 60 #[.pointer (some ⟨B, 0, none⟩), .int .i64 least] w fun e w' => e = .returned (.int .i64 0) ∧ RdAt w' B l k true ∧ Below B w w' := by
  have HR := hideR HR
  rcases g with g | ⟨g0, g⟩ | ⟨g0, g1, g2, z, g3⟩
  · have z1 : (r : Int) < (least : Int) := by omega
    have e1 : decide ((r : Int) < (least : Int)) = true := decide_eq_true z1
    have e2 : decide (r < least) = true := decide_eq_true (by omega)
    go_enter Tryd.func60, Tryd.ntmps60
    go_wp2_with fail
    go_at_call 82
    refine (HR.out _ h).mono ?_
    rintro e w1 ⟨rfl, b1⟩
    have h1 := h.keep b1
    have b2 := b1.mono (Nat.le_of_lt h.1)
    obtain ⟨h0, c0, c1, c2, f1, f2⟩ := id h1
    clear b1
    go_wp2_with fail
    go_quiet (fail)
    go_wp2_with fail
    go_ret
    exact ⟨rfl, (h1.drewN nq).bad, belowOwn (below_drewN b2 nq) _ _⟩
  · have z1 : (least : Int) ≤ (r : Int) := by omega
    have z2 : (3 : Int) < (r : Int) := by omega
    have e1 : decide ((r : Int) < (least : Int)) = false := decide_eq_false (by omega)
    have e2 : decide (r < least) = false := decide_eq_false (by omega)
    have e3 : decide ((3 : Int) < (r : Int)) = true := decide_eq_true (by omega)
    have e4 : decide (3 < r) = true := decide_eq_true (by omega)
    go_enter Tryd.func60, Tryd.ntmps60
    go_wp2_with fail
    go_at_call 82
    refine (HR.out _ h).mono ?_
    rintro e w1 ⟨rfl, b1⟩
    have h1 := h.keep b1
    have b2 := b1.mono (Nat.le_of_lt h.1)
    obtain ⟨h0, c0, c1, c2, f1, f2⟩ := id h1
    clear b1
    go_wp2_with fail
    go_quiet (fail)
    go_wp2_with fail
    go_ret
    exact ⟨rfl, (h1.drewN nq).bad, belowOwn (below_drewN b2 nq) _ _⟩
  · have z1 : (least : Int) ≤ (r : Int) := by omega
    have z2 : (r : Int) ≤ 3 := by omega
    have e1 : decide ((r : Int) < (least : Int)) = false := decide_eq_false (by omega)
    have e2 : decide (r < least) = false := decide_eq_false (by omega)
    have e3 : decide ((3 : Int) < (r : Int)) = false := decide_eq_false (by omega)
    have e4 : decide (3 < r) = false := decide_eq_false (by omega)
    have n2 : (((bs l)[k].toNat : Int) == 48) = true := by rw [g3]; rfl
    have z3 : (least : Int) < (r : Int) := by omega
    have z4 : (k : Int) < ((bs l).size : Int) := by omega
    have e5 : decide ((least : Int) < (r : Int)) = true := decide_eq_true z3
    have e6 : decide (least < r) = true := decide_eq_true (by omega)
    go_enter Tryd.func60, Tryd.ntmps60
    go_wp2_with fail
    go_at_call 82
    refine (HR.out _ h).mono ?_
    rintro e w1 ⟨rfl, b1⟩
    have h1 := h.keep b1
    have b2 := b1.mono (Nat.le_of_lt h.1)
    obtain ⟨h0, c0, c1, c2, f1, f2⟩ := id h1
    clear b1
    go_wp2_with fail
    go_quiet (fail)
    go_wp2_with fail
    go_ret
    exact ⟨rfl, (h1.drewN nq).bad, belowOwn (below_drewN b2 nq) _ _⟩
theorem rhours_any (B : Nat) (l : List UInt8) (k least : Nat) (b : Bool) (hk : k ≤ l.length) (h1 : 1 ≤ least) (h2 : least ≤ 3) (hl : l.length ≤ 9223372036854775807) (w : World) (h : RdAt w B l k b) :
    Calls Tryd.prog 60 #[.pointer (some ⟨B, 0, none⟩), .int .i64 least] w fun e w' => e = .returned (.int .i64 (hrS least l k b).1) ∧ RdAt w' B l (hrS least l k b).2.1 (hrS least l k b).2.2 ∧ Below B w w' := by
  have hsz := bs_size l
  have HR := fun w h => rrun5_any B l k b hk hl w h
  have rl := runC_le (l.drop k)
  simp only [List.length_drop] at rl
  have HN := fun (hr : runC (l.drop k) ≤ 3) w h => rnumber_any B l k (runC (l.drop k)) b hk hr hl w h
  unfold rdS at HN
  rw [if_pos (Nat.le_refl _)] at HN
  unfold hrS
  generalize runC (l.drop k) = r at *
  by_cases c1 : r < least
  · rw [if_pos (.inl c1)]
    exact rhours_bad B l k r least b w h (.inl c1) HR
  · by_cases c2 : 3 < r
    · rw [if_pos (.inr (.inl c2))]
      exact rhours_bad B l k r least b w h (.inr (.inl ⟨by omega, c2⟩)) HR
    · by_cases c3 : least < r
      · have hg := bs_get l k (by omega)
        have hz : l[k]? = some (l[k]'(by omega)) := List.getElem?_eq_getElem (by omega)
        by_cases c4 : l[k]'(by omega) = 48
        · rw [if_pos (.inr (.inr ⟨c3, by rw [hz, c4]⟩))]
          exact rhours_bad B l k r least b w h (.inr (.inr ⟨by omega, by omega, c3, by omega, hg.trans c4⟩)) HR
        · rw [if_neg (by rintro (x | x | ⟨_, x⟩) <;> first | omega | exact c4 (Option.some.inj (hz.symm.trans x)))]
          exact rhours_walk B l k r least b _ _ w h (by omega) (by omega) (.inr ⟨by omega, c3, fun x => c4 (hg.symm.trans x)⟩) HR (HN (by omega))
      · rw [if_neg (by rintro (x | x | ⟨x, _⟩) <;> omega)]
        exact rhours_walk B l k r least b _ _ w h (by omega) (by omega) (.inl (by omega)) HR (HN (by omega))
end Go.Proofs.YtaipdckakgohjaaDoor

/- A dial's text, read from the left and from the right: the same: mathematics. -/
namespace Go.Proofs.YtaipdckakgohjaaDoor
open Go.RowKit Go.Shelf

/-- Read from the left: four numbers, where the reader stands, whether it is bad. -/
structure Chain where
  h : Int
  m : Int
  s : Int
  x : Int
  k : Nat
  b : Bool
def chainS (least : Nat) (mk : UInt8) (dg : Nat) (l : List UInt8) (k0 : Nat) : Chain :=
  let c1 := hrS least l k0 false
  let c2 := markS 58 l c1.2.1 c1.2.2
  let c3 := sxS l c2.1 c2.2
  let c4 := markS 58 l c3.2.1 c3.2.2
  let c5 := sxS l c4.1 c4.2
  let c6 := markS mk l c5.2.1 c5.2.2
  let c7 := rdS dg l c6.1 c6.2
  ⟨c1.1, c3.1, c5.1, c7.1, c7.2.1, c7.2.2⟩
theorem runC_all (q t : List UInt8) (h : q.all isDig = true) : q.length ≤ runC (q ++ t) := by
  induction q with
  | nil => simp
  | cons c q ih =>
    rw [List.all_cons, Bool.and_eq_true] at h
    have := ih h.2
    show (c :: q).length ≤ (if isDig c = true then runC (q ++ t) + 1 else 0)
    rw [if_pos h.1, List.length_cons]
    omega
theorem runC_stop (q t : List UInt8) (c : UInt8) (h : q.all isDig = true) (hc : isDig c = false) : runC (q ++ c :: t) = q.length := by
  induction q with
  | nil =>
    show (if isDig c = true then runC t + 1 else 0) = 0
    rw [if_neg (by rw [hc]; simp)]
  | cons a q ih =>
    rw [List.all_cons, Bool.and_eq_true] at h
    show (if isDig a = true then runC (q ++ c :: t) + 1 else 0) = (a :: q).length
    rw [if_pos h.1, ih h.2, List.length_cons]
theorem runC_dig (l : List UInt8) (m : Nat) (h : m ≤ runC l) : (l.take m).all isDig = true ∧ (l.take m).length = m := by
  refine ⟨?_, by have := runC_le l; simp; omega⟩
  induction l generalizing m with
  | nil => simp
  | cons c t ih =>
    cases m with
    | zero => simp
    | succ m =>
      unfold runC at h
      by_cases hc : isDig c = true
      · rw [if_pos hc] at h
        rw [List.take_succ_cons, List.all_cons, hc, ih m (by omega)]
        rfl
      · rw [if_neg hc] at h
        omega
theorem rd_at (m : Nat) (l q t : List UInt8) (k : Nat) (b : Bool) (hd : l.drop k = q ++ t) (hq : q.all isDig = true) (hm : q.length = m) : rdS m l k b = (((valN q : Nat) : Int), k + m, b) ∧ l.drop (k + m) = t := by
  have r := runC_all q t hq
  unfold rdS
  rw [hd, if_pos (by omega), List.take_left' hm]
  refine ⟨rfl, ?_⟩
  rw [← List.drop_drop, hd]
  exact List.drop_left' hm
theorem rd_of (m : Nat) (l : List UInt8) (k : Nat) (b : Bool) (h : (rdS m l k b).2.2 = false) : b = false ∧ ((l.drop k).take m).all isDig = true ∧ ((l.drop k).take m).length = m ∧ rdS m l k b = (((valN ((l.drop k).take m) : Nat) : Int), k + m, false) := by
  unfold rdS at h ⊢
  by_cases c : m ≤ runC (l.drop k)
  · rw [if_pos c] at h ⊢
    have := runC_dig (l.drop k) m c
    simp only at h
    subst h
    exact ⟨rfl, this.1, this.2, rfl⟩
  · rw [if_neg c] at h
    cases h
theorem mark_at (c : UInt8) (l t : List UInt8) (k : Nat) (b : Bool) (hd : l.drop k = c :: t) : markS c l k b = (k + 1, b) ∧ l.drop (k + 1) = t := by
  have e : l[k]? = some c := by
    rw [← List.head?_drop, hd]
    rfl
  unfold markS
  rw [if_pos e]
  refine ⟨rfl, ?_⟩
  rw [← List.drop_drop, hd]
  rfl
theorem mark_of (c : UInt8) (l : List UInt8) (k : Nat) (b : Bool) (h : (markS c l k b).2 = false) : b = false ∧ l.drop k = c :: l.drop (k + 1) ∧ markS c l k b = (k + 1, false) := by
  unfold markS at h ⊢
  by_cases e : l[k]? = some c
  · rw [if_pos e] at h ⊢
    simp only at h
    subst h
    obtain ⟨hk, hc⟩ := List.getElem?_eq_some_iff.1 e
    exact ⟨rfl, by rw [List.drop_eq_getElem_cons hk, hc], rfl⟩
  · rw [if_neg e] at h
    cases h
theorem sx_at (l q t : List UInt8) (k : Nat) (b : Bool) (hd : l.drop k = q ++ t) (hq : q.all isDig = true) (hm : q.length = 2) (hv : valN q < 60) : sxS l k b = (((valN q : Nat) : Int), k + 2, b) ∧ l.drop (k + 2) = t := by
  obtain ⟨e, e2⟩ := rd_at 2 l q t k b hd hq hm
  unfold sxS
  rw [e]
  refine ⟨?_, e2⟩
  simp only
  rw [decide_eq_false (by omega), Bool.or_false]
theorem sx_of (l : List UInt8) (k : Nat) (b : Bool) (h : (sxS l k b).2.2 = false) : b = false ∧ ((l.drop k).take 2).all isDig = true ∧ ((l.drop k).take 2).length = 2 ∧ valN ((l.drop k).take 2) < 60 ∧ sxS l k b = (((valN ((l.drop k).take 2) : Nat) : Int), k + 2, false) := by
  unfold sxS at h ⊢
  simp only [Bool.or_eq_false_iff, decide_eq_false_iff_not] at h
  obtain ⟨e0, e1, e2, e3⟩ := rd_of 2 l k b h.1
  rw [e3] at h ⊢
  have h2 := h.2
  simp only at h2
  refine ⟨e0, e1, e2, by omega, ?_⟩
  simp only
  rw [decide_eq_false (by omega), Bool.or_false]
theorem hr_at (least : Nat) (l q t : List UInt8) (k : Nat) (b : Bool) (hd : l.drop k = q ++ 58 :: t) (hq : q.all isDig = true) (h1 : least ≤ q.length) (h2 : q.length ≤ 3) (h3 : least < q.length → q.head? ≠ some 48) : hrS least l k b = (((valN q : Nat) : Int), k + q.length, b) ∧ l.drop (k + q.length) = 58 :: t := by
  have r := runC_stop q t 58 hq rfl
  unfold hrS
  rw [hd, r, List.take_left' rfl, if_neg]
  · refine ⟨rfl, ?_⟩
    rw [← List.drop_drop, hd]
    exact List.drop_left' rfl
  · rintro (c | c | ⟨c, d⟩)
    · omega
    · omega
    · apply h3 c
      rw [← List.head?_drop, hd] at d
      cases q with
      | nil => simp at c
      | cons a q => exact d
theorem hr_of (least : Nat) (l : List UInt8) (k : Nat) (b : Bool) (h0 : 1 ≤ least) (h : (hrS least l k b).2.2 = false) : b = false ∧ ∃ q, q = (l.drop k).take q.length ∧ q.all isDig = true ∧ least ≤ q.length ∧ q.length ≤ 3 ∧ (least < q.length → q.head? ≠ some 48) ∧ hrS least l k b = (((valN q : Nat) : Int), k + q.length, false) := by
  unfold hrS at h ⊢
  by_cases c : runC (l.drop k) < least ∨ 3 < runC (l.drop k) ∨ (least < runC (l.drop k) ∧ l[k]? = some 48)
  · rw [if_pos c] at h
    cases h
  · rw [if_neg c] at h ⊢
    simp only at h
    subst h
    obtain ⟨e1, e2⟩ := runC_dig (l.drop k) _ (Nat.le_refl _)
    refine ⟨rfl, (l.drop k).take (runC (l.drop k)), by rw [e2], e1, ?_, ?_, ?_, by rw [e2]⟩
    · rw [e2]
      exact Nat.le_of_not_lt fun x => c (.inl x)
    · rw [e2]
      exact Nat.le_of_not_lt fun x => c (.inr (.inl x))
    · rw [e2]
      intro x y
      apply c
      refine .inr (.inr ⟨x, ?_⟩)
      rw [← List.head?_drop]
      cases hd : l.drop k with
      | nil => rw [hd] at x; simp [runC] at x
      | cons a q =>
        rw [hd] at y
        obtain ⟨j, hj⟩ : ∃ j, runC (a :: q) = j + 1 := ⟨runC (a :: q) - 1, by rw [hd] at x; omega⟩
        rw [hj] at y
        exact y
theorem take_two (l : List UInt8) (k : Nat) : (l.drop k).take 2 ++ l.drop (k + 2) = l.drop k := by
  have := List.take_append_drop 2 (l.drop k)
  rw [List.drop_drop] at this
  exact this
/-- A text of that form. -/
structure FormL (least : Nat) (mk : UInt8) (dg : Nat) (l a b c d : List UInt8) : Prop where
  eq : l = a ++ 58 :: (b ++ 58 :: (c ++ mk :: d))
  a1 : a.all isDig = true
  a2 : least ≤ a.length
  a3 : a.length ≤ 3
  a4 : least < a.length → a.head? ≠ some 48
  b1 : b.all isDig = true
  b2 : b.length = 2
  b3 : valN b < 60
  c1 : c.all isDig = true
  c2 : c.length = 2
  c3 : valN c < 60
  d1 : d.all isDig = true
  d2 : d.length = dg
theorem form_chain {least : Nat} {mk : UInt8} {dg : Nat} {l a b c d : List UInt8} (F : FormL least mk dg l a b c d) : chainS least mk dg l 0 = ⟨(valN a : Nat), (valN b : Nat), (valN c : Nat), (valN d : Nat), l.length, false⟩ := by
  obtain ⟨e1, n1⟩ := hr_at least l a _ 0 false F.eq F.a1 F.a2 F.a3 F.a4
  obtain ⟨e2, n2⟩ := mark_at 58 l _ _ false n1
  obtain ⟨e3, n3⟩ := sx_at l b _ _ false n2 F.b1 F.b2 F.b3
  obtain ⟨e4, n4⟩ := mark_at 58 l _ _ false n3
  obtain ⟨e5, n5⟩ := sx_at l c _ _ false n4 F.c1 F.c2 F.c3
  obtain ⟨e6, n6⟩ := mark_at mk l _ _ false n5
  obtain ⟨e7, n7⟩ := rd_at dg l d [] _ false (by rw [List.append_nil]; exact n6) F.d1 F.d2
  unfold chainS
  simp only [e1, e2, e3, e4, e5, e6, e7]
  have := congrArg List.length F.eq
  simp only [List.length_append, List.length_cons, F.b2, F.c2, F.d2] at this
  rw [show 0 + a.length + 1 + 2 + 1 + 2 + 1 + dg = l.length by omega]
theorem chain_form {least : Nat} {mk : UInt8} {dg : Nat} {l : List UInt8} (h0 : 1 ≤ least) (hb : (chainS least mk dg l 0).b = false) (hk : (chainS least mk dg l 0).k = l.length) : ∃ a b c d, FormL least mk dg l a b c d := by
  unfold chainS at hb hk
  simp only at hb hk
  obtain ⟨f6, q7, s7, e7⟩ := rd_of dg l _ _ hb
  obtain ⟨f5, q6, e6⟩ := mark_of mk l _ _ f6
  obtain ⟨f4, q5, s5, v5, e5⟩ := sx_of l _ _ f5
  obtain ⟨f3, q4, e4⟩ := mark_of 58 l _ _ f4
  obtain ⟨f2, q3, s3, v3, e3⟩ := sx_of l _ _ f3
  obtain ⟨f1, q2, e2⟩ := mark_of 58 l _ _ f2
  obtain ⟨_, a, ha, a1, a2, a3, a4, e1⟩ := hr_of least l 0 false h0 f1
  rw [e1] at e2 q2 e3 q3 s3 v3 e4 q4 e5 q5 s5 v5 e6 q6 e7 q7 s7 hk
  simp only [e2] at e3 q3 s3 v3 e4 q4 e5 q5 s5 v5 e6 q6 e7 q7 s7 hk
  simp only [e3] at e4 q4 e5 q5 s5 v5 e6 q6 e7 q7 s7 hk
  simp only [e4] at e5 q5 s5 v5 e6 q6 e7 q7 s7 hk
  simp only [e5] at e6 q6 e7 q7 s7 hk
  simp only [e6] at e7 q7 s7 hk
  simp only [e7] at hk
  have l0 : l = a ++ l.drop a.length := by
    rw [List.drop_zero] at ha
    conv => lhs; rw [← List.take_append_drop a.length l]
    rw [← ha]
  generalize hA : a.length = A at *
  simp only [Nat.zero_add] at *
  have t3 : l.drop (A + 1) = (l.drop (A + 1)).take 2 ++ l.drop (A + 1 + 2) := (take_two l (A + 1)).symm
  have t5 : l.drop (A + 1 + 2 + 1) = (l.drop (A + 1 + 2 + 1)).take 2 ++ l.drop (A + 1 + 2 + 1 + 2) := (take_two l (A + 1 + 2 + 1)).symm
  have t7 : (l.drop (A + 1 + 2 + 1 + 2 + 1)).take dg = l.drop (A + 1 + 2 + 1 + 2 + 1) := List.take_of_length_le (by simp; omega)
  rw [t7] at q7 s7
  refine ⟨a, (l.drop (A + 1)).take 2, (l.drop (A + 1 + 2 + 1)).take 2, l.drop (A + 1 + 2 + 1 + 2 + 1), ⟨?_, a1, by omega, by omega, by rw [hA]; exact a4, q3, s3, v3, q5, s5, v5, q7, s7⟩⟩
  rw [← q6, ← t5, ← q4, ← t3, ← q2]
  exact l0
theorem form_read {least : Nat} {mk : UInt8} {dg : Nat} {l a b c d : List UInt8} (per : Nat) (F : FormL least mk dg l a b c d) (hd : valN d < per) :
    readA least mk per dg false l = (((((valN a : Nat) : Int) * 60 + (valN b : Nat)) * 60 + (valN c : Nat)) * per + (valN d : Nat), true) := by
  have D : ∀ q : List UInt8, q.all isDig = true → digA q = (((valN q : Nat) : Int), true) := fun q hq => by
    unfold digA
    rw [if_pos hq]
  have hA : hoursA least false (a ++ [58]) = (((valN a : Nat) : Int), true) := by
    unfold hoursA
    rw [if_neg (by simp), (has_colon _).1, (has_colon _).2, D a F.a1, if_neg]
    rintro (x | x | x | ⟨x, y⟩)
    · cases x
    · have := F.a2; omega
    · have := F.a3; omega
    · exact F.a4 x y
  have := read_form least per dg mk false (a ++ [58]) b c d _ _ _ _ F.b2 F.c2 F.d2 hA (D b F.b1) (D c F.c1) (D d F.d1) (by have := F.b3; omega) (by have := F.c3; omega) (by omega)
  rw [F.eq]
  simp only [List.append_assoc, List.cons_append, List.nil_append] at this ⊢
  exact this
theorem dig_of_true (q : List UInt8) (h : (digA q).2 = true) : q.all isDig = true ∧ digA q = (((valN q : Nat) : Int), true) := by
  unfold digA at h ⊢
  by_cases c : q.all isDig = true
  · rw [if_pos c]
    exact ⟨c, rfl⟩
  · rw [if_neg c] at h
    cases h
theorem read_formL {least : Nat} {mk : UInt8} {dg : Nat} {l : List UInt8} (per : Nat) (h : (readA least mk per dg false l).2 = true) : ∃ a b c d, FormL least mk dg l a b c d ∧ valN d < per := by
  unfold readA at h
  split at h
  · cases h
  · split at h
    · cases h
    · split at h
      · rename_i h1 h2 h3
        clear h
        simp only [Bool.and_eq_true, decide_eq_true_eq] at h3
        obtain ⟨⟨⟨ha, hb, hb2⟩, hc, hc2⟩, hd, hd2⟩ := h3
        generalize hk : l.length - 6 - dg = k at *
        have m1 : (l.drop (k + 2)).head? = some 58 := by
          refine Classical.byContradiction fun x => h2 (.inl x)
        have m2 : (l.drop (k + 5)).head? = some mk := by
          refine Classical.byContradiction fun x => h2 (.inr x)
        obtain ⟨b1, b2⟩ := dig_of_true _ hb
        obtain ⟨c1, c2⟩ := dig_of_true _ hc
        obtain ⟨d1, d2⟩ := dig_of_true _ hd
        rw [b2] at hb2
        rw [c2] at hc2
        rw [d2] at hd2
        unfold hoursA at ha
        split at ha
        · cases ha
        · split at ha
          · cases ha
          · rename_i h4 h5
            obtain ⟨a1, _⟩ := dig_of_true _ ha
            have hs : Lib.hasSuffix (l.take k) [58] = true := by
              cases hx : Lib.hasSuffix (l.take k) [58]
              · exact absurd (.inl hx) h5
              · rfl
            obtain ⟨t, ht⟩ := List.isSuffixOf_iff_suffix.1 hs
            have tt := (has_colon t).2
            rw [ht] at tt
            rw [tt] at a1 h5
            have p1 : l.drop (k + 2) = 58 :: l.drop (k + 3) := by
              rw [List.head?_drop] at m1
              obtain ⟨hk2, hc⟩ := List.getElem?_eq_some_iff.1 m1
              rw [List.drop_eq_getElem_cons hk2, hc]
            have p2 : l.drop (k + 5) = mk :: l.drop (k + 6) := by
              rw [List.head?_drop] at m2
              obtain ⟨hk2, hc⟩ := List.getElem?_eq_some_iff.1 m2
              rw [List.drop_eq_getElem_cons hk2, hc]
            refine ⟨t, (l.drop k).take 2, (l.drop (k + 3)).take 2, l.drop (k + 6), ⟨?_, a1, ?_, ?_, ?_, b1, by simp; omega, by omega, c1, by simp; omega, by omega, d1, by simp; omega⟩, by omega⟩
            · rw [← p2, show k + 5 = k + 3 + 2 by omega, take_two l (k + 3), ← p1, take_two l k]
              rw [show t ++ 58 :: List.drop k l = (t ++ [58]) ++ List.drop k l by simp, ht, List.take_append_drop]
            · exact Nat.le_of_not_lt fun x => h5 (.inr (.inl x))
            · exact Nat.le_of_not_lt fun x => h5 (.inr (.inr (.inl x)))
            · intro x y
              exact h5 (.inr (.inr (.inr ⟨x, y⟩)))
      · cases h
theorem read_no {least : Nat} {mk : UInt8} {dg per : Nat} {l : List UInt8} {s : Bool} (h : ¬ (readA least mk per dg s l).2 = true) : readA least mk per dg s l = (0, false) := by
  unfold readA at h ⊢
  split
  · rfl
  · rename_i h1
    rw [if_neg h1] at h
    split
    · rfl
    · rename_i h2
      rw [if_neg h2] at h
      split
      · rename_i h3
        rw [if_pos h3] at h
        exact absurd rfl h
      · rfl
/-- From the left and from the right: the same. -/
theorem chain_read (least : Nat) (mk : UInt8) (dg per : Nat) (l : List UInt8) (h0 : 1 ≤ least) :
    readA least mk per dg false l = if (chainS least mk dg l 0).b = false ∧ (chainS least mk dg l 0).k = l.length ∧ (chainS least mk dg l 0).x < per then ((((chainS least mk dg l 0).h * 60 + (chainS least mk dg l 0).m) * 60 + (chainS least mk dg l 0).s) * per + (chainS least mk dg l 0).x, true) else (0, false) := by
  by_cases ok : (chainS least mk dg l 0).b = false ∧ (chainS least mk dg l 0).k = l.length ∧ (chainS least mk dg l 0).x < per
  · rw [if_pos ok]
    obtain ⟨a, b, c, d, F⟩ := chain_form h0 ok.1 ok.2.1
    have e := form_chain F
    rw [e] at ok ⊢
    exact form_read per F (by have := ok.2.2; simp only at this; omega)
  · rw [if_neg ok]
    refine read_no fun x => ok ?_
    obtain ⟨a, b, c, d, F, hd⟩ := read_formL per x
    rw [form_chain F]
    exact ⟨rfl, rfl, by simp only; omega⟩
end Go.Proofs.YtaipdckakgohjaaDoor
