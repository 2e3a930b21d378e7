/- surtitleref5's reader. -/
import Derived.Test.YtaipdckakgohjaaGreatDoorCdR2
namespace Go.Proofs.YtaipdckakgohjaaGreatDoor
open Go.RowKit Go.Shelf
attribute [local go_sem] Oper.semAt_some

/-- A reader in memory: its text, where it stands, whether it is bad. -/
def RdAt (V : World) (B : Nat) (l : List UInt8) (k : Nat) (b : Bool) : Prop := B < V.heap.size ∧ V.cell? ⟨B, 0, none⟩ = some (.string (bs l)) ∧ V.cell? ⟨B, 1, none⟩ = some (.int .i64 k) ∧ V.cell? ⟨B, 2, none⟩ = some (.bool b) ∧ V.frozen? ⟨B, 1, none⟩ = false ∧ V.frozen? ⟨B, 2, none⟩ = false
theorem RdAt.keep {V U : World} {B : Nat} {l : List UInt8} {k : Nat} {b : Bool} (h : RdAt V B l k b) (q : Below V.heap.size V U) : RdAt U B l k b :=
  ⟨Nat.lt_of_lt_of_le h.1 q.size, (q.cell (p := ⟨B, 0, none⟩) h.1).trans h.2.1, (q.cell (p := ⟨B, 1, none⟩) h.1).trans h.2.2.1, (q.cell (p := ⟨B, 2, none⟩) h.1).trans h.2.2.2.1, (q.frozen (p := ⟨B, 1, none⟩) h.1).trans h.2.2.2.2.1, (q.frozen (p := ⟨B, 2, none⟩) h.1).trans h.2.2.2.2.2⟩
theorem RdAt.new (w : World) (l : List UInt8) : RdAt (w.alloc (.cells #[.string (bs l), .int .i64 0, .bool false] 66)) w.heap.size l 0 false := ⟨by simp, by go_simp, by go_simp, by go_simp, by go_simp, by go_simp⟩
theorem RdAt.drewN {V : World} {B : Nat} {l : List UInt8} {k : Nat} {b : Bool} (h : RdAt V B l k b) (n : Nat) : RdAt (V.drewN n) B l k b := h.keep (below_drewN (Below.refl _ _) n)
theorem RdAt.bad {V : World} {B : Nat} {l : List UInt8} {k : Nat} {b : Bool} (h : RdAt V B l k b) : RdAt (V.setCell ⟨B, 2, none⟩ (.bool true)) B l k true := by
  obtain ⟨h0, c0, c1, c2, f1, f2⟩ := h
  exact ⟨by simpa using h0, by go_simp, by go_simp, by go_simp, by go_simp, by go_simp⟩
theorem RdAt.step {V : World} {B : Nat} {l : List UInt8} {k : Nat} {b : Bool} (h : RdAt V B l k b) : RdAt (V.setCell ⟨B, 1, none⟩ (.int .i64 ((k + 1 : Nat) : Int))) B l (k + 1) b := by
  obtain ⟨h0, c0, c1, c2, f1, f2⟩ := h
  exact ⟨by simpa using h0, by go_simp, by go_simp, by go_simp, by go_simp, by go_simp⟩
theorem RdAt.drew {V : World} {B : Nat} {l : List UInt8} {k : Nat} {b : Bool} (h : RdAt V B l k b) : RdAt V.drew B l k b := h
theorem belowOwn {B : Nat} {a V : World} (h : Below B a V) (i : Nat) (v : Value) : Below B a (V.setCell ⟨B, i, none⟩ v) := h.setCell (p := ⟨B, i, none⟩) (Nat.le_refl _) v
/-- Just that byte. -/
def markS (c : UInt8) (l : List UInt8) (k : Nat) (b : Bool) : Nat × Bool := if l[k]? = some c then (k + 1, b) else (k, true)
set_option maxRecDepth 100000 in
theorem mark_end (B : Nat) (l : List UInt8) (k : Nat) (b : Bool) (c : Int) (hk : l.length ≤ k) (w : World) (h : RdAt w B l k b) :
    Calls Tryz.prog 30 #[.pointer (some ⟨B, 0, none⟩), .int .u8 c] w fun e w' => e = .returned (.tuple #[]) ∧ RdAt w' B l k true ∧ Below B w w' := by
  obtain ⟨h0, c0, c1, c2, f1, f2⟩ := id h
  have hsz := bs_size l
  have z1 : ((bs l).size : Int) ≤ (k : Int) := by omega
  have g1 : decide (((bs l).size : Int) ≤ (k : Int)) = true := decide_eq_true z1
  clear hsz hk
  go_enter Tryz.func30, Tryz.ntmps30
  go_wp2_with fail
  go_quiet (fail)
  go_wp2_with fail
  exact bodyPost_ret (v := .tuple #[]) (by simp [results, Tryz.results30, go_sem]) rfl ⟨rfl, (h.drewN nq).bad, belowOwn (below_drewN (Below.refl _ _) nq) _ _⟩
set_option maxRecDepth 100000 in
theorem mark_other (B : Nat) (l : List UInt8) (k : Nat) (b : Bool) (c : UInt8) (hk : k < l.length) (hc : ¬ (bs l)[k]'(by rw [bs_size]; exact hk) = c) (w : World) (h : RdAt w B l k b) :
    Calls Tryz.prog 30 #[.pointer (some ⟨B, 0, none⟩), .int .u8 c.toNat] w fun e w' => e = .returned (.tuple #[]) ∧ RdAt w' B l k true ∧ Below B w w' := by
  obtain ⟨h0, c0, c1, c2, f1, f2⟩ := id h
  have hsz := bs_size l
  have z1 : (k : Int) < ((bs l).size : Int) := by omega
  have z3 : k < (bs l).size := by omega
  have g1 : decide (((bs l).size : Int) ≤ (k : Int)) = false := decide_eq_false (by omega)
  have n3 : ¬ (bs l)[k].toNat = c.toNat := fun x => hc (UInt8.toNat_inj.1 x)
  have n2 : (((bs l)[k].toNat : Int) != (c.toNat : Int)) = true := by
    rw [bne_iff_ne]
    omega
  clear hsz
  go_enter Tryz.func30, Tryz.ntmps30
  go_wp2_with fail
  go_quiet (fail)
  go_wp2_with fail
  exact bodyPost_ret (v := .tuple #[]) (by simp [results, Tryz.results30, go_sem]) rfl ⟨rfl, (h.drewN nq).bad, belowOwn (below_drewN (Below.refl _ _) nq) _ _⟩
set_option maxRecDepth 100000 in
theorem mark_this (B : Nat) (l : List UInt8) (k : Nat) (b : Bool) (c : UInt8) (hl : l.length ≤ 9223372036854775807) (hk : k < l.length) (hc : (bs l)[k]'(by rw [bs_size]; exact hk) = c) (w : World) (h : RdAt w B l k b) :
    Calls Tryz.prog 30 #[.pointer (some ⟨B, 0, none⟩), .int .u8 c.toNat] w fun e w' => e = .returned (.tuple #[]) ∧ RdAt w' B l (k + 1) b ∧ Below B w w' := by
  obtain ⟨h0, c0, c1, c2, f1, f2⟩ := id h
  have hsz := bs_size l
  have z1 : (k : Int) < ((bs l).size : Int) := by omega
  have z3 : k < (bs l).size := by omega
  have zl : ((bs l).size : Int) ≤ 9223372036854775807 := by omega
  have g1 : decide (((bs l).size : Int) ≤ (k : Int)) = false := decide_eq_false (by omega)
  have n2 : (((bs l)[k].toNat : Int) != (c.toNat : Int)) = false := by rw [hc]; simp
  clear hsz hl
  go_enter Tryz.func30, Tryz.ntmps30
  go_wp2_with fail
  go_quiet (fail)
  go_wp2_with fail
  exact bodyPost_end (v := .tuple #[]) (by simp [results, Tryz.results30, go_sem]) rfl ⟨rfl, (h.drewN nq).step, belowOwn (below_drewN (Below.refl _ _) nq) _ _⟩
theorem rmark_any (B : Nat) (l : List UInt8) (k : Nat) (b : Bool) (c : UInt8) (hl : l.length ≤ 9223372036854775807) (w : World) (h : RdAt w B l k b) :
    Calls Tryz.prog 30 #[.pointer (some ⟨B, 0, none⟩), .int .u8 c.toNat] w fun e w' => e = .returned (.tuple #[]) ∧ RdAt w' B l (markS c l k b).1 (markS c l k b).2 ∧ Below B w w' := by
  have hsz := bs_size l
  unfold markS
  by_cases hk : k < l.length
  · have hg := bs_get l k (by omega)
    rw [List.getElem?_eq_getElem hk]
    by_cases hc : l[k] = c
    · rw [if_pos (by rw [hc])]
      exact mark_this B l k b c hl hk (hg.trans hc) w h
    · rw [if_neg (fun x => hc (Option.some.inj x))]
      exact mark_other B l k b c hk (fun x => hc (hg.symm.trans x)) w h
  · rw [List.getElem?_eq_none (by omega), if_neg (by simp)]
    exact mark_end B l k b _ (by omega) w h
/-- How many digits stand ahead. -/
def runC : List UInt8 → Nat
  | [] => 0
  | c :: t => if isDig c = true then runC t + 1 else 0
theorem runC_step {l : List UInt8} {k : Nat} (hk : k < l.length) : runC (l.drop k) = if isDig l[k] = true then runC (l.drop (k + 1)) + 1 else 0 := by
  rw [List.drop_eq_getElem_cons hk]
  rfl
theorem runC_end (l : List UInt8) (k : Nat) (h : l.length ≤ k) : runC (l.drop k) = 0 := by rw [List.drop_of_length_le h]; rfl
set_option maxRecDepth 100000 in
set_option maxHeartbeats 1000000 in
theorem rrun5_any (B : Nat) (l : List UInt8) (p : Nat) (b : Bool) (hp : p ≤ l.length) (hl : l.length ≤ 9223372036854775807) (w : World) (h : RdAt w B l p b) :
    Calls Tryz.prog 68 #[.pointer (some ⟨B, 0, none⟩)] w fun e w' => e = .returned (.int .i64 (runC (l.drop p) : Nat)) ∧ Below w.heap.size w w' := by
  have hsz := bs_size l
  go_enter Tryz.func68, Tryz.ntmps68
  go_wp2_with fail
  go_loopw [3] (fun vi wr => ∃ k : Nat, p + k ≤ l.length ∧ vi = .int .i64 k ∧ Hid (runC (l.drop p) = runC (l.drop (p + k)) + k) ∧ RdAt wr B l p b ∧ Below w.heap.size w wr) (fun vi _ => l.length - (intOf vi).toNat)
  case atStart => exact ⟨0, by omega, rfl, rfl, h, Below.refl _ _⟩
  case round =>
    clear h
    obtain ⟨k, hk, rfl, HK, h, hB⟩ := hrel
    obtain ⟨h0, c0, c1, c2, f1, f2⟩ := id h
    obtain ⟨j, hj⟩ : ∃ j, p + k = j := ⟨_, rfl⟩
    rw [hj] at HK hk
    have hji : (p : Int) + (k : Int) = (j : Int) := by omega
    have wj : IntKind.i64.wrap ((p : Int) + (k : Int)) = (j : Int) := by rw [IntKind.wrap_i64]; omega
    by_cases h1 : j < l.length
    · have z1 : (j : Int) < ((bs l).size : Int) := by omega
      have z2 : j < (bs l).size := by omega
      have g1 : decide ((j : Int) < ((bs l).size : Int)) = true := decide_eq_true z1
      obtain ⟨c, hc⟩ : ∃ c, l[j]'h1 = c := ⟨_, rfl⟩
      have hg : (bs l)[j] = c := (bs_get l j z2).trans hc
      have HS := runC_step h1
      rw [hc] at HS
      have HS := hideR HS
      clear hc
      have zl : ((bs l).size : Int) ≤ 9223372036854775807 := by omega
      have hlen : l.length = (bs l).size := hsz.symm
      have HL := hideR hlen
      clear hlen hsz hl hp hk h1
      by_cases hd : isDig c = true
      · have hx : 48 ≤ c.toNat ∧ c.toNat ≤ 57 := of_decide_eq_true hd
        have g2 : decide ((48 : Int) ≤ (c.toNat : Int)) = true := decide_eq_true (by omega)
        have g3 : decide ((c.toNat : Int) ≤ 57) = true := decide_eq_true (by omega)
        have HE : Hid (runC (l.drop j) = runC (l.drop (j + 1)) + 1) := by rw [Hid, HS.out, if_pos hd]
        clear hd HS
        go_wp2_with fail
        go_quiet (fail)
        go_wp2_with fail
        go_roundw
        case rel => exact ⟨k + 1, by have := HL.out; omega, by go_num, by have h1 := HK.out; have h2 := HE.out; rw [Hid, show p + (k + 1) = j + 1 by omega]; omega, h.drewN nq, below_drewN hB nq⟩
        case measure => have := HL.out; simp [intOf]; omega
      · have hx : ¬ (48 ≤ c.toNat ∧ c.toNat ≤ 57) := fun h => hd (decide_eq_true h)
        have HE : Hid (runC (l.drop j) = 0) := by rw [Hid, HS.out, if_neg hd]
        clear hd HS
        by_cases hy : c.toNat < 48
        · have g2 : decide ((48 : Int) ≤ (c.toNat : Int)) = false := decide_eq_false (by omega)
          go_wp2_with fail
          go_quiet (fail)
          go_wp2_with fail
          go_ret
          exact ⟨ret_int (by have h1 := HK.out; have h2 := HE.out; omega), below_drewN hB nq⟩
        · have g2 : decide ((48 : Int) ≤ (c.toNat : Int)) = true := decide_eq_true (by omega)
          have g3 : decide ((c.toNat : Int) ≤ 57) = false := decide_eq_false (by omega)
          go_wp2_with fail
          go_quiet (fail)
          go_wp2_with fail
          go_ret
          exact ⟨ret_int (by have h1 := HK.out; have h2 := HE.out; omega), below_drewN hB nq⟩
    · have z1 : ((bs l).size : Int) ≤ (j : Int) := by omega
      have g1 : decide ((j : Int) < ((bs l).size : Int)) = false := decide_eq_false (by omega)
      have HE := hideR (runC_end l j (by omega))
      have zl : ((bs l).size : Int) ≤ 9223372036854775807 := by omega
      have g3 : ¬ j < (bs l).size := by omega
      have z4 : (j : Int) ≤ ((bs l).size : Int) := by omega
      have wk : IntKind.i64.wrap (j : Int) = (j : Int) := by rw [IntKind.wrap_i64]; omega
      have g2 : decide (j < (bs l).size) = false := decide_eq_false g3
      clear hsz hl hp hk h1
      go_wp2_with fail
      go_quiet (fail)
      go_wp2_with fail
      go_ret
      exact ⟨ret_int (by have h1 := HK.out; have h2 := HE.out; omega), below_drewN hB nq⟩
end Go.Proofs.YtaipdckakgohjaaGreatDoor
