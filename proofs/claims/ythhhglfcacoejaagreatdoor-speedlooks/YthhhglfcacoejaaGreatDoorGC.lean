/- Several texts, one behind the other. -/
import Derived.Deep.RegionHeld3
import Derived.LaidEql
import Derived.Stop.Asserts
import Derived.Stop.IfaceNil
import Derived.Lib.IfaceEq
import Derived.Test.YthhhglfcacoejaaGreatDoorCloneW
import Derived.Test.YthhhglfcacoejaaGreatDoorGD
import Derived.Test.YthhhglfcacoejaaGreatDoorGR
import Derived.Test.YthhhglfcacoejaaGreatDoorGS
/- cue.Compare at every two cues; cue.CheckDoc at every document, what cue.Check tells of each cue given. -/
namespace Go.Proofs.YthhhglfcacoejaaGreatDoor
open Go.RowKit Go.Shelf

/-- A cue: its times, lane, side, name, text. -/
structure Cu where
  (a b c d la sd : Int)
  (nm s : ByteArray)
  (o : Option Addr)
  (n k : Nat)
def Cu.v (x : Cu) : Value := .slice x.o x.n x.k
def Cu.cells (x : Cu) : Array Value := #[.int .i64 x.a, .int .i64 x.b, .int .i64 x.c, .int .i64 x.d, .int .i64 x.la, .int .i64 x.sd, .string x.nm, .string x.s, .slice x.o x.n x.k]
/-- Cues that lie one behind the other at an address, if there are any. -/
def CuO (V : World) (oa : Option Addr) (Q : List Cu) : Prop := ∀ (i : Nat) (x : Cu), Q[i]? = some x → ∃ a : Addr, oa = some a ∧ a.block < V.heap.size ∧
  (V.cell? (a.add (i * 9)) = some (.int .i64 x.a) ∧ V.cell? ⟨(a.add (i * 9)).block, (a.add (i * 9)).off + 1, none⟩ = some (.int .i64 x.b) ∧ V.cell? ⟨(a.add (i * 9)).block, (a.add (i * 9)).off + 2, none⟩ = some (.int .i64 x.c) ∧ V.cell? ⟨(a.add (i * 9)).block, (a.add (i * 9)).off + 3, none⟩ = some (.int .i64 x.d)) ∧
  (V.cell? ⟨(a.add (i * 9)).block, (a.add (i * 9)).off + 4, none⟩ = some (.int .i64 x.la) ∧ V.cell? ⟨(a.add (i * 9)).block, (a.add (i * 9)).off + 5, none⟩ = some (.int .i64 x.sd)) ∧
  (V.cell? ⟨(a.add (i * 9)).block, (a.add (i * 9)).off + 6, none⟩ = some (.string x.nm) ∧ V.cell? ⟨(a.add (i * 9)).block, (a.add (i * 9)).off + 7, none⟩ = some (.string x.s) ∧ V.cell? ⟨(a.add (i * 9)).block, (a.add (i * 9)).off + 8, none⟩ = some (.slice x.o x.n x.k))
theorem addrK_block (a : Addr) (n : Nat) : (a.add n).block = a.block := by unfold Addr.add; split <;> rfl
theorem CuO.keep {V V2 : World} {oa : Option Addr} {Q : List Cu} (h : CuO V oa Q) (b : Below V.heap.size V V2) : CuO V2 oa Q := fun i x hx => by
  obtain ⟨a, e, hab, ⟨c0, c1, c2, c3⟩, ⟨c4, c5⟩, ⟨c6, c7, c8⟩⟩ := h i x hx
  have hb : (a.add (i * 9)).block < V.heap.size := by rw [addrK_block]; exact hab
  have k : ∀ n, V2.cell? ⟨(a.add (i * 9)).block, n, none⟩ = V.cell? ⟨(a.add (i * 9)).block, n, none⟩ := fun n => b.cell (p := ⟨(a.add (i * 9)).block, n, none⟩) hb
  exact ⟨a, e, Nat.lt_of_lt_of_le hab b.size, ⟨(b.cell (p := a.add (i * 9)) hb).trans c0, (k _).trans c1, (k _).trans c2, (k _).trans c3⟩, ⟨(k _).trans c4, (k _).trans c5⟩, ⟨(k _).trans c6, (k _).trans c7, (k _).trans c8⟩⟩
/-- How cues compare. -/
def cmpC (x y : Cu) : Int := if cmpI ⟨x.a, x.b⟩ ⟨y.a, y.b⟩ = 0 then cmpI ⟨x.c, x.d⟩ ⟨y.c, y.d⟩ else cmpI ⟨x.a, x.b⟩ ⟨y.a, y.b⟩

set_option maxRecDepth 100000 in
theorem orI_two (a b : Int) (B : Nat) (w : World) (h0 : w.cell? ⟨B, 0, none⟩ = some (.int .i64 a)) (h1 : w.cell? ⟨B, 1, none⟩ = some (.int .i64 b)) :
    Calls Tryz.prog 91 #[.slice (some ⟨B, 0, none⟩) 2 2] w fun e w' => e = .returned (.int .i64 (if a = 0 then b else a)) ∧ Below w.heap.size w w' := by
  generalize hv : (if a = 0 then b else a) = V at *
  have HW := hideC hv
  clear hv
  go_enter Tryz.func91, Tryz.ntmps91
  go_wp2
  go_loopw [5, 8] (fun _ i wr => wr = w ∧ ((i = .int .i64 0) ∨ (i = .int .i64 1 ∧ a = 0) ∨ (i = .int .i64 2 ∧ a = 0 ∧ b = 0))) (fun _ i _ => 2 - (intOf i).toNat)
  case atStart => exact ⟨rfl, .inl rfl⟩
  case round =>
    obtain ⟨rfl, rfl | ⟨rfl, ha⟩ | ⟨rfl, ha, hb⟩⟩ := hrel
    · by_cases h : a = 0
      · subst h
        go_wp2
        go_roundw
        case rel => exact ⟨trivial, .inr (.inl ⟨by go_num, trivial⟩)⟩
        case measure => decide
      · go_wp2
        go_ret
        refine ⟨?_, Below.refl _ _⟩
        have := HW.out
        rw [if_neg h] at this
        rw [← this]
        rfl
    · by_cases h : b = 0
      · subst h ha
        go_wp2
        go_roundw
        case rel => exact ⟨trivial, .inr (.inr ⟨by go_num, trivial, trivial⟩)⟩
        case measure => decide
      · go_wp2
        go_ret
        refine ⟨?_, Below.refl _ _⟩
        have := HW.out
        rw [if_pos ha] at this
        rw [← this]
        rfl
    · go_wp2
      go_ret
      refine ⟨?_, Below.refl _ _⟩
      have := HW.out
      rw [if_pos ha, hb] at this
      rw [← this]
      rfl

set_option maxRecDepth 100000 in
set_option maxHeartbeats 1000000 in
theorem compare_walk (x y : Cu) (p q r : Int) (hr : (if p = 0 then q else p) = r) (w : World)
    (H1 : ∀ W, Calls Tryz.prog 36 #[.agg #[.int .i64 x.a, .int .i64 x.b], .agg #[.int .i64 y.a, .int .i64 y.b]] W fun e w' => e = .returned (.int .i64 p) ∧ Below W.heap.size W w')
    (H2 : ∀ W, Calls Tryz.prog 36 #[.agg #[.int .i64 x.c, .int .i64 x.d], .agg #[.int .i64 y.c, .int .i64 y.d]] W fun e w' => e = .returned (.int .i64 q) ∧ Below W.heap.size W w') :
    Calls Tryz.prog 63 #[.agg x.cells, .agg y.cells] w fun e w' => e = .returned (.int .i64 r) ∧ Below w.heap.size w w' := by
  have HO : ∀ B W, World.cell? W ⟨B, 0, none⟩ = some (.int .i64 p) → World.cell? W ⟨B, 1, none⟩ = some (.int .i64 q) → Calls Tryz.prog 91 #[.slice (some ⟨B, 0, none⟩) 2 2] W fun e w' => e = .returned (.int .i64 r) ∧ Below W.heap.size W w' := fun B W g0 g1 => by
    have := orI_two p q B W g0 g1
    rw [hr] at this
    exact this
  clear hr
  replace HO := hideC HO
  replace H1 := hideC H1
  replace H2 := hideC H2
  unfold Cu.cells
  cases x with | mk a b c d la sd nm s o n k => ?_
  cases y with | mk a2 b2 c2 d2 la2 sd2 nm2 s2 o2 n2 k2' => ?_
  simp only at *
  go_enter Tryz.func63, Tryz.ntmps63
  go_wp2_with fail
  have QX : CueC (w.alloc (.cells #[.int .i64 a, .int .i64 b, .int .i64 c, .int .i64 d, .int .i64 la, .int .i64 sd, .string nm, .string s, .slice o n k] 59)) w.heap.size a b c d la sd nm s (.slice o n k) := World.alloc_heap_new w _
  have QY : CueC ((w.alloc (.cells #[.int .i64 a, .int .i64 b, .int .i64 c, .int .i64 d, .int .i64 la, .int .i64 sd, .string nm, .string s, .slice o n k] 59)).alloc (.cells #[.int .i64 a2, .int .i64 b2, .int .i64 c2, .int .i64 d2, .int .i64 la2, .int .i64 sd2, .string nm2, .string s2, .slice o2 n2 k2'] 59)) (w.heap.size + 1) a2 b2 c2 d2 la2 sd2 nm2 s2 (.slice o2 n2 k2') := by
    have h := World.alloc_heap_new (w.alloc (.cells #[.int .i64 a, .int .i64 b, .int .i64 c, .int .i64 d, .int .i64 la, .int .i64 sd, .string nm, .string s, .slice o n k] 59)) (.cells #[.int .i64 a2, .int .i64 b2, .int .i64 c2, .int .i64 d2, .int .i64 la2, .int .i64 sd2, .string nm2, .string s2, .slice o2 n2 k2'] 59)
    rw [World.size_alloc] at h
    exact h
  replace QX := QX.keep (bel1 _ (.cells #[.int .i64 a2, .int .i64 b2, .int .i64 c2, .int .i64 d2, .int .i64 la2, .int .i64 sd2, .string nm2, .string s2, .slice o2 n2 k2'] 59))
  have B0 : Below w.heap.size w ((w.alloc (.cells #[.int .i64 a, .int .i64 b, .int .i64 c, .int .i64 d, .int .i64 la, .int .i64 sd, .string nm, .string s, .slice o n k] 59)).alloc (.cells #[.int .i64 a2, .int .i64 b2, .int .i64 c2, .int .i64 d2, .int .i64 la2, .int .i64 sd2, .string nm2, .string s2, .slice o2 n2 k2'] 59)) := ((Below.refl _ w).alloc (Nat.le_refl _) _).alloc (by simp) _
  generalize (w.alloc (.cells #[.int .i64 a, .int .i64 b, .int .i64 c, .int .i64 d, .int .i64 la, .int .i64 sd, .string nm, .string s, .slice o n k] 59)).alloc (.cells #[.int .i64 a2, .int .i64 b2, .int .i64 c2, .int .i64 d2, .int .i64 la2, .int .i64 sd2, .string nm2, .string s2, .slice o2 n2 k2'] 59) = V at *
  have B0 := hideC B0
  have ⟨⟨c0, c1, c2', c3⟩, _⟩ := QX.cells
  have ⟨⟨k0, k1, k2, k3⟩, _⟩ := QY.cells
  have Q0 := hideC (And.intro QX QY)
  clear QX QY
  go_region_held3 (fun w' => w'.cell? ⟨w.heap.size, 0, none⟩ = some (.int .i64 a) ∧ w'.cell? ⟨w.heap.size, 1, none⟩ = some (.int .i64 b) ∧ w'.cell? ⟨w.heap.size, 2, none⟩ = some (.int .i64 c) ∧ w'.cell? ⟨w.heap.size, 3, none⟩ = some (.int .i64 d) ∧ w'.cell? ⟨w.heap.size + 1, 0, none⟩ = some (.int .i64 a2) ∧ w'.cell? ⟨w.heap.size + 1, 1, none⟩ = some (.int .i64 b2) ∧ w'.cell? ⟨w.heap.size + 1, 2, none⟩ = some (.int .i64 c2) ∧ w'.cell? ⟨w.heap.size + 1, 3, none⟩ = some (.int .i64 d2)) (first | go_keep | assumption) (first
    | (go_at_call 36; (with_reducible refine (H1.out V.drew).mono ?_); rintro e w1 ⟨rfl, b1⟩; have Q1 := hideC (And.intro (Q0.out.1.keep (Below.drew_of b1)) (Q0.out.2.keep (Below.drew_of b1))); have ⟨⟨d0, d1, d2', d3⟩, _⟩ := Q1.out.1.cells; have ⟨⟨f0, f1, f2, f3⟩, _⟩ := Q1.out.2.cells)
    | (go_at_call 36; (with_reducible refine (H2.out _).mono ?_); rintro e w2 ⟨rfl, b2⟩; have Q2 := hideC (And.intro (Q1.out.1.keep b2) (Q1.out.2.keep b2)); have ⟨⟨g0, g1, g2, g3⟩, _⟩ := Q2.out.1.cells; have ⟨⟨h0, h1, h2, h3⟩, _⟩ := Q2.out.2.cells)
    | (go_at_call 91; (with_reducible refine (HO.out _ _ (cell_two_newA _ _ _ _) (cell_two_newB _ _ _ _)).mono ?_); rintro e w3 ⟨rfl, b3⟩; have Q3 := hideC (And.intro ((Q2.out.1.keep (bel1 _ _)).keep b3) ((Q2.out.2.keep (bel1 _ _)).keep b3)); have ⟨⟨i0, i1, i2, i3⟩, _⟩ := Q3.out.1.cells; have ⟨⟨j0, j1, j2, j3⟩, _⟩ := Q3.out.2.cells))
  have B3 := hideC (((B0.out.trans ((Below.drew_of b1).mono (by have := B0.out.size; omega))).trans (b2.mono (Nat.le_trans B0.out.size (Below.drew_of b1).size))).trans ((bel1 _ _).trans (b3.mono (by simp))|>.mono (Nat.le_trans (Nat.le_trans B0.out.size (Below.drew_of b1).size) b2.size)))
  go_wp2_with fail
  go_ret
  exact ⟨rfl, B3.out⟩

/-- The first cue that is refused, and why. -/
def badC (f : Cu → Int) : Nat → List Cu → Option (Nat × Int)
  | _, [] => none
  | i, x :: t => if f x = 0 then badC f (i + 1) t else some (i, f x)
/-- The first cue that is out of order. -/
def disC : Nat → List Cu → Option (Nat × Int)
  | _, [] => none
  | _, [_] => none
  | i, x :: y :: t => if 0 < cmpC x y then some (i + 1, 33) else disC (i + 1) (y :: t)
/-- What CheckDoc tells. -/
def docC (f : Cu → Int) (L : List Cu) : Option (Nat × Int) := if 4096 < L.length then some (0, 2) else match badC f 0 L with
  | some p => some p
  | none => disC 0 L
theorem badC_drop (f : Cu → Int) (L : List Cu) (i : Nat) (x : Cu) (h : L[i]? = some x) : badC f i (L.drop i) = if f x = 0 then badC f (i + 1) (L.drop (i + 1)) else some (i, f x) := by
  obtain ⟨hi, hx⟩ := List.getElem?_eq_some_iff.1 h
  rw [List.drop_eq_getElem_cons hi, hx]
  rfl
theorem disC_drop (L : List Cu) (i : Nat) (x y : Cu) (h : L[i]? = some x) (h2 : L[i + 1]? = some y) : disC i (L.drop i) = if 0 < cmpC x y then some (i + 1, 33) else disC (i + 1) (L.drop (i + 1)) := by
  obtain ⟨hi, hx⟩ := List.getElem?_eq_some_iff.1 h
  obtain ⟨hi2, hx2⟩ := List.getElem?_eq_some_iff.1 h2
  rw [List.drop_eq_getElem_cons hi, hx, List.drop_eq_getElem_cons hi2, hx2]
  rfl
theorem disC_end (L : List Cu) (i : Nat) (h : L.length ≤ i + 1) : disC i (L.drop i) = none := by
  rcases hd : L.drop i with _ | ⟨x, _ | ⟨y, t⟩⟩
  · rfl
  · rfl
  · have := congrArg List.length hd
    simp at this
    omega
/-- An error that CheckDoc told, or none. -/
def WrV (V : World) (m : Nat) (r : Option (Nat × Int)) (v : Value) : Prop := match r with
  | none => v = .nilIface
  | some (i, k) => ∃ g, v = .iface 77 (.pointer (some ⟨g, 0, none⟩)) ∧ m ≤ g ∧ V.heap[g]? = some (.cells #[.int .i64 i, .int .i64 k] 81)

set_option maxRecDepth 100000 in
set_option maxHeartbeats 2000000 in
theorem checkdoc_walk (f : Cu → Int) (L : List Cu) (oa : Option Addr) (cap : Nat) (hc : L.length ≤ cap ∧ cap ≤ maxLen) (w : World) (hR : CuO w oa L)
    (HK : ∀ x ∈ L, ∀ W, Below w.heap.size w W → Calls Tryz.prog 53 #[.agg x.cells] W fun e w' => e = .returned (.int .i64 (f x)) ∧ Below W.heap.size W w')
    (HC : (∀ x ∈ L, f x = 0) → ∀ x ∈ L, ∀ y ∈ L, ∀ W, Calls Tryz.prog 63 #[.agg x.cells, .agg y.cells] W fun e w' => e = .returned (.int .i64 (cmpC x y)) ∧ Below W.heap.size W w') :
    Calls Tryz.prog 34 #[.agg #[.slice oa L.length cap]] w fun e w' => ∃ v, e = .returned v ∧ WrV w' w.heap.size (docC f L) v ∧ Below w.heap.size w w' := by
  obtain ⟨N, hN⟩ : ∃ N, L.length = N := ⟨_, rfl⟩
  obtain ⟨R, hRR⟩ : ∃ R, docC f L = R := ⟨_, rfl⟩
  have HN := hideC (And.intro hN hRR)
  rw [hN] at hc
  rw [hN, hRR]
  have hcm : cap ≤ 9223372036854775807 := hc.2
  have HR := hideC hR
  replace HK := hideC HK
  replace HC := hideC HC
  clear hR hN hRR
  go_enter Tryz.func34, Tryz.ntmps34
  by_cases hbig : 4096 < N
  · have d1 : (4096 : Int) < (N : Int) := by omega
    have hr : R = some (0, 2) := by have := HN.out.2; unfold docC at this; rw [HN.out.1, if_pos hbig] at this; exact this.symm
    go_wp2_with fail
    go_ret
    subst hr
    refine ⟨_, rfl, ⟨w.heap.size + 1, rfl, by omega, ?_⟩, ((Below.refl _ w).alloc (Nat.le_refl _) _).alloc (by simp) _⟩
    have h := World.alloc_heap_new (w.alloc (.cells #[.slice oa N cap] 24)) (.cells #[.int .i64 0, .int .i64 2] 81)
    rw [World.size_alloc] at h
    exact h
  have d1 : ¬ (4096 : Int) < (N : Int) := by omega
  have hr : R = match badC f 0 L with | some p => some p | none => disC 0 L := by have := HN.out.2; unfold docC at this; rw [HN.out.1, if_neg hbig] at this; exact this.symm
  replace HN := hideC (And.intro HN.out.1 hr)
  clear hr
  go_wp2_with fail
  obtain ⟨V, hV⟩ : ∃ V, w.alloc (.cells #[.slice oa N cap] 24) = V := ⟨_, rfl⟩
  have HV : Hid (Below w.heap.size w V ∧ V.heap.size = w.heap.size + 1 ∧ V.cell? ⟨w.heap.size, 0, none⟩ = some (.slice oa N cap)) := hideC (by rw [← hV]; exact ⟨bel1 _ _, World.size_alloc _ _, by simp⟩)
  rw [hV]
  clear hV
  go_loopw [17] (fun iv wq => ∃ i : Nat, iv = .int .i64 (i : Nat) ∧ i ≤ N ∧ (badC f 0 L = badC f i (L.drop i) ∧ ∀ j x, j < i → L[j]? = some x → f x = 0) ∧ Below V.heap.size V wq) (fun iv _ => N - (intOf iv).toNat)
  case atStart => exact ⟨0, rfl, Nat.zero_le _, ⟨rfl, fun j x h => by omega⟩, Below.refl _ _⟩
  case round =>
    obtain ⟨i, rfl, hi, hall, hb⟩ := hrel
    obtain ⟨wq, rfl⟩ : ∃ wq, wq = wr := ⟨_, rfl⟩
    have bw := bup HV.out.1 hb
    by_cases hlt : i < N
    · obtain ⟨x, hx⟩ : ∃ x, L[i]? = some x := ⟨_, List.getElem?_eq_getElem (by rw [HN.out.1]; exact hlt)⟩
      obtain ⟨a, rfl, hab, ⟨c0, c1, c2, c3⟩, ⟨c4, c5⟩, ⟨c6, c7, c8⟩⟩ := HR.out.keep bw i x hx
      have d2 : (i : Int) < (N : Int) := by omega
      have wi : IntKind.i64.wrap ((i : Int) + 1) = ((i + 1 : Nat) : Int) := by rw [show ((i + 1 : Nat) : Int) = (i : Int) + 1 by omega]; exact IntWalk.i64_in _ ⟨by omega, by omega⟩
      have HF := hideC (HK.out x (List.mem_of_getElem? hx))
      obtain ⟨g, hg⟩ : ∃ g, f x = g := ⟨_, rfl⟩
      rw [hg] at HF
      have HA := hideC (And.intro (And.intro hall hg) (And.intro hb (And.intro hx bw)))
      clear hall hg hb hx bw
      go_wp2_with fail
      obtain ⟨V2, hV2⟩ : ∃ V2, wq.alloc (.cells #[.int .i64 x.a, .int .i64 x.b, .int .i64 x.c, .int .i64 x.d, .int .i64 x.la, .int .i64 x.sd, .string x.nm, .string x.s, .slice x.o x.n x.k] 59) = V2 := ⟨_, rfl⟩
      have HV2 : Hid (Below wq.heap.size wq V2) := hideC (by rw [← hV2]; exact bel1 _ _)
      rw [hV2]
      refine (HF.out V2 (bup HA.out.2.2.2 HV2.out)).mono ?_
      rintro e w5 ⟨rfl, b5⟩
      have H5 := hideC (And.intro (bup HA.out.2.1 (bup HV2.out b5)) (bup HA.out.2.2.2 (bup HV2.out b5)))
      clear b5 HV2 hV2 c0 c1 c2 c3 c4 c5 c6 c7 c8
      by_cases h0 : g = 0
      · subst h0
        go_wp2_with fail
        go_roundw
        case rel =>
          refine ⟨i + 1, by first | rfl | simp, by omega, ⟨?_, ?_⟩, H5.out.1⟩
          · rw [HA.out.1.1.1, badC_drop f L i x HA.out.2.2.1, if_pos HA.out.1.2]
          · intro j y hj hy
            rcases Nat.lt_succ_iff_lt_or_eq.1 hj with h | rfl
            · exact HA.out.1.1.2 j y h hy
            · rw [HA.out.2.2.1] at hy
              cases hy
              exact HA.out.1.2
        case measure => simp [intOf]; omega
      · have hr : R = some (i, g) := by
          have h1 := HN.out.2
          rw [HA.out.1.1.1, badC_drop f L i x HA.out.2.2.1, if_neg (by rw [HA.out.1.2]; exact h0), HA.out.1.2] at h1
          exact h1
        go_wp2_with fail
        go_ret
        subst hr
        refine ⟨_, rfl, ⟨w5.heap.size, rfl, H5.out.2.size, World.alloc_heap_new _ _⟩, H5.out.2.alloc H5.out.2.size _⟩
    · have hiN : i = N := by omega
      subst hiN
      have hbn : badC f 0 L = none := by
        rw [hall.1, List.drop_eq_nil_of_le (by rw [HN.out.1]; exact Nat.le_refl _)]
        rfl
      have hr : R = disC 0 L := by have h1 := HN.out.2; rw [hbn] at h1; exact h1
      have hz : ∀ x ∈ L, f x = 0 := fun x hx => by
        obtain ⟨j, hj⟩ := List.getElem?_of_mem hx
        exact hall.2 j x (by have := (List.getElem?_eq_some_iff.1 hj).1; rw [HN.out.1] at this; exact this) hj
      replace HC := hideC (HC.out hz)
      replace HN := hideC (And.intro HN.out.1 hr)
      clear hr hbn hall hlt hi hz HK
      have HB := hideC (And.intro hb bw)
      have cD : wq.cell? ⟨w.heap.size, 0, none⟩ = some (.slice oa i cap) := (hb.cell (p := ⟨w.heap.size, 0, none⟩) (by rw [HV.out.2.1]; exact Nat.lt_succ_self _)).trans HV.out.2.2
      have HD := hideC (And.intro cD (show w.heap.size < wq.heap.size from Nat.lt_of_lt_of_le (by rw [HV.out.2.1]; exact Nat.lt_succ_self _) hb.size))
      clear cD hb bw
      go_wp2_with fail
      go_loopw [6] (fun jv wz => ∃ j m : Nat, m = j + 1 ∧ jv = .int .i64 (m : Nat) ∧ (j = 0 ∨ m ≤ i) ∧ disC 0 L = disC j (L.drop j) ∧ Below wq.heap.size wq wz) (fun jv _ => i + 1 - (intOf jv).toNat)
      case atStart => exact ⟨0, 1, rfl, rfl, .inl rfl, rfl, Below.refl _ _⟩
      case round =>
        obtain ⟨j, m, hm, rfl, hj, hdis, hb⟩ := hrel
        obtain ⟨wz, rfl⟩ : ∃ wz, wz = wr := ⟨_, rfl⟩
        have cD : wz.cell? ⟨w.heap.size, 0, none⟩ = some (.slice oa i cap) := (hb.cell (p := ⟨w.heap.size, 0, none⟩) HD.out.2).trans HD.out.1
        have bw := bup HB.out.2 hb
        by_cases hlt : m < i
        · obtain ⟨x, hx⟩ : ∃ x, L[j]? = some x := ⟨_, List.getElem?_eq_getElem (by rw [HN.out.1]; omega)⟩
          obtain ⟨y, hy⟩ : ∃ y, L[m]? = some y := ⟨_, List.getElem?_eq_getElem (by rw [HN.out.1]; omega)⟩
          obtain ⟨a, rfl, hab, ⟨c0, c1, c2, c3⟩, ⟨c4, c5⟩, ⟨c6, c7, c8⟩⟩ := HR.out.keep bw j x hx
          obtain ⟨a2, ha2, -, ⟨k0, k1, k2, k3⟩, ⟨k4, k5⟩, ⟨k6, k7, k8⟩⟩ := HR.out.keep bw m y hy
          obtain rfl : a = a2 := by cases ha2; rfl
          clear ha2
          have d2 : (m : Int) < (i : Int) := by omega
          have w1 : (m : Int) - 1 = (j : Int) := by omega
          have w0 : IntKind.i64.wrap (j : Int) = (j : Int) := IntWalk.i64_in _ ⟨by omega, by omega⟩
          have w2 : IntKind.i64.wrap ((m : Int) + 1) = ((m + 1 : Nat) : Int) := by rw [show ((m + 1 : Nat) : Int) = (m : Int) + 1 by omega]; exact IntWalk.i64_in _ ⟨by omega, by omega⟩
          have d3 : (j : Int) < (i : Int) := by omega
          have HF := hideC (HC.out x (List.mem_of_getElem? hx) y (List.mem_of_getElem? hy))
          obtain ⟨g, hg⟩ : ∃ g, cmpC x y = g := ⟨_, rfl⟩
          rw [hg] at HF
          have HA := hideC (And.intro (And.intro hdis hg) (And.intro hb (And.intro hx (And.intro hy (And.intro bw hm)))))
          clear hdis hg hb hx hy bw hm
          go_wp2_with fail
          unfold Cu.cells at HF
          have HZ := hideC (And.intro (Nat.lt_of_lt_of_le HD.out.2 HA.out.2.1.size) (show ∀ n, (a.add n).block < wz.heap.size from fun n => by rw [addrK_block]; exact hab))
          go_region_held3 (fun w' => w'.cell? ⟨w.heap.size, 0, none⟩ = some (.slice (some a) i cap) ∧ w'.cell? (a.add (j * 9)) = some (.int .i64 x.a) ∧ w'.cell? ⟨(a.add (j * 9)).block, (a.add (j * 9)).off + 1, none⟩ = some (.int .i64 x.b) ∧ w'.cell? ⟨(a.add (j * 9)).block, (a.add (j * 9)).off + 2, none⟩ = some (.int .i64 x.c) ∧ w'.cell? ⟨(a.add (j * 9)).block, (a.add (j * 9)).off + 3, none⟩ = some (.int .i64 x.d) ∧ w'.cell? ⟨(a.add (j * 9)).block, (a.add (j * 9)).off + 4, none⟩ = some (.int .i64 x.la) ∧ w'.cell? ⟨(a.add (j * 9)).block, (a.add (j * 9)).off + 5, none⟩ = some (.int .i64 x.sd) ∧ w'.cell? ⟨(a.add (j * 9)).block, (a.add (j * 9)).off + 6, none⟩ = some (.string x.nm) ∧ w'.cell? ⟨(a.add (j * 9)).block, (a.add (j * 9)).off + 7, none⟩ = some (.string x.s) ∧ w'.cell? ⟨(a.add (j * 9)).block, (a.add (j * 9)).off + 8, none⟩ = some (.slice x.o x.n x.k) ∧ w'.cell? (a.add (m * 9)) = some (.int .i64 y.a) ∧ w'.cell? ⟨(a.add (m * 9)).block, (a.add (m * 9)).off + 1, none⟩ = some (.int .i64 y.b) ∧ w'.cell? ⟨(a.add (m * 9)).block, (a.add (m * 9)).off + 2, none⟩ = some (.int .i64 y.c) ∧ w'.cell? ⟨(a.add (m * 9)).block, (a.add (m * 9)).off + 3, none⟩ = some (.int .i64 y.d) ∧ w'.cell? ⟨(a.add (m * 9)).block, (a.add (m * 9)).off + 4, none⟩ = some (.int .i64 y.la) ∧ w'.cell? ⟨(a.add (m * 9)).block, (a.add (m * 9)).off + 5, none⟩ = some (.int .i64 y.sd) ∧ w'.cell? ⟨(a.add (m * 9)).block, (a.add (m * 9)).off + 6, none⟩ = some (.string y.nm) ∧ w'.cell? ⟨(a.add (m * 9)).block, (a.add (m * 9)).off + 7, none⟩ = some (.string y.s) ∧ w'.cell? ⟨(a.add (m * 9)).block, (a.add (m * 9)).off + 8, none⟩ = some (.slice y.o y.n y.k)) (first | go_keep | assumption | exact k9) (first | (go_at_call 63; (with_reducible refine (HF.out _).mono ?_); rintro e w5 ⟨rfl, b5⟩; have b5 : Below wz.heap.size wz w5 := (by first | exact ⟨b5.os, b5.tape, b5.output, b5.size, b5.block⟩ | exact b5); have k9 : w5.cell? ⟨w.heap.size, 0, none⟩ = some (.slice (some a) i cap) ∧ w5.cell? (a.add (j * 9)) = some (.int .i64 x.a) ∧ w5.cell? ⟨(a.add (j * 9)).block, (a.add (j * 9)).off + 1, none⟩ = some (.int .i64 x.b) ∧ w5.cell? ⟨(a.add (j * 9)).block, (a.add (j * 9)).off + 2, none⟩ = some (.int .i64 x.c) ∧ w5.cell? ⟨(a.add (j * 9)).block, (a.add (j * 9)).off + 3, none⟩ = some (.int .i64 x.d) ∧ w5.cell? ⟨(a.add (j * 9)).block, (a.add (j * 9)).off + 4, none⟩ = some (.int .i64 x.la) ∧ w5.cell? ⟨(a.add (j * 9)).block, (a.add (j * 9)).off + 5, none⟩ = some (.int .i64 x.sd) ∧ w5.cell? ⟨(a.add (j * 9)).block, (a.add (j * 9)).off + 6, none⟩ = some (.string x.nm) ∧ w5.cell? ⟨(a.add (j * 9)).block, (a.add (j * 9)).off + 7, none⟩ = some (.string x.s) ∧ w5.cell? ⟨(a.add (j * 9)).block, (a.add (j * 9)).off + 8, none⟩ = some (.slice x.o x.n x.k) ∧ w5.cell? (a.add (m * 9)) = some (.int .i64 y.a) ∧ w5.cell? ⟨(a.add (m * 9)).block, (a.add (m * 9)).off + 1, none⟩ = some (.int .i64 y.b) ∧ w5.cell? ⟨(a.add (m * 9)).block, (a.add (m * 9)).off + 2, none⟩ = some (.int .i64 y.c) ∧ w5.cell? ⟨(a.add (m * 9)).block, (a.add (m * 9)).off + 3, none⟩ = some (.int .i64 y.d) ∧ w5.cell? ⟨(a.add (m * 9)).block, (a.add (m * 9)).off + 4, none⟩ = some (.int .i64 y.la) ∧ w5.cell? ⟨(a.add (m * 9)).block, (a.add (m * 9)).off + 5, none⟩ = some (.int .i64 y.sd) ∧ w5.cell? ⟨(a.add (m * 9)).block, (a.add (m * 9)).off + 6, none⟩ = some (.string y.nm) ∧ w5.cell? ⟨(a.add (m * 9)).block, (a.add (m * 9)).off + 7, none⟩ = some (.string y.s) ∧ w5.cell? ⟨(a.add (m * 9)).block, (a.add (m * 9)).off + 8, none⟩ = some (.slice y.o y.n y.k) := ⟨(b5.cell (p := ⟨w.heap.size, 0, none⟩) HZ.out.1).trans cD, (b5.cell (p := a.add (j * 9)) (HZ.out.2 _)).trans c0, (b5.cell (p := ⟨(a.add (j * 9)).block, (a.add (j * 9)).off + 1, none⟩) (HZ.out.2 _)).trans c1, (b5.cell (p := ⟨(a.add (j * 9)).block, (a.add (j * 9)).off + 2, none⟩) (HZ.out.2 _)).trans c2, (b5.cell (p := ⟨(a.add (j * 9)).block, (a.add (j * 9)).off + 3, none⟩) (HZ.out.2 _)).trans c3, (b5.cell (p := ⟨(a.add (j * 9)).block, (a.add (j * 9)).off + 4, none⟩) (HZ.out.2 _)).trans c4, (b5.cell (p := ⟨(a.add (j * 9)).block, (a.add (j * 9)).off + 5, none⟩) (HZ.out.2 _)).trans c5, (b5.cell (p := ⟨(a.add (j * 9)).block, (a.add (j * 9)).off + 6, none⟩) (HZ.out.2 _)).trans c6, (b5.cell (p := ⟨(a.add (j * 9)).block, (a.add (j * 9)).off + 7, none⟩) (HZ.out.2 _)).trans c7, (b5.cell (p := ⟨(a.add (j * 9)).block, (a.add (j * 9)).off + 8, none⟩) (HZ.out.2 _)).trans c8, (b5.cell (p := a.add (m * 9)) (HZ.out.2 _)).trans k0, (b5.cell (p := ⟨(a.add (m * 9)).block, (a.add (m * 9)).off + 1, none⟩) (HZ.out.2 _)).trans k1, (b5.cell (p := ⟨(a.add (m * 9)).block, (a.add (m * 9)).off + 2, none⟩) (HZ.out.2 _)).trans k2, (b5.cell (p := ⟨(a.add (m * 9)).block, (a.add (m * 9)).off + 3, none⟩) (HZ.out.2 _)).trans k3, (b5.cell (p := ⟨(a.add (m * 9)).block, (a.add (m * 9)).off + 4, none⟩) (HZ.out.2 _)).trans k4, (b5.cell (p := ⟨(a.add (m * 9)).block, (a.add (m * 9)).off + 5, none⟩) (HZ.out.2 _)).trans k5, (b5.cell (p := ⟨(a.add (m * 9)).block, (a.add (m * 9)).off + 6, none⟩) (HZ.out.2 _)).trans k6, (b5.cell (p := ⟨(a.add (m * 9)).block, (a.add (m * 9)).off + 7, none⟩) (HZ.out.2 _)).trans k7, (b5.cell (p := ⟨(a.add (m * 9)).block, (a.add (m * 9)).off + 8, none⟩) (HZ.out.2 _)).trans k8⟩; have H5 := hideC b5; clear b5))
          clear c0 c1 c2 c3 c4 c5 c6 c7 c8 k0 k1 k2 k3 k4 k5 k6 k7 k8 k9 cD HF
          have b9 := bup HA.out.2.2.2.2.1 H5.out
          have H9 := hideC (And.intro b9 (bup HA.out.2.1 H5.out))
          clear b9
          by_cases h0 : 0 < g
          · have hr : R = some (m, 33) := by
              have h1 := HN.out.2
              have hm := HA.out.2.2.2.2.2
              rw [HA.out.1.1, disC_drop L j x y HA.out.2.2.1 (by rw [← hm]; exact HA.out.2.2.2.1), if_pos (by rw [HA.out.1.2]; exact h0), ← hm] at h1
              exact h1
            go_wp2_with fail
            go_ret
            subst hr
            refine ⟨_, rfl, ⟨w5.heap.size, rfl, H9.out.1.size, World.alloc_heap_new _ _⟩, H9.out.1.alloc H9.out.1.size _⟩
          · have d9 : ¬ (0 : Int) < g := h0
            go_wp2_with fail
            go_roundw
            case rel =>
              refine ⟨j + 1, m + 1, by rw [HA.out.2.2.2.2.2], by first | rfl | simp, .inr (by omega), ?_, H9.out.2⟩
              have hm := HA.out.2.2.2.2.2
              rw [HA.out.1.1, disC_drop L j x y HA.out.2.2.1 (by rw [← hm]; exact HA.out.2.2.2.1), if_neg (by rw [HA.out.1.2]; exact h0)]
            case measure => simp [intOf]; omega
        · have d2 : ¬ (m : Int) < (i : Int) := by omega
          have hr : R = none := by rw [HN.out.2, hdis]; exact disC_end L j (by rw [HN.out.1]; omega)
          have H9 := hideC bw
          clear bw hdis hb
          go_wp2_with fail
          go_ret
          subst hr
          exact ⟨_, rfl, rfl, H9.out⟩

end Go.Proofs.YthhhglfcacoejaaGreatDoor

/- errors.Is at an error of package cue; the texts of these errors. -/
namespace Go.Proofs.YthhhglfcacoejaaGreatDoor
open Go.RowKit Go.Shelf Go.Extern Go.Stop Go.Lib

theorem noIsW (v : Value) (xT : TypeId) (w : World) : (Instr.typeAssert (.iface 77 v) xT 160 true).run Tryz.prog w = .ok (.tuple #[.nilIface, .bool false]) w := run_typeAssert_lacksB Tryz.underlying160 (by kernel_rfl) (by kernel_rfl) v xT w
theorem hasUnwrapW (v : Value) (xT : TypeId) (w : World) : (Instr.typeAssert (.iface 77 v) xT 155 true).run Tryz.prog w = .ok (.tuple #[.iface 77 v, .bool true]) w := run_typeAssert_hasB Tryz.underlying155 (by kernel_rfl) v xT w

theorem methUnwrap (v : Value) (w : World) : (Go.method 355 77 v "Unwrap").run Tryz.prog w = .ok (170, v) w := by kernel_rfl
theorem methError (v : Value) (w : World) : (Go.method 355 77 v "Error").run Tryz.prog w = .ok (169, v) w := by kernel_rfl
theorem methComp (v : Value) (w : World) : (Go.method 355 148 v "Comparable").run Tryz.prog w = .ok (176, v) w := by kernel_rfl
theorem isTypeOf (v : Value) (w : World) : (Extern.ReflectliteType.typeOf #[.iface 53 v]).run Tryz.prog w = .ok (.iface 148 (.agg #[.pointer (some ⟨6, 53, none⟩)])) w := by kernel_rfl
theorem isComparable (w : World) : ((Extern.ReflectliteType.method fun t => do Extern.Rtype.noPackHeld "Comparable" t; pure (.bool (← typeInfo t).comparable)) #[.agg #[.pointer (some ⟨6, 53, none⟩)]]).run Tryz.prog w = .ok (.bool true) w := by kernel_rfl

set_option maxRecDepth 100000 in
theorem wunwrap_any (g : Nat) (i k : Int) (w : World) (h : w.heap[g]? = some (.cells #[.int .i64 i, .int .i64 k] 81)) :
    Calls Tryz.prog 170 #[.pointer (some ⟨g, 0, none⟩)] w fun e w' => e = .returned (.iface 53 (.int .i64 k)) ∧ w' = w := by
  have c1 : w.cell? ⟨g, 1, none⟩ = some (.int .i64 k) := by simp [World.cell?, h]
  go_enter Tryz.func170, Tryz.ntmps170
  go_wp2
  go_ret
  exact ⟨rfl, rfl⟩

set_option maxRecDepth 100000 in
set_option maxHeartbeats 400000 in
theorem is_wrong (g : Nat) (i k : Int) (w : World) (h : w.heap[g]? = some (.cells #[.int .i64 i, .int .i64 k] 81)) :
    Calls Tryz.prog 51 #[.iface 77 (.pointer (some ⟨g, 0, none⟩)), .iface 53 (.int .i64 k), .bool true] w fun e w' => e = .returned (.bool true) ∧ w' = w := by
  have c1 : w.cell? ⟨g, 1, none⟩ = some (.int .i64 k) := by simp [World.cell?, h]
  have nW := noIsW
  have uW := hasUnwrapW
  have mU := methUnwrap
  have heq : (binOp .eql 34 (.iface 53 (.int .i64 k)) (.iface 53 (.int .i64 k))).run Tryz.prog w = .ok (.bool true) w := by rw [run_eql_iface_int w k k Tryz.underlying34 (by kernel_rfl) Tryz.underlying53, beq_self_eq_true]
  have hty := run_eql_iface_types (P := Tryz.prog) 77 53 (.pointer (some ⟨g, 0, none⟩)) (.int .i64 k) Tryz.underlying34 (by decide) w
  go_enter Tryz.func51, Tryz.ntmps51
  go_wp2
  refine wp_loop_rounds 2 ?_
  rw [rounds_succ]
  go_wp2_with fail
  refine (wunwrap_any g i k w h).mono ?_
  rintro e w1 ⟨rfl, rfl⟩
  go_wp2
  rw [rounds_succ]
  go_wp2
  go_ret
  exact ⟨rfl, rfl⟩

set_option maxRecDepth 100000 in
set_option maxHeartbeats 400000 in
theorem is_wrongE (g : Nat) (i k : Int) (w : World) (h : w.heap[g]? = some (.cells #[.int .i64 i, .int .i64 k] 81)) :
    Calls Tryz.prog 26 #[.iface 77 (.pointer (some ⟨g, 0, none⟩)), .iface 53 (.int .i64 k)] w fun e w' => e = .returned (.bool true) ∧ w' = w := by
  have H := hideC (is_wrong g i k w h)
  have h8 := @run_callFunc_extern Tryz.prog 50 _ Extern.ReflectliteType.typeOf Tryz.func50 (by kernel_rfl) (by kernel_rfl) (by kernel_rfl) (by kernel_rfl)
  have h32 := @run_callFunc_extern Tryz.prog 176 _ (Extern.ReflectliteType.method fun t => do Extern.Rtype.noPackHeld "Comparable" t; pure (.bool (← typeInfo t).comparable)) Tryz.func176 (by kernel_rfl) (by kernel_rfl) (by kernel_rfl) (by kernel_rfl)
  have cQ : ∀ w, Sem.run Tryz.prog (callFunc 176 #[.agg #[.pointer (some ⟨6, 53, none⟩)]]) w = .ok (.value (.bool true)) w := fun w => by rw [h32, isComparable]; rfl
  clear h32
  have tT := isTypeOf
  have mR := methComp
  clear h
  go_enter Tryz.func26, Tryz.ntmps26
  go_wp2_with (go_at_call 51; refine H.out.mono ?_; rintro e w1 ⟨rfl, rfl⟩)
  go_ret
  exact ⟨rfl, rfl⟩

end Go.Proofs.YthhhglfcacoejaaGreatDoor

/- errors.As at an error of package cue and a variable of its type; law9's wrongly. -/
namespace Go.Proofs.YthhhglfcacoejaaGreatDoor
open Go.RowKit Go.Shelf Go.Extern Go.Stop Go.Lib

def hdl (t : Nat) : Value := .pointer (some ⟨6, t, none⟩)
def rty (t : Nat) : Value := .iface 148 (.agg #[.pointer (some ⟨6, t, none⟩)])
theorem valP (p : Option Addr) (w : World) : (Extern.ReflectliteValue.unpack (.iface 79 (.pointer p))).run Tryz.prog w = .ok (.agg #[.pointer (some ⟨6, 79, none⟩), .pointer (some ⟨w.heap.size, 0, none⟩), .int .u64 150]) (w.alloc (.cells #[.pointer p] 79)) := by kernel_rfl
theorem valE (p : Option Addr) (w : World) : (Extern.ReflectliteValue.unpack (.iface 77 (.pointer p))).run Tryz.prog w = .ok (.agg #[.pointer (some ⟨6, 77, none⟩), .pointer (some ⟨w.heap.size, 0, none⟩), .int .u64 150]) (w.alloc (.cells #[.pointer p] 77)) := by kernel_rfl
theorem typP (a : Addr) (w : World) : ((Extern.ReflectliteValue.methodAny (Extern.ReflectliteValue.valueError "reflectlite.Value.Type" 0) fun t _ _ _ => Extern.ReflectliteType.toType t) #[.agg #[.pointer (some ⟨6, 79, none⟩), .pointer (some a), .int .u64 150]]).run Tryz.prog w = .ok (rty 79) w := by kernel_rfl
theorem mKind (t : Nat) (w : World) : (Go.method 355 148 (.agg #[.pointer (some ⟨6, t, none⟩)]) "Kind").run Tryz.prog w = .ok (164, .pointer (some ⟨6, t, none⟩)) w := by kernel_rfl
theorem mElem (v : Value) (w : World) : (Go.method 355 148 v "Elem").run Tryz.prog w = .ok (177, v) w := by kernel_rfl
theorem mImpl (v : Value) (w : World) : (Go.method 355 148 v "Implements").run Tryz.prog w = .ok (178, v) w := by kernel_rfl
theorem mAssg (v : Value) (w : World) : (Go.method 355 148 v "AssignableTo").run Tryz.prog w = .ok (175, v) w := by kernel_rfl

theorem kindP (w : World) : ((Extern.ReflectliteType.abiMethod fun t => do pure (.int .u8 (← Extern.Rtype.kind t))) #[.pointer (some ⟨6, 79, none⟩)]).run Tryz.prog w = .ok (.int .u8 22) w := by kernel_rfl
theorem kindE (w : World) : ((Extern.ReflectliteType.abiMethod fun t => do pure (.int .u8 (← Extern.Rtype.kind t))) #[.pointer (some ⟨6, 77, none⟩)]).run Tryz.prog w = .ok (.int .u8 22) w := by kernel_rfl
theorem elemP (w : World) : ((Extern.ReflectliteType.method Extern.ReflectliteType.elem) #[.agg #[.pointer (some ⟨6, 79, none⟩)]]).run Tryz.prog w = .ok (rty 77) w := by kernel_rfl
theorem implE (w : World) : (Extern.ReflectliteType.relation "Implements" Extern.ReflectliteType.implements_ #[.agg #[.pointer (some ⟨6, 77, none⟩)], rty 34]).run Tryz.prog w = .ok (.bool true) w := by kernel_rfl
theorem assgE (w : World) : (Extern.ReflectliteType.relation "AssignableTo" Extern.ReflectliteType.assignableTo #[.agg #[.pointer (some ⟨6, 77, none⟩)], rty 77]).run Tryz.prog w = .ok (.bool true) w := by kernel_rfl
theorem typeE (v : Value) (w : World) : (Extern.ReflectliteType.typeOf #[.iface 77 v]).run Tryz.prog w = .ok (rty 77) w := by kernel_rfl
theorem m_one (h1 : Value → Sem Value) (h2 : Array Value → Sem Value) (v : Value) : Extern.ReflectliteValue.method.match_2 (motive := fun _ => Sem Value) #[v] h1 h2 = h1 v := rfl
theorem m_two (h1 : Value → Value → Sem Value) (h2 : Array Value → Sem Value) (v x : Value) : Extern.ReflectliteValue.set.match_3 (motive := fun _ => Sem Value) #[v, x] h1 h2 = h1 v x := rfl
theorem nilP (a p : Addr) (w : World) (h : w.cell? a = some (.pointer (some p))) : ((Extern.ReflectliteValue.method (Extern.ReflectliteValue.valueError "reflectlite.Value.IsNil" 0) Extern.ReflectliteValue.isNil) #[(.agg #[.pointer (some ⟨6, 79, none⟩), .pointer (some a), .int .u64 150])]).run Tryz.prog w = .ok (.bool false) w := by
  have h1 : (Extern.ReflectliteValue.parts (.agg #[.pointer (some ⟨6, 79, none⟩), .pointer (some a), .int .u64 150])).run Tryz.prog w = .ok (some (79, a, 150)) w := by kernel_rfl
  have h2 : (isAgg 79).run Tryz.prog w = .ok false w := by kernel_rfl
  unfold Extern.ReflectliteValue.method Extern.ReflectliteValue.isNil loadVar
  rw [m_one]
  simp [Sem.run_bind, h1, h2, h]
theorem elemV (a p : Addr) (w : World) (h : w.cell? a = some (.pointer (some p))) : ((Extern.ReflectliteValue.method (Extern.ReflectliteValue.valueError "reflectlite.Value.Elem" 0) Extern.ReflectliteValue.elem) #[(.agg #[.pointer (some ⟨6, 79, none⟩), .pointer (some a), .int .u64 150])]).run Tryz.prog w = .ok (.agg #[.pointer (some ⟨6, 77, none⟩), .pointer (some p), .int .u64 406]) w := by
  have h1 : (Extern.ReflectliteValue.parts (.agg #[.pointer (some ⟨6, 79, none⟩), .pointer (some a), .int .u64 150])).run Tryz.prog w = .ok (some (79, a, 150)) w := by kernel_rfl
  have h2 : (isAgg 79).run Tryz.prog w = .ok false w := by kernel_rfl
  have h3 : (Extern.Rtype.elem? 79).run Tryz.prog w = .ok (some 77) w := by kernel_rfl
  have h4 : (Extern.ReflectliteValue.mk 77 p Extern.ReflectliteValue.flagAddr).run Tryz.prog w = .ok (.agg #[.pointer (some ⟨6, 77, none⟩), .pointer (some p), .int .u64 406]) w := by kernel_rfl
  unfold Extern.ReflectliteValue.method Extern.ReflectliteValue.elem loadVar
  rw [m_one]
  simp [Sem.run_bind, h1, h2, h, h3, h4]
theorem setV (p b : Addr) (g : Nat) (u : Value) (w : World) (hb : w.cell? b = some (.pointer (some ⟨g, 0, none⟩))) (hp : w.cell? p = some u) (hf : w.frozen? p = false) : (Extern.ReflectliteValue.set #[(.agg #[.pointer (some ⟨6, 77, none⟩), .pointer (some p), .int .u64 406]), (.agg #[.pointer (some ⟨6, 77, none⟩), .pointer (some b), .int .u64 150])]).run Tryz.prog w = .ok (.tuple #[]) (w.setCell p (.pointer (some ⟨g, 0, none⟩))) := by
  have h1 : (Extern.ReflectliteValue.parts (.agg #[.pointer (some ⟨6, 77, none⟩), .pointer (some p), .int .u64 406])).run Tryz.prog w = .ok (some (77, p, 406)) w := by kernel_rfl
  have h2 : (Extern.ReflectliteValue.parts (.agg #[.pointer (some ⟨6, 77, none⟩), .pointer (some b), .int .u64 150])).run Tryz.prog w = .ok (some (77, b, 150)) w := by kernel_rfl
  have h3 : (isAgg 77).run Tryz.prog w = .ok false w := by kernel_rfl
  have h4 : (Extern.Rtype.directlyAssignable 77 77).run Tryz.prog w = .ok true w := by kernel_rfl
  have h5 : (sizeOf 77).run Tryz.prog w = .ok 1 w := by kernel_rfl
  unfold Extern.ReflectliteValue.set loadVar storeVar
  rw [m_two]
  simp only [Sem.run_bind, h1, h2, Result.andThen]
  simp [Sem.run_bind, h3, h4, h5, hb, storeCells, Extern.ReflectliteValue.flagAddr, Value.cells, Addr.add, Result.andThen]
  rw [run_store Tryz.prog w p _ _ (by rfl)]
  simp [hp, hf]

set_option maxRecDepth 100000 in
set_option maxHeartbeats 4000000 in
theorem as_lo (a p : Addr) (g : Nat) (tg : Value) (u : Value) (w : World) (ha : w.cell? a = some (.pointer (some p))) (hp : w.cell? p = some u) (hf : w.frozen? p = false) :
    Calls Tryz.prog 49 #[.iface 77 (.pointer (some ⟨g, 0, none⟩)), tg, (.agg #[.pointer (some ⟨6, 79, none⟩), .pointer (some a), .int .u64 150]), rty 77] w fun e w' => e = .returned (.bool true) ∧ ∃ V, Below w.heap.size w V ∧ w' = V.setCell p (.pointer (some ⟨g, 0, none⟩)) := by
  have h28 := @run_callFunc_extern Tryz.prog 50 _ (Extern.ReflectliteType.typeOf) Tryz.func50 (by kernel_rfl) (by kernel_rfl) (by kernel_rfl) (by kernel_rfl)
  have h45 := @run_callFunc_extern Tryz.prog 175 _ (Extern.ReflectliteType.relation "AssignableTo" Extern.ReflectliteType.assignableTo) Tryz.func175 (by kernel_rfl) (by kernel_rfl) (by kernel_rfl) (by kernel_rfl)
  have h69 := @run_callFunc_extern Tryz.prog 80 _ (Extern.ReflectliteValue.method (Extern.ReflectliteValue.valueError "reflectlite.Value.Elem" 0) Extern.ReflectliteValue.elem) Tryz.func80 (by kernel_rfl) (by kernel_rfl) (by kernel_rfl) (by kernel_rfl)
  have h44 := @run_callFunc_extern Tryz.prog 46 _ (fun args => Extern.ReflectliteValue.unpack (args.getD 0 (.tuple #[]))) Tryz.func46 (by kernel_rfl) (by kernel_rfl) (by kernel_rfl) (by kernel_rfl)
  have h70 := @run_callFunc_extern Tryz.prog 81 _ (Extern.ReflectliteValue.set) Tryz.func81 (by kernel_rfl) (by kernel_rfl) (by kernel_rfl) (by kernel_rfl)
  have q28 : ∀ W, (callFunc 50 #[.iface 77 (.pointer (some ⟨g, 0, none⟩))]).run Tryz.prog W = .ok (.value (rty 77)) W := fun W => by rw [h28, typeE]; rfl
  have q45 : ∀ W, (callFunc 175 #[.agg #[.pointer (some ⟨6, 77, none⟩)], rty 77]).run Tryz.prog W = .ok (.value (.bool true)) W := fun W => by rw [h45, assgE]; rfl
  have mA := mAssg
  have hal : a.block < w.heap.size := by
    rcases Nat.lt_or_ge a.block w.heap.size with h | h
    · exact h
    · simp [World.cell?, Array.getElem?_eq_none h] at ha
  have hpl : p.block < w.heap.size := by
    rcases Nat.lt_or_ge p.block w.heap.size with h | h
    · exact h
    · simp [World.cell?, Array.getElem?_eq_none h] at hp
  have b1 := bel1 w (.cells #[.pointer (some ⟨6, 79, none⟩), .pointer (some a), .int .u64 150] 104)
  have q69 : (callFunc 80 #[(.agg #[.pointer (some ⟨6, 79, none⟩), .pointer (some a), .int .u64 150])]).run Tryz.prog (w.alloc (.cells #[.pointer (some ⟨6, 79, none⟩), .pointer (some a), .int .u64 150] 104)) = .ok (.value (.agg #[.pointer (some ⟨6, 77, none⟩), .pointer (some p), .int .u64 406])) (w.alloc (.cells #[.pointer (some ⟨6, 79, none⟩), .pointer (some a), .int .u64 150] 104)) := by rw [h69, elemV a p _ ((b1.cell (p := a) hal).trans ha)]; rfl
  have q44 : ∀ W, (callFunc 46 #[.iface 77 (.pointer (some ⟨g, 0, none⟩))]).run Tryz.prog W = .ok (.value (.agg #[.pointer (some ⟨6, 77, none⟩), .pointer (some ⟨W.heap.size, 0, none⟩), .int .u64 150])) (W.alloc (.cells #[.pointer (some ⟨g, 0, none⟩)] 77)) := fun W => by rw [h44]; exact congrArg (fun r => Result.andThen r _) (valE (some ⟨g, 0, none⟩) W)
  have b2 := bel1 (w.alloc (.cells #[.pointer (some ⟨6, 79, none⟩), .pointer (some a), .int .u64 150] 104)) (.cells #[.pointer (some ⟨g, 0, none⟩)] 77)
  have q70 : (callFunc 81 #[.agg #[.pointer (some ⟨6, 77, none⟩), .pointer (some p), .int .u64 406], .agg #[.pointer (some ⟨6, 77, none⟩), .pointer (some ⟨w.heap.size + 1, 0, none⟩), .int .u64 150]]).run Tryz.prog ((w.alloc (.cells #[.pointer (some ⟨6, 79, none⟩), .pointer (some a), .int .u64 150] 104)).alloc (.cells #[.pointer (some ⟨g, 0, none⟩)] 77)) = .ok (.value (.tuple #[])) (((w.alloc (.cells #[.pointer (some ⟨6, 79, none⟩), .pointer (some a), .int .u64 150] 104)).alloc (.cells #[.pointer (some ⟨g, 0, none⟩)] 77)).setCell p (.pointer (some ⟨g, 0, none⟩))) := by
    rw [h70, setV p ⟨w.heap.size + 1, 0, none⟩ g u _ (by have h := World.alloc_heap_new (w.alloc (.cells #[.pointer (some ⟨6, 79, none⟩), .pointer (some a), .int .u64 150] 104)) (.cells #[.pointer (some ⟨g, 0, none⟩)] 77); rw [World.size_alloc] at h; unfold World.cell?; rw [h]; rfl) (((bup b1 b2).cell (p := p) hpl).trans hp) (((bup b1 b2).frozen (p := p) hpl).trans hf)]
    rfl
  clear h28 h45 h69 h44 h70
  unfold rty at *
  go_enter Tryz.func49, Tryz.ntmps49
  go_wp2
  refine wp_loop_rounds 1 ?_
  rw [rounds_succ]
  go_wp2
  go_ret
  exact ⟨rfl, _, bup b1 b2, rfl⟩

end Go.Proofs.YthhhglfcacoejaaGreatDoor

/- The reference's IsName, Check, Compare, CheckDoc (chapter 9), at every cue, every document. -/
namespace Go.Proofs.YthhhglfcacoejaaGreatDoor
open Go.RowKit Go.Shelf

/-- Is every byte at least a blank? -/
def noCtl (s : ByteArray) : Bool := s.data.toList.all fun b => decide (32 ≤ b.toNat)
/-- W7. -/
def nameB (s : ByteArray) : Bool := decide (s.size ≤ 64) && noCtl s

set_option maxRecDepth 100000 in
set_option maxHeartbeats 400000 in
theorem risname_any (s : ByteArray) (w : World) : Calls Tryz.prog 67 #[.string s] w fun e w' => e = .returned (.bool (nameB s)) ∧ w' = w := by
  obtain ⟨R, hR⟩ : ∃ R, nameB s = R := ⟨_, rfl⟩
  rw [hR]
  have HR := hideC hR
  clear hR
  go_enter Tryz.func67, Tryz.ntmps67
  by_cases hb : 64 < s.size
  · have d1 : (64 : Int) < (s.size : Int) := by omega
    have hr : R = false := by have := HR.out; unfold nameB at this; rw [decide_eq_false (by omega)] at this; simpa using this.symm
    go_wp2_with fail
    go_ret
    exact ⟨by rw [hr]; rfl, rfl⟩
  have d1 : ¬ (64 : Int) < (s.size : Int) := by omega
  have hr : R = noCtl s := by have := HR.out; unfold nameB at this; rw [decide_eq_true (by omega)] at this; simpa using this.symm
  replace HR := hideC hr
  clear hr
  go_wp2_with fail
  go_loopw [3] (fun iv wq => ∃ i : Nat, iv = .int .i64 (i : Nat) ∧ i ≤ s.size ∧ (s.data.toList.take i).all (fun b => decide (32 ≤ b.toNat)) = true ∧ wq = w) (fun iv _ => s.size - (intOf iv).toNat)
  case atStart => exact ⟨0, rfl, Nat.zero_le _, rfl, rfl⟩
  case round =>
    obtain ⟨i, rfl, hi, hall, rfl⟩ := hrel
    by_cases hlt : i < s.size
    · have d2 : (i : Int) < (s.size : Int) := by omega
      have wi : IntKind.i64.wrap ((i : Int) + 1) = ((i + 1 : Nat) : Int) := by rw [show ((i + 1 : Nat) : Int) = (i : Int) + 1 by omega]; exact IntWalk.i64_in _ ⟨by omega, by omega⟩
      have hti : s.data.toList.take (i + 1) = s.data.toList.take i ++ [s[i]] := by
        rw [List.take_add_one, List.getElem?_eq_getElem (by simpa using hlt)]
        rfl
      have HA := hideC (And.intro hall hti)
      clear hall hti
      by_cases hc : (s[i].toNat : Int) < 32
      · have hr : R = false := by
          rw [HR.out]
          unfold noCtl
          rw [← Bool.not_eq_true, List.all_eq_true]
          intro h
          have := h s[i] (by have h2 : s[i] ∈ s.data.toList.take (i + 1) := (by rw [HA.out.2]; simp); exact List.mem_of_mem_take h2)
          simp at this
          omega
        go_wp2_with fail
        go_ret
        exact ⟨by rw [hr]; rfl, rfl⟩
      · go_wp2_with fail
        refine ⟨⟨i + 1, by first | rfl | simp, by omega, ?_, by first | rfl | trivial⟩, by simp [intOf]; omega⟩
        rw [HA.out.2, List.all_append, HA.out.1]
        simp
        omega
    · have d2 : ¬ (i : Int) < (s.size : Int) := by omega
      have hr : R = true := by
        rw [HR.out]
        unfold noCtl
        rw [List.take_of_length_le (by simp; show s.data.size ≤ i; have : s.size = s.data.size := rfl; omega)] at hall
        exact hall
      clear hall
      go_wp2_with fail
      go_ret
      exact ⟨by first | (rw [hr]; rfl) | rfl, rfl⟩

set_option maxRecDepth 100000 in
set_option maxHeartbeats 1000000 in
theorem rcuecheck_walk (a b c d la sd : Int) (nm s : ByteArray) (v : Value) (e1 e2 cc et : Int) (w : World)
    (H1 : ∀ W, Calls Tryz.prog 40 #[.agg #[.int .i64 a, .int .i64 b]] W fun e w' => e = .returned (.int .i64 e1) ∧ Below W.heap.size W w')
    (H2 : ∀ W, Calls Tryz.prog 40 #[.agg #[.int .i64 c, .int .i64 d]] W fun e w' => e = .returned (.int .i64 e2) ∧ Below W.heap.size W w')
    (H3 : ∀ W, Calls Tryz.prog 44 #[.agg #[.int .i64 a, .int .i64 b], .agg #[.int .i64 c, .int .i64 d]] W fun e w' => e = .returned (.int .i64 cc) ∧ Below W.heap.size W w')
    (H5 : ∀ W, Below w.heap.size w W → Calls Tryz.prog 41 #[.agg #[.string s, v]] W fun e w' => e = .returned (.int .i64 et) ∧ Below W.heap.size W w') :
    Calls Tryz.prog 37 #[.agg #[.int .i64 a, .int .i64 b, .int .i64 c, .int .i64 d, .int .i64 la, .int .i64 sd, .string nm, .string s, v]] w fun e w' => e = .returned (.int .i64 (chkC (if e1 = 0 then e2 else e1) cc la sd (if nameB nm = true then et else 25))) ∧ Below w.heap.size w w' := by
  obtain ⟨R, hR⟩ : ∃ R, chkC (if e1 = 0 then e2 else e1) cc la sd (if nameB nm = true then et else 25) = R := ⟨_, rfl⟩
  rw [hR]
  have HR := hideC hR
  have H4 := hideC (fun W => risname_any nm W)
  obtain ⟨nb, hnb⟩ : ∃ nb, nameB nm = nb := ⟨_, rfl⟩
  rw [hnb] at H4 HR
  clear hR hnb
  replace H1 := hideC H1
  replace H2 := hideC H2
  replace H3 := hideC H3
  replace H5 := hideC H5
  go_enter Tryz.func37, Tryz.ntmps37
  go_wp2_with fail
  have Q0 : CueC (w.alloc (.cells #[.int .i64 a, .int .i64 b, .int .i64 c, .int .i64 d, .int .i64 la, .int .i64 sd, .string nm, .string s, v] 59)) w.heap.size a b c d la sd nm s v := World.alloc_heap_new w _
  have B0 : Below w.heap.size w (w.alloc (.cells #[.int .i64 a, .int .i64 b, .int .i64 c, .int .i64 d, .int .i64 la, .int .i64 sd, .string nm, .string s, v] 59)) := bel1 _ _
  generalize w.alloc (.cells #[.int .i64 a, .int .i64 b, .int .i64 c, .int .i64 d, .int .i64 la, .int .i64 sd, .string nm, .string s, v] 59) = V at *
  refine (H1.out _).mono ?_
  rintro e w1 ⟨rfl, b1⟩
  have Q1 := hideC (Q0.keep b1)
  have B1 := hideC (bup B0 b1)
  clear Q0 B0 b1 H1
  by_cases g1 : e1 = 0
  case neg =>
    have hr : R = e1 := by have := HR.out; unfold chkC at this; simp [g1] at this; exact this.symm
    go_wp2_with fail
    go_ret
    exact ⟨(by rw [hr]; first | done | rfl), B1.out⟩
  subst g1
  obtain ⟨⟨c0, c1, c2, c3⟩, ⟨c4, c5⟩, ⟨c6, c7, c8⟩⟩ := Q1.out.cells
  go_wp2_with fail
  refine (H2.out _).mono ?_
  rintro e w2 ⟨rfl, b2⟩
  have Q2 := hideC (Q1.out.keep b2)
  have B2 := hideC (bup B1.out b2)
  clear Q1 B1 b2 H2 c0 c1 c2 c3 c4 c5 c6 c7 c8
  by_cases g2 : e2 = 0
  case neg =>
    have hr : R = e2 := by have := HR.out; unfold chkC at this; simp [g2] at this; exact this.symm
    go_wp2_with fail
    go_ret
    exact ⟨(by rw [hr]; first | done | rfl), B2.out⟩
  subst g2
  obtain ⟨⟨c0, c1, c2, c3⟩, ⟨c4, c5⟩, ⟨c6, c7, c8⟩⟩ := Q2.out.cells
  go_wp2_with fail
  refine (H3.out _).mono ?_
  rintro e w3 ⟨rfl, b3⟩
  have Q3 := hideC (Q2.out.keep b3)
  have B3 := hideC (bup B2.out b3)
  clear Q2 B2 b3 H3 c0 c1 c2 c3 c4 c5 c6 c7 c8
  obtain ⟨⟨c0, c1, c2, c3⟩, ⟨c4, c5⟩, ⟨c6, c7, c8⟩⟩ := Q3.out.cells
  by_cases g3 : 0 ≤ cc
  case pos =>
    have hr : R = 32 := by have := HR.out; unfold chkC at this; simp [g3] at this; exact this.symm
    go_wp2_with fail
    go_ret
    exact ⟨(by rw [hr]; first | done | rfl), B3.out⟩
  by_cases g4 : la < 0 ∨ 8 ≤ la ∨ (¬ sd = 0 ∧ ¬ sd = 1)
  · have hr : R = 34 := by have := HR.out; unfold chkC at this; simp only [if_true, not_true_eq_false, if_false] at this; rw [if_neg g3, if_pos g4] at this; exact this.symm
    by_cases k1 : la < 0
    · go_wp2_with fail
      go_ret
      exact ⟨(by rw [hr]; first | done | rfl), B3.out⟩
    by_cases k2 : 8 ≤ la
    · go_wp2_with fail
      go_ret
      exact ⟨(by rw [hr]; first | done | rfl), B3.out⟩
    have k3 : ¬ sd = 0 := by omega
    have k4 : ¬ sd = 1 := by omega
    have k5 : (sd != 0) = true := by simpa using k3
    have k6 : (sd != 1) = true := by simpa using k4
    go_wp2_with fail
    go_ret
    exact ⟨(by rw [hr]; first | done | rfl), B3.out⟩
  have hr : R = if nb = true then et else 25 := by have := HR.out; unfold chkC at this; simp only [if_true, not_true_eq_false, if_false] at this; rw [if_neg g3, if_neg g4] at this; exact this.symm
  have k1 : ¬ la < 0 := by omega
  have k2 : ¬ 8 ≤ la := by omega
  by_cases k3 : sd = 0
  · subst k3
    go_wp2_with fail
    refine (H4.out _).mono ?_
    rintro e w4 ⟨rfl, rfl⟩
    cases nb with
    | false =>
      go_wp2_with fail
      go_ret
      exact ⟨(by rw [hr]; first | done | rfl), B3.out⟩
    | true =>
      go_wp2_with fail
      refine (H5.out _ B3.out).mono ?_
      rintro e w5 ⟨rfl, b5⟩
      go_wp2_with fail
      go_ret
      exact ⟨(by rw [hr]; first | done | rfl), bup B3.out b5⟩
  · have k4 : sd = 1 := by omega
    subst k4
    go_wp2_with fail
    refine (H4.out _).mono ?_
    rintro e w4 ⟨rfl, rfl⟩
    cases nb with
    | false =>
      go_wp2_with fail
      go_ret
      exact ⟨(by rw [hr]; first | done | rfl), B3.out⟩
    | true =>
      go_wp2_with fail
      refine (H5.out _ B3.out).mono ?_
      rintro e w5 ⟨rfl, b5⟩
      go_wp2_with fail
      go_ret
      exact ⟨(by rw [hr]; first | done | rfl), bup B3.out b5⟩

set_option maxRecDepth 100000 in
set_option maxHeartbeats 400000 in
theorem rcompare_walk (x y : Cu) (p q r : Int) (hr : (if p = 0 then q else p) = r) (w : World)
    (H1 : ∀ W, Calls Tryz.prog 44 #[.agg #[.int .i64 x.a, .int .i64 x.b], .agg #[.int .i64 y.a, .int .i64 y.b]] W fun e w' => e = .returned (.int .i64 p) ∧ Below W.heap.size W w')
    (H2 : ∀ W, Calls Tryz.prog 44 #[.agg #[.int .i64 x.c, .int .i64 x.d], .agg #[.int .i64 y.c, .int .i64 y.d]] W fun e w' => e = .returned (.int .i64 q) ∧ Below W.heap.size W w') :
    Calls Tryz.prog 38 #[.agg x.cells, .agg y.cells] w fun e w' => e = .returned (.int .i64 r) ∧ Below w.heap.size w w' := by
  have HR := hideC hr
  clear hr
  replace H1 := hideC H1
  replace H2 := hideC H2
  unfold Cu.cells
  cases x with | mk a b c d la sd nm s o n k => ?_
  cases y with | mk a2 b2 c2 d2 la2 sd2 nm2 s2 o2 n2 k2' => ?_
  simp only at *
  go_enter Tryz.func38, Tryz.ntmps38
  go_wp2_with fail
  have QX : CueC (w.alloc (.cells #[.int .i64 a, .int .i64 b, .int .i64 c, .int .i64 d, .int .i64 la, .int .i64 sd, .string nm, .string s, .slice o n k] 59)) w.heap.size a b c d la sd nm s (.slice o n k) := World.alloc_heap_new w _
  have QY : CueC ((w.alloc (.cells #[.int .i64 a, .int .i64 b, .int .i64 c, .int .i64 d, .int .i64 la, .int .i64 sd, .string nm, .string s, .slice o n k] 59)).alloc (.cells #[.int .i64 a2, .int .i64 b2, .int .i64 c2, .int .i64 d2, .int .i64 la2, .int .i64 sd2, .string nm2, .string s2, .slice o2 n2 k2'] 59)) (w.heap.size + 1) a2 b2 c2 d2 la2 sd2 nm2 s2 (.slice o2 n2 k2') := by
    have h := World.alloc_heap_new (w.alloc (.cells #[.int .i64 a, .int .i64 b, .int .i64 c, .int .i64 d, .int .i64 la, .int .i64 sd, .string nm, .string s, .slice o n k] 59)) (.cells #[.int .i64 a2, .int .i64 b2, .int .i64 c2, .int .i64 d2, .int .i64 la2, .int .i64 sd2, .string nm2, .string s2, .slice o2 n2 k2'] 59)
    rw [World.size_alloc] at h
    exact h
  replace QX := QX.keep (bel1 _ (.cells #[.int .i64 a2, .int .i64 b2, .int .i64 c2, .int .i64 d2, .int .i64 la2, .int .i64 sd2, .string nm2, .string s2, .slice o2 n2 k2'] 59))
  have B0 : Below w.heap.size w ((w.alloc (.cells #[.int .i64 a, .int .i64 b, .int .i64 c, .int .i64 d, .int .i64 la, .int .i64 sd, .string nm, .string s, .slice o n k] 59)).alloc (.cells #[.int .i64 a2, .int .i64 b2, .int .i64 c2, .int .i64 d2, .int .i64 la2, .int .i64 sd2, .string nm2, .string s2, .slice o2 n2 k2'] 59)) := ((Below.refl _ w).alloc (Nat.le_refl _) _).alloc (by simp) _
  generalize (w.alloc (.cells #[.int .i64 a, .int .i64 b, .int .i64 c, .int .i64 d, .int .i64 la, .int .i64 sd, .string nm, .string s, .slice o n k] 59)).alloc (.cells #[.int .i64 a2, .int .i64 b2, .int .i64 c2, .int .i64 d2, .int .i64 la2, .int .i64 sd2, .string nm2, .string s2, .slice o2 n2 k2'] 59) = V at *
  refine (H1.out _).mono ?_
  rintro e w1 ⟨rfl, b1⟩
  have B1 := hideC (bup B0 b1)
  have ⟨⟨c0, c1, c2', c3⟩, _⟩ := (QX.keep b1).cells
  have ⟨⟨d0, d1, d2', d3⟩, _⟩ := (QY.keep b1).cells
  by_cases g : p = 0
  · subst g
    have hr : r = q := by have := HR.out; rw [if_pos rfl] at this; exact this.symm
    go_wp2_with fail
    refine (H2.out _).mono ?_
    rintro e w2 ⟨rfl, b2⟩
    go_wp2_with fail
    go_ret
    exact ⟨(by rw [hr]; first | done | rfl), bup B1.out b2⟩
  · have hr : r = p := by have := HR.out; rw [if_neg g] at this; exact this.symm
    go_wp2_with fail
    go_ret
    exact ⟨(by rw [hr]; first | done | rfl), B1.out⟩

def docP : Option (Nat × Int) → Int × Int
  | none => (0, 0)
  | some (i, k) => ((i : Int), k)
/-- What lies at the head of the reference's CheckDoc. -/
def RkV (w : World) (oa : Option Addr) (n cap : Nat) (V : World) : Prop := Below w.heap.size w V ∧ V.heap.size = w.heap.size + 1 + 1 ∧ V.cell? ⟨w.heap.size, 0, none⟩ = some (.slice oa n cap) ∧ Two V (w.heap.size + 1) (.int .i64 0) (.int .i64 0)

set_option maxRecDepth 100000 in
set_option maxHeartbeats 2000000 in
theorem rcheckdoc_walk (f : Cu → Int) (L : List Cu) (oa : Option Addr) (cap : Nat) (hc : L.length ≤ cap ∧ cap ≤ maxLen) (w : World) (hR : CuO w oa L)
    (HK : ∀ x ∈ L, ∀ W, Below w.heap.size w W → Calls Tryz.prog 37 #[.agg x.cells] W fun e w' => e = .returned (.int .i64 (f x)) ∧ Below W.heap.size W w')
    (HC : (∀ x ∈ L, f x = 0) → ∀ x ∈ L, ∀ y ∈ L, ∀ W, Calls Tryz.prog 38 #[.agg x.cells, .agg y.cells] W fun e w' => e = .returned (.int .i64 (cmpC x y)) ∧ Below W.heap.size W w') :
    Calls Tryz.prog 21 #[.agg #[.slice oa L.length cap]] w fun e w' => e = .returned (.agg #[.int .i64 (docP (docC f L)).1, .int .i64 (docP (docC f L)).2]) ∧ Below w.heap.size w w' := by
  obtain ⟨N, hN⟩ : ∃ N, L.length = N := ⟨_, rfl⟩
  obtain ⟨R, hRR⟩ : ∃ R, docC f L = R := ⟨_, rfl⟩
  have HN := hideC (And.intro hN hRR)
  rw [hN] at hc
  rw [hN, hRR]
  have hcm : cap ≤ 9223372036854775807 := hc.2
  have HR := hideC hR
  replace HK := hideC HK
  replace HC := hideC HC
  clear hR hN hRR
  go_enter Tryz.func21, Tryz.ntmps21
  by_cases hbig : 4096 < N
  · have d1 : (4096 : Int) < (N : Int) := by omega
    have hr : R = some (0, 2) := by have := HN.out.2; unfold docC at this; rw [HN.out.1, if_pos hbig] at this; exact this.symm
    go_wp2_with fail
    subst hr
    exact bodyPost_ret (v := .agg #[.int .i64 0, .int .i64 2]) (by simp [results, Tryz.results21, go_sem]) rfl ⟨rfl, ((Below.refl _ w).alloc (Nat.le_refl _) _).alloc (by simp) _⟩
  have d1 : ¬ (4096 : Int) < (N : Int) := by omega
  have hr : R = match badC f 0 L with | some p => some p | none => disC 0 L := by have := HN.out.2; unfold docC at this; rw [HN.out.1, if_neg hbig] at this; exact this.symm
  replace HN := hideC (And.intro HN.out.1 hr)
  clear hr
  go_wp2_with fail
  obtain ⟨V, hV⟩ : ∃ V, (w.alloc (.cells #[.slice oa N cap] 24)).alloc (.cells #[.int .i64 0, .int .i64 0] 41) = V := ⟨_, rfl⟩
  have HV : Hid (RkV w oa N cap V) := hideC (by
    rw [← hV]
    refine ⟨((Below.refl _ w).alloc (Nat.le_refl _) _).alloc (by simp) _, by rw [World.size_alloc, World.size_alloc], ?_, ?_, ?_, ?_, ?_, ?_⟩
    · exact (World.cell?_of_block (Below.heap_alloc _ _ _ (by simp))).trans (by simp)
    all_goals simp [World.size_alloc])
  rw [hV]
  clear hV
  go_loopw [3] (fun iv wq => ∃ i : Nat, iv = .int .i64 (i : Nat) ∧ i ≤ N ∧ (badC f 0 L = badC f i (L.drop i) ∧ ∀ j x, j < i → L[j]? = some x → f x = 0) ∧ Below V.heap.size V wq) (fun iv _ => N - (intOf iv).toNat)
  case atStart => exact ⟨0, rfl, Nat.zero_le _, ⟨rfl, fun j x h => by omega⟩, Below.refl _ _⟩
  case round =>
    obtain ⟨i, rfl, hi, hall, hb⟩ := hrel
    obtain ⟨wq, rfl⟩ : ∃ wq, wq = wr := ⟨_, rfl⟩
    have bw := bup HV.out.1 hb
    have cD : wq.cell? ⟨w.heap.size, 0, none⟩ = some (.slice oa N cap) := (hb.cell (p := ⟨w.heap.size, 0, none⟩) (by show w.heap.size < _; rw [HV.out.2.1]; omega)).trans HV.out.2.2.1
    by_cases hlt : i < N
    · obtain ⟨x, hx⟩ : ∃ x, L[i]? = some x := ⟨_, List.getElem?_eq_getElem (by rw [HN.out.1]; exact hlt)⟩
      obtain ⟨a, rfl, hab, ⟨c0, c1, c2, c3⟩, ⟨c4, c5⟩, ⟨c6, c7, c8⟩⟩ := HR.out.keep bw i x hx
      have d2 : (i : Int) < (N : Int) := by omega
      have wi : IntKind.i64.wrap ((i : Int) + 1) = ((i + 1 : Nat) : Int) := by rw [show ((i + 1 : Nat) : Int) = (i : Int) + 1 by omega]; exact IntWalk.i64_in _ ⟨by omega, by omega⟩
      have HF := hideC (HK.out x (List.mem_of_getElem? hx))
      obtain ⟨g, hg⟩ : ∃ g, f x = g := ⟨_, rfl⟩
      rw [hg] at HF
      have HA := hideC (And.intro (And.intro hall hg) (And.intro hb (And.intro hx bw)))
      clear hall hg hb hx bw
      go_wp2_with fail
      refine (HF.out wq HA.out.2.2.2).mono ?_
      rintro e w5 ⟨rfl, b5⟩
      have H5 := hideC (And.intro (bup HA.out.2.1 b5) (bup HA.out.2.2.2 b5))
      clear b5 c0 c1 c2 c3 c4 c5 c6 c7 c8 cD
      by_cases h0 : g = 0
      · subst h0
        go_wp2_with fail
        go_roundw
        case rel =>
          refine ⟨i + 1, by first | rfl | simp, by omega, ⟨?_, ?_⟩, H5.out.1⟩
          · rw [HA.out.1.1.1, badC_drop f L i x HA.out.2.2.1, if_pos HA.out.1.2]
          · intro j y hj hy
            rcases Nat.lt_succ_iff_lt_or_eq.1 hj with h | rfl
            · exact HA.out.1.1.2 j y h hy
            · rw [HA.out.2.2.1] at hy
              cases hy
              exact HA.out.1.2
        case measure => simp [intOf]; omega
      · have hr : R = some (i, g) := by
          have h1 := HN.out.2
          rw [HA.out.1.1.1, badC_drop f L i x HA.out.2.2.1, if_neg (by rw [HA.out.1.2]; exact h0), HA.out.1.2] at h1
          exact h1
        obtain ⟨_, r0, r1, f0, f1⟩ := HV.out.2.2.2.keep H5.out.1
        go_wp2_with fail
        subst hr
        exact bodyPost_ret (v := .agg #[.int .i64 i, .int .i64 g]) (by simp [results, Tryz.results21, go_sem, r0, r1]) rfl ⟨rfl, (H5.out.2.setCell (by simp) _).setCell (by simp) _⟩
    · have hiN : i = N := by omega
      subst hiN
      have hbn : badC f 0 L = none := by
        rw [hall.1, List.drop_eq_nil_of_le (by rw [HN.out.1]; exact Nat.le_refl _)]
        rfl
      have hr : R = disC 0 L := by have h1 := HN.out.2; rw [hbn] at h1; exact h1
      have hz : ∀ x ∈ L, f x = 0 := fun x hx => by
        obtain ⟨j, hj⟩ := List.getElem?_of_mem hx
        exact hall.2 j x (by have := (List.getElem?_eq_some_iff.1 hj).1; rw [HN.out.1] at this; exact this) hj
      replace HC := hideC (HC.out hz)
      replace HN := hideC (And.intro HN.out.1 hr)
      clear hr hbn hall hlt hi hz HK
      have HB := hideC (And.intro hb bw)
      have HD := hideC (And.intro cD (show w.heap.size < wq.heap.size from Nat.lt_of_lt_of_le (by rw [HV.out.2.1]; omega) hb.size))
      clear hb bw
      go_wp2_with fail
      clear cD
      go_loopw [5] (fun jv wz => ∃ j m : Nat, m = j + 1 ∧ jv = .int .i64 (m : Nat) ∧ (j = 0 ∨ m ≤ i) ∧ disC 0 L = disC j (L.drop j) ∧ Below wq.heap.size wq wz) (fun jv _ => i + 1 - (intOf jv).toNat)
      case atStart => exact ⟨0, 1, rfl, rfl, .inl rfl, rfl, Below.refl _ _⟩
      case round =>
        obtain ⟨j, m, hm, rfl, hj, hdis, hb⟩ := hrel
        obtain ⟨wz, rfl⟩ : ∃ wz, wz = wr := ⟨_, rfl⟩
        have cD : wz.cell? ⟨w.heap.size, 0, none⟩ = some (.slice oa i cap) := (hb.cell (p := ⟨w.heap.size, 0, none⟩) HD.out.2).trans HD.out.1
        have bw := bup HB.out.2 hb
        by_cases hlt : m < i
        · obtain ⟨x, hx⟩ : ∃ x, L[j]? = some x := ⟨_, List.getElem?_eq_getElem (by rw [HN.out.1]; omega)⟩
          obtain ⟨y, hy⟩ : ∃ y, L[m]? = some y := ⟨_, List.getElem?_eq_getElem (by rw [HN.out.1]; omega)⟩
          obtain ⟨a, rfl, hab, ⟨c0, c1, c2, c3⟩, ⟨c4, c5⟩, ⟨c6, c7, c8⟩⟩ := HR.out.keep bw j x hx
          obtain ⟨a2, ha2, -, ⟨k0, k1, k2, k3⟩, ⟨k4, k5⟩, ⟨k6, k7, k8⟩⟩ := HR.out.keep bw m y hy
          obtain rfl : a = a2 := by cases ha2; rfl
          clear ha2
          have d2 : (m : Int) < (i : Int) := by omega
          have w1 : (m : Int) - 1 = (j : Int) := by omega
          have w0 : IntKind.i64.wrap (j : Int) = (j : Int) := IntWalk.i64_in _ ⟨by omega, by omega⟩
          have w2 : IntKind.i64.wrap ((m : Int) + 1) = ((m + 1 : Nat) : Int) := by rw [show ((m + 1 : Nat) : Int) = (m : Int) + 1 by omega]; exact IntWalk.i64_in _ ⟨by omega, by omega⟩
          have d3 : (j : Int) < (i : Int) := by omega
          have HF := hideC (HC.out x (List.mem_of_getElem? hx) y (List.mem_of_getElem? hy))
          obtain ⟨g, hg⟩ : ∃ g, cmpC x y = g := ⟨_, rfl⟩
          rw [hg] at HF
          have HA := hideC (And.intro (And.intro hdis hg) (And.intro hb (And.intro hx (And.intro hy (And.intro bw hm)))))
          clear hdis hg hb hx hy bw hm
          go_wp2_with fail
          unfold Cu.cells at HF
          have HZ := hideC (And.intro (Nat.lt_of_lt_of_le HD.out.2 HA.out.2.1.size) (show ∀ n, (a.add n).block < wz.heap.size from fun n => by rw [addrK_block]; exact hab))
          go_region_held3 (fun w' => w'.cell? ⟨w.heap.size, 0, none⟩ = some (.slice (some a) i cap) ∧ w'.cell? (a.add (j * 9)) = some (.int .i64 x.a) ∧ w'.cell? ⟨(a.add (j * 9)).block, (a.add (j * 9)).off + 1, none⟩ = some (.int .i64 x.b) ∧ w'.cell? ⟨(a.add (j * 9)).block, (a.add (j * 9)).off + 2, none⟩ = some (.int .i64 x.c) ∧ w'.cell? ⟨(a.add (j * 9)).block, (a.add (j * 9)).off + 3, none⟩ = some (.int .i64 x.d) ∧ w'.cell? ⟨(a.add (j * 9)).block, (a.add (j * 9)).off + 4, none⟩ = some (.int .i64 x.la) ∧ w'.cell? ⟨(a.add (j * 9)).block, (a.add (j * 9)).off + 5, none⟩ = some (.int .i64 x.sd) ∧ w'.cell? ⟨(a.add (j * 9)).block, (a.add (j * 9)).off + 6, none⟩ = some (.string x.nm) ∧ w'.cell? ⟨(a.add (j * 9)).block, (a.add (j * 9)).off + 7, none⟩ = some (.string x.s) ∧ w'.cell? ⟨(a.add (j * 9)).block, (a.add (j * 9)).off + 8, none⟩ = some (.slice x.o x.n x.k) ∧ w'.cell? (a.add (m * 9)) = some (.int .i64 y.a) ∧ w'.cell? ⟨(a.add (m * 9)).block, (a.add (m * 9)).off + 1, none⟩ = some (.int .i64 y.b) ∧ w'.cell? ⟨(a.add (m * 9)).block, (a.add (m * 9)).off + 2, none⟩ = some (.int .i64 y.c) ∧ w'.cell? ⟨(a.add (m * 9)).block, (a.add (m * 9)).off + 3, none⟩ = some (.int .i64 y.d) ∧ w'.cell? ⟨(a.add (m * 9)).block, (a.add (m * 9)).off + 4, none⟩ = some (.int .i64 y.la) ∧ w'.cell? ⟨(a.add (m * 9)).block, (a.add (m * 9)).off + 5, none⟩ = some (.int .i64 y.sd) ∧ w'.cell? ⟨(a.add (m * 9)).block, (a.add (m * 9)).off + 6, none⟩ = some (.string y.nm) ∧ w'.cell? ⟨(a.add (m * 9)).block, (a.add (m * 9)).off + 7, none⟩ = some (.string y.s) ∧ w'.cell? ⟨(a.add (m * 9)).block, (a.add (m * 9)).off + 8, none⟩ = some (.slice y.o y.n y.k)) (first | go_keep | assumption | exact k9) (first | (go_at_call 38; (with_reducible refine (HF.out _).mono ?_); rintro e w5 ⟨rfl, b5⟩; have b5 : Below wz.heap.size wz w5 := (by first | exact ⟨b5.os, b5.tape, b5.output, b5.size, b5.block⟩ | exact b5); have k9 : w5.cell? ⟨w.heap.size, 0, none⟩ = some (.slice (some a) i cap) ∧ w5.cell? (a.add (j * 9)) = some (.int .i64 x.a) ∧ w5.cell? ⟨(a.add (j * 9)).block, (a.add (j * 9)).off + 1, none⟩ = some (.int .i64 x.b) ∧ w5.cell? ⟨(a.add (j * 9)).block, (a.add (j * 9)).off + 2, none⟩ = some (.int .i64 x.c) ∧ w5.cell? ⟨(a.add (j * 9)).block, (a.add (j * 9)).off + 3, none⟩ = some (.int .i64 x.d) ∧ w5.cell? ⟨(a.add (j * 9)).block, (a.add (j * 9)).off + 4, none⟩ = some (.int .i64 x.la) ∧ w5.cell? ⟨(a.add (j * 9)).block, (a.add (j * 9)).off + 5, none⟩ = some (.int .i64 x.sd) ∧ w5.cell? ⟨(a.add (j * 9)).block, (a.add (j * 9)).off + 6, none⟩ = some (.string x.nm) ∧ w5.cell? ⟨(a.add (j * 9)).block, (a.add (j * 9)).off + 7, none⟩ = some (.string x.s) ∧ w5.cell? ⟨(a.add (j * 9)).block, (a.add (j * 9)).off + 8, none⟩ = some (.slice x.o x.n x.k) ∧ w5.cell? (a.add (m * 9)) = some (.int .i64 y.a) ∧ w5.cell? ⟨(a.add (m * 9)).block, (a.add (m * 9)).off + 1, none⟩ = some (.int .i64 y.b) ∧ w5.cell? ⟨(a.add (m * 9)).block, (a.add (m * 9)).off + 2, none⟩ = some (.int .i64 y.c) ∧ w5.cell? ⟨(a.add (m * 9)).block, (a.add (m * 9)).off + 3, none⟩ = some (.int .i64 y.d) ∧ w5.cell? ⟨(a.add (m * 9)).block, (a.add (m * 9)).off + 4, none⟩ = some (.int .i64 y.la) ∧ w5.cell? ⟨(a.add (m * 9)).block, (a.add (m * 9)).off + 5, none⟩ = some (.int .i64 y.sd) ∧ w5.cell? ⟨(a.add (m * 9)).block, (a.add (m * 9)).off + 6, none⟩ = some (.string y.nm) ∧ w5.cell? ⟨(a.add (m * 9)).block, (a.add (m * 9)).off + 7, none⟩ = some (.string y.s) ∧ w5.cell? ⟨(a.add (m * 9)).block, (a.add (m * 9)).off + 8, none⟩ = some (.slice y.o y.n y.k) := ⟨(b5.cell (p := ⟨w.heap.size, 0, none⟩) HZ.out.1).trans cD, (b5.cell (p := a.add (j * 9)) (HZ.out.2 _)).trans c0, (b5.cell (p := ⟨(a.add (j * 9)).block, (a.add (j * 9)).off + 1, none⟩) (HZ.out.2 _)).trans c1, (b5.cell (p := ⟨(a.add (j * 9)).block, (a.add (j * 9)).off + 2, none⟩) (HZ.out.2 _)).trans c2, (b5.cell (p := ⟨(a.add (j * 9)).block, (a.add (j * 9)).off + 3, none⟩) (HZ.out.2 _)).trans c3, (b5.cell (p := ⟨(a.add (j * 9)).block, (a.add (j * 9)).off + 4, none⟩) (HZ.out.2 _)).trans c4, (b5.cell (p := ⟨(a.add (j * 9)).block, (a.add (j * 9)).off + 5, none⟩) (HZ.out.2 _)).trans c5, (b5.cell (p := ⟨(a.add (j * 9)).block, (a.add (j * 9)).off + 6, none⟩) (HZ.out.2 _)).trans c6, (b5.cell (p := ⟨(a.add (j * 9)).block, (a.add (j * 9)).off + 7, none⟩) (HZ.out.2 _)).trans c7, (b5.cell (p := ⟨(a.add (j * 9)).block, (a.add (j * 9)).off + 8, none⟩) (HZ.out.2 _)).trans c8, (b5.cell (p := a.add (m * 9)) (HZ.out.2 _)).trans k0, (b5.cell (p := ⟨(a.add (m * 9)).block, (a.add (m * 9)).off + 1, none⟩) (HZ.out.2 _)).trans k1, (b5.cell (p := ⟨(a.add (m * 9)).block, (a.add (m * 9)).off + 2, none⟩) (HZ.out.2 _)).trans k2, (b5.cell (p := ⟨(a.add (m * 9)).block, (a.add (m * 9)).off + 3, none⟩) (HZ.out.2 _)).trans k3, (b5.cell (p := ⟨(a.add (m * 9)).block, (a.add (m * 9)).off + 4, none⟩) (HZ.out.2 _)).trans k4, (b5.cell (p := ⟨(a.add (m * 9)).block, (a.add (m * 9)).off + 5, none⟩) (HZ.out.2 _)).trans k5, (b5.cell (p := ⟨(a.add (m * 9)).block, (a.add (m * 9)).off + 6, none⟩) (HZ.out.2 _)).trans k6, (b5.cell (p := ⟨(a.add (m * 9)).block, (a.add (m * 9)).off + 7, none⟩) (HZ.out.2 _)).trans k7, (b5.cell (p := ⟨(a.add (m * 9)).block, (a.add (m * 9)).off + 8, none⟩) (HZ.out.2 _)).trans k8⟩; have H5 := hideC b5; clear b5))
          clear c0 c1 c2 c3 c4 c5 c6 c7 c8 k0 k1 k2 k3 k4 k5 k6 k7 k8 k9 cD HF
          have H9 := hideC (And.intro (bup HA.out.2.2.2.2.1 H5.out) (bup HA.out.2.1 H5.out))
          by_cases h0 : 0 < g
          · have hr : R = some (m, 33) := by
              have h1 := HN.out.2
              have hm := HA.out.2.2.2.2.2
              rw [HA.out.1.1, disC_drop L j x y HA.out.2.2.1 (by rw [← hm]; exact HA.out.2.2.2.1), if_pos (by rw [HA.out.1.2]; exact h0), ← hm] at h1
              exact h1
            obtain ⟨_, r0, r1, f0, f1⟩ := HV.out.2.2.2.keep (bup HB.out.1 H9.out.2)
            go_wp2_with fail
            subst hr
            exact bodyPost_ret (v := .agg #[.int .i64 m, .int .i64 33]) (by simp [results, Tryz.results21, go_sem, r0, r1]) rfl ⟨rfl, (H9.out.1.setCell (by simp) _).setCell (by simp) _⟩
          · have d9 : ¬ (0 : Int) < g := h0
            go_wp2_with fail
            go_roundw
            case rel =>
              refine ⟨j + 1, m + 1, by rw [HA.out.2.2.2.2.2], by first | rfl | simp, .inr (by omega), ?_, H9.out.2⟩
              have hm := HA.out.2.2.2.2.2
              rw [HA.out.1.1, disC_drop L j x y HA.out.2.2.1 (by rw [← hm]; exact HA.out.2.2.2.1), if_neg (by rw [HA.out.1.2]; exact h0)]
            case measure => simp [intOf]; omega
        · have d2 : ¬ (m : Int) < (i : Int) := by omega
          have hr : R = none := by rw [HN.out.2, hdis]; exact disC_end L j (by rw [HN.out.1]; omega)
          have H9 := hideC bw
          obtain ⟨_, r0, r1, f0, f1⟩ := HV.out.2.2.2.keep (bup HB.out.1 hb)
          clear bw hdis hb
          go_wp2_with fail
          subst hr
          exact bodyPost_ret (v := .agg #[.int .i64 0, .int .i64 0]) (by simp [results, Tryz.results21, go_sem, r0, r1]) rfl ⟨rfl, (H9.out.setCell (by simp) _).setCell (by simp) _⟩

end Go.Proofs.YthhhglfcacoejaaGreatDoor

/- mark.isName, mark.Name (of the dialect that refuses no name), cue.checkName at every name; cue.Check, cue.CheckDoc at every cue, every document. -/
namespace Go.Proofs.YthhhglfcacoejaaGreatDoor
open Go.RowKit Go.Shelf

theorem dec_cont (s : ByteArray) (p : Nat) (h : 128 ≤ (s.get! p).toNat) (k : Nat) (hk : k < (Utf8.decode s p).2) : 128 ≤ (s.get! (p + k)).toNat := by
  by_cases k0 : k = 0
  · subst k0; exact h
  unfold Utf8.decode at hk
  simp only [Nat.add_zero] at hk
  split at hk
  · omega
  split at hk
  · rename_i h1
    simp at h1
    split at hk
    · obtain rfl : k = 1 := by simp at hk; omega
      omega
    · simp at hk; omega
  split at hk
  · rename_i h1
    simp at h1
    split at hk
    · obtain rfl | rfl : k = 1 ∨ k = 2 := by simp at hk; omega
      · omega
      · omega
    · simp at hk; omega
  split at hk
  · rename_i h1
    simp at h1
    split at hk
    · obtain rfl | rfl | rfl : k = 1 ∨ k = 2 ∨ k = 3 := by simp at hk; omega
      · omega
      · omega
      · omega
    · simp at hk; omega
  · simp at hk; omega
/-- The bytes up to a place are no controls. -/
def okTo (s : ByteArray) (p : Nat) : Prop := ∀ k, k < p → k < s.size → 32 ≤ (s.get! k).toNat
theorem get_at (s : ByteArray) (p : Nat) (h : p < s.size) : s.get! p = s[p] := by
  show s.data[p]! = s.data[p]
  exact getElem!_pos s.data p h
theorem okTo_all (s : ByteArray) : okTo s s.size ↔ noCtl s = true := by
  unfold noCtl
  rw [List.all_eq_true]
  constructor
  · intro h b hb
    obtain ⟨k, hk, e⟩ := List.getElem_of_mem hb
    have hk2 : k < s.size := by simpa using hk
    have := h k hk2 hk2
    rw [get_at s k hk2] at this
    have e2 : s[k] = b := by rw [← e]; rfl
    rw [e2] at this
    simpa using this
  · intro h k hk hk2
    have := h s[k] (by show s.data[k] ∈ s.data.toList; exact Array.mem_toList_iff.2 (Array.getElem_mem hk2))
    rw [get_at s k hk2]
    simpa using this
theorem okTo_step (s : ByteArray) (p : Nat) (hp : p < s.size) (h : okTo s p) (hr : ¬ ((Utf8.decode s p).1 : Int) < 32) : okTo s (p + (Utf8.decode s p).2) := by
  intro k hk hk2
  by_cases h1 : k < p
  · exact h k h1 hk2
  by_cases hb : 128 ≤ (s.get! p).toNat
  · have := dec_cont s p hb (k - p) (by omega)
    rw [show p + (k - p) = k by omega] at this
    omega
  · have hd : Utf8.decode s p = ((s.get! p).toNat, 1) := by
      unfold Utf8.decode
      simp only [Nat.add_zero]
      rw [if_pos (by omega)]
    rw [hd] at hr hk
    obtain rfl : k = p := by simp at hk; omega
    simp at hr
    omega
theorem okTo_not (s : ByteArray) (p : Nat) (hp : p < s.size) (hr : ((Utf8.decode s p).1 : Int) < 32) : noCtl s = false := by
  rw [← Bool.not_eq_true, ← okTo_all]
  intro h
  have h1 := h p hp hp
  by_cases hb : (s.get! p).toNat < 128
  · have hd : Utf8.decode s p = ((s.get! p).toNat, 1) := by
      unfold Utf8.decode
      simp only [Nat.add_zero]
      rw [if_pos (by omega)]
    rw [hd] at hr
    simp at hr
    omega
  · have h2 := (decode_high s p hp (by rw [← get_at s p hp]; omega)).1
    omega

set_option maxRecDepth 100000 in
set_option maxHeartbeats 400000 in
theorem isName_any (s : ByteArray) (w : World) : Calls Tryz.prog 119 #[.string s] w fun e w' => e = .returned (.bool (nameB s)) ∧ Below w.heap.size w w' := by
  obtain ⟨R, hR⟩ : ∃ R, nameB s = R := ⟨_, rfl⟩
  rw [hR]
  have HR := hideC hR
  clear hR
  go_enter Tryz.func119, Tryz.ntmps119
  go_wp2
  go_loopw [4] (fun _ w' => ∃ pos : Nat, w' = w.iter s pos ∧ okTo s pos) (fun _ w' => s.size - w'.iterPos w.heap.size)
  case atStart => exact ⟨0, rfl, fun k hk => by omega⟩
  case round =>
    obtain ⟨pos, rfl, ho⟩ := hrel
    have HO := hideC ho
    clear ho
    by_cases hp : pos < s.size
    · have hnx : ∀ ty, (Instr.next (.pointer (some ⟨w.heap.size, 0, none⟩)) true ty).run Tryz.prog (w.iter s pos) = _ := fun ty => run_next_any w s pos ty hp
      by_cases hr : ((Utf8.decode s pos).1 : Int) < 32
      · have hf : R = false := by have := HR.out; unfold nameB at this; rw [okTo_not s pos hp hr] at this; simpa using this.symm
        go_wp2
        go_ret
        exact ⟨by first | (rw [hf]; rfl) | rfl, (Below.refl _ w).alloc (Nat.le_refl _) _⟩
      · go_wp2
        have hwd := Lib.decode_width_pos s pos hp
        go_roundw
        case rel => exact ⟨pos + (Utf8.decode s pos).2, rfl, okTo_step s pos hp HO.out hr⟩
        case measure =>
          simp
          omega
    · have hnx : ∀ ty, (Instr.next (.pointer (some ⟨w.heap.size, 0, none⟩)) true ty).run Tryz.prog (w.iter s pos) = _ := fun ty => run_next_end w s pos ty hp
      have hf : R = decide ((s.size : Int) ≤ 64) := by
        have h1 : noCtl s = true := (okTo_all s).1 fun k hk _ => HO.out k (by omega) hk
        have := HR.out
        unfold nameB at this
        rw [h1, Bool.and_true] at this
        rw [← this]
        congr 1
        exact propext ⟨fun h => by omega, fun h => by omega⟩
      go_wp2
      go_ret
      exact ⟨by first | (rw [hf]; rfl) | rfl, (Below.refl _ w).alloc (Nat.le_refl _) _⟩

set_option maxRecDepth 100000 in
set_option maxHeartbeats 400000 in
theorem name2_any (s : ByteArray) (w : World) : Calls Tryz.prog 104 #[.int .i64 2, .string s] w fun e w' => (∃ u, e = .returned (.tuple #[.string u, .bool false, .int .i64 (if nameB s = true then 0 else 25)])) ∧ Below w.heap.size w w' := by
  have HN := hideC (fun W => isName_any s W)
  have HC := hideC (fun (h : nameB s = true) (W : World) => clone_any s W (by unfold nameB at h; simp at h; omega))
  obtain ⟨nb, hnb⟩ : ∃ nb, nameB s = nb := ⟨_, rfl⟩
  rw [hnb] at HN HC ⊢
  clear hnb
  go_enter Tryz.func104, Tryz.ntmps104
  go_wp2_with (go_at_call 118; refine (isDialect_voice _).mono ?_; rintro e w1 ⟨rfl, rfl⟩)
  refine (HN.out _).mono ?_
  rintro e w2 ⟨rfl, b2⟩
  cases nb with
  | false =>
    go_wp2_with fail
    go_ret3
    exact ⟨⟨_, rfl⟩, b2⟩
  | true =>
    cases hz : s.toList.isEmpty with
    | true =>
      go_wp2_with fail
      refine (HC.out (by first | trivial | rfl) _).mono ?_
      rintro e w3 ⟨rfl, b3⟩
      go_wp2_with fail
      go_ret3
      exact ⟨⟨_, rfl⟩, bup b2 b3⟩
    | false =>
      go_wp2_with fail
      refine (HC.out (by first | trivial | rfl) _).mono ?_
      rintro e w3 ⟨rfl, b3⟩
      go_wp2_with fail
      go_ret3
      exact ⟨⟨_, rfl⟩, bup b2 b3⟩
set_option maxRecDepth 100000 in
theorem checkName_any (s : ByteArray) (w : World) : Calls Tryz.prog 82 #[.string s] w fun e w' => e = .returned (.int .i64 (if nameB s = true then 0 else 25)) ∧ Below w.heap.size w w' := by
  have H := hideC (name2_any s)
  generalize (if nameB s = true then (0 : Int) else 25) = en at *
  go_enter Tryz.func82, Tryz.ntmps82
  go_wp2_with fail
  refine (H.out _).mono ?_
  rintro e w1 ⟨⟨u, rfl⟩, b1⟩
  go_wp2_with fail
  go_ret
  exact ⟨rfl, b1⟩

/-- What Check tells of a cue, its text's spans given. -/
def chkF (sp : Cu → List Sp) (x : Cu) : Int := chkC (if timeA ⟨x.a, x.b⟩ = 0 then timeA ⟨x.c, x.d⟩ else timeA ⟨x.a, x.b⟩) (cmpI ⟨x.a, x.b⟩ ⟨x.c, x.d⟩) x.la x.sd (if nameB x.nm = true then chkT x.s (sp x) else 25)
/-- Cues whose parts lie in memory as they should. -/
def CuP (w : World) (sp : Cu → List Sp) (x : Cu) : Prop := RtIn ⟨x.a, x.b⟩ ∧ RtIn ⟨x.c, x.d⟩ ∧ x.s.size ≤ 140737488355328 ∧ (sp x).length = x.n ∧ (x.n ≤ x.k ∧ x.k ≤ maxLen) ∧ (x.o = none → sp x = [] ∧ x.k = 0) ∧ SpO w x.o (sp x)
theorem CuP.keep {w w' : World} {sp : Cu → List Sp} {x : Cu} (h : CuP w sp x) (b : Below w.heap.size w w') : CuP w' sp x := ⟨h.1, h.2.1, h.2.2.1, h.2.2.2.1, h.2.2.2.2.1, h.2.2.2.2.2.1, h.2.2.2.2.2.2.keep b⟩

theorem cuecheck_any (sp : Cu → List Sp) (x : Cu) (w : World) (h : CuP w sp x) : Calls Tryz.prog 53 #[.agg x.cells] w fun e w' => e = .returned (.int .i64 (chkF sp x)) ∧ Below w.heap.size w w' := by
  obtain ⟨h1, h2, h4, h5, h6, h7, h8⟩ := h
  have q := cuecheck_walk x.a x.b x.c x.d x.la x.sd x.nm x.s (.slice x.o x.n x.k) (timeA ⟨x.a, x.b⟩) (timeA ⟨x.c, x.d⟩) _ (cmpI ⟨x.a, x.b⟩ ⟨x.c, x.d⟩) (if nameB x.nm = true then 0 else 25) (chkT x.s (sp x)) (if nameB x.nm = true then chkT x.s (sp x) else 25) rfl (by cases nameB x.nm <;> simp) w
    (fun W => time_any ⟨x.a, x.b⟩ h1 W) (fun W => time_any ⟨x.c, x.d⟩ h2 W) (fun W => cmp_any ⟨x.a, x.b⟩ ⟨x.c, x.d⟩ h1 h2 W) (fun W => checkName_any x.nm W)
    (fun W b => by have := check7_any x.s (sp x) x.o x.k h4 (by rw [h5]; exact h6) h7 W (h8.keep b); rw [h5] at this; exact this)
  exact q
theorem rcuecheck_any (sp : Cu → List Sp) (x : Cu) (w : World) (h : CuP w sp x) : Calls Tryz.prog 37 #[.agg x.cells] w fun e w' => e = .returned (.int .i64 (chkF sp x)) ∧ Below w.heap.size w w' := by
  obtain ⟨h1, h2, h4, h5, h6, h7, h8⟩ := h
  exact rcuecheck_walk x.a x.b x.c x.d x.la x.sd x.nm x.s (.slice x.o x.n x.k) (timeA ⟨x.a, x.b⟩) (timeA ⟨x.c, x.d⟩) (cmpI ⟨x.a, x.b⟩ ⟨x.c, x.d⟩) (chkT x.s (sp x)) w
    (fun W => rtime_any ⟨x.a, x.b⟩ h1 W) (fun W => rtime_any ⟨x.c, x.d⟩ h2 W) (fun W => rcmp_any ⟨x.a, x.b⟩ ⟨x.c, x.d⟩ h1 h2 W)
    (fun W b => by have := rcheck_any x.s (sp x) x.o x.k W (h8.keep b); rw [h5] at this; exact this)
theorem checkdoc_any (sp : Cu → List Sp) (L : List Cu) (oa : Option Addr) (cap : Nat) (hc : L.length ≤ cap ∧ cap ≤ maxLen) (w : World) (hR : CuO w oa L) (hP : ∀ x ∈ L, CuP w sp x) :
    Calls Tryz.prog 34 #[.agg #[.slice oa L.length cap]] w fun e w' => ∃ v, e = .returned v ∧ WrV w' w.heap.size (docC (chkF sp) L) v ∧ Below w.heap.size w w' :=
  checkdoc_walk (chkF sp) L oa cap hc w hR (fun x hx W b => cuecheck_any sp x W ((hP x hx).keep b)) (fun _ x hx y hy W => compare_walk x y (cmpI ⟨x.a, x.b⟩ ⟨y.a, y.b⟩) (cmpI ⟨x.c, x.d⟩ ⟨y.c, y.d⟩) _ rfl W (fun U => cmp_any ⟨x.a, x.b⟩ ⟨y.a, y.b⟩ (hP x hx).1 (hP y hy).1 U) (fun U => cmp_any ⟨x.c, x.d⟩ ⟨y.c, y.d⟩ (hP x hx).2.1 (hP y hy).2.1 U))
theorem rcheckdoc_any (sp : Cu → List Sp) (L : List Cu) (oa : Option Addr) (cap : Nat) (hc : L.length ≤ cap ∧ cap ≤ maxLen) (w : World) (hR : CuO w oa L) (hP : ∀ x ∈ L, CuP w sp x) :
    Calls Tryz.prog 21 #[.agg #[.slice oa L.length cap]] w fun e w' => e = .returned (.agg #[.int .i64 (docP (docC (chkF sp) L)).1, .int .i64 (docP (docC (chkF sp) L)).2]) ∧ Below w.heap.size w w' :=
  rcheckdoc_walk (chkF sp) L oa cap hc w hR (fun x hx W b => rcuecheck_any sp x W ((hP x hx).keep b)) (fun _ x hx y hy W => rcompare_walk x y (cmpI ⟨x.a, x.b⟩ ⟨y.a, y.b⟩) (cmpI ⟨x.c, x.d⟩ ⟨y.c, y.d⟩) _ rfl W (fun U => rcmp_any ⟨x.a, x.b⟩ ⟨y.a, y.b⟩ (hP x hx).1 (hP y hy).1 U) (fun U => rcmp_any ⟨x.c, x.d⟩ ⟨y.c, y.d⟩ (hP x hx).2.1 (hP y hy).2.1 U))

end Go.Proofs.YthhhglfcacoejaaGreatDoor

/- errors.As at an error of package cue and a variable of its type. -/
namespace Go.Proofs.YthhhglfcacoejaaGreatDoor
open Go.RowKit Go.Shelf Go.Extern Go.Stop Go.Lib

set_option maxRecDepth 100000 in
set_option maxHeartbeats 4000000 in
theorem as_any (p : Addr) (g : Nat) (u : Value) (w : World) (hG : w.cell? ⟨0, 0, none⟩ = some (rty 34)) (hp : w.cell? p = some u) (hf : w.frozen? p = false) :
    Calls Tryz.prog 25 #[.iface 77 (.pointer (some ⟨g, 0, none⟩)), .iface 79 (.pointer (some p))] w fun e w' => e = .returned (.bool true) ∧ ∃ V, Below w.heap.size w V ∧ w' = V.setCell p (.pointer (some ⟨g, 0, none⟩)) := by
  have h44 := @run_callFunc_extern Tryz.prog 46 _ (fun args => Extern.ReflectliteValue.unpack (args.getD 0 (.tuple #[]))) Tryz.func46 (by kernel_rfl) (by kernel_rfl) (by kernel_rfl) (by kernel_rfl)
  have h45 := @run_callFunc_extern Tryz.prog 47 _ (Extern.ReflectliteValue.methodAny (Extern.ReflectliteValue.valueError "reflectlite.Value.Type" 0) fun t _ _ _ => Extern.ReflectliteType.toType t) Tryz.func47 (by kernel_rfl) (by kernel_rfl) (by kernel_rfl) (by kernel_rfl)
  have h46 := @run_callFunc_extern Tryz.prog 48 _ (Extern.ReflectliteValue.method (Extern.ReflectliteValue.valueError "reflectlite.Value.IsNil" 0) Extern.ReflectliteValue.isNil) Tryz.func48 (by kernel_rfl) (by kernel_rfl) (by kernel_rfl) (by kernel_rfl)
  have h21 := @run_callFunc_extern Tryz.prog 164 _ (Extern.ReflectliteType.abiMethod fun t => do pure (.int .u8 (← Extern.Rtype.kind t))) Tryz.func164 (by kernel_rfl) (by kernel_rfl) (by kernel_rfl) (by kernel_rfl)
  have h47 := @run_callFunc_extern Tryz.prog 177 _ (Extern.ReflectliteType.method Extern.ReflectliteType.elem) Tryz.func177 (by kernel_rfl) (by kernel_rfl) (by kernel_rfl) (by kernel_rfl)
  have h48 := @run_callFunc_extern Tryz.prog 178 _ (Extern.ReflectliteType.relation "Implements" Extern.ReflectliteType.implements_) Tryz.func178 (by kernel_rfl) (by kernel_rfl) (by kernel_rfl) (by kernel_rfl)
  have q44 : (callFunc 46 #[.iface 79 (.pointer (some p))]).run Tryz.prog w = .ok (.value (.agg #[.pointer (some ⟨6, 79, none⟩), .pointer (some ⟨w.heap.size, 0, none⟩), .int .u64 150])) (w.alloc (.cells #[.pointer (some p)] 79)) := by rw [h44]; exact congrArg (fun r => Result.andThen r _) (valP (some p) w)
  have q45 : ∀ W, (callFunc 47 #[(.agg #[.pointer (some ⟨6, 79, none⟩), .pointer (some ⟨w.heap.size, 0, none⟩), .int .u64 150])]).run Tryz.prog W = .ok (.value (rty 79)) W := fun W => by rw [h45, typP]; rfl
  have q46 : (callFunc 48 #[(.agg #[.pointer (some ⟨6, 79, none⟩), .pointer (some ⟨w.heap.size, 0, none⟩), .int .u64 150])]).run Tryz.prog ((w.alloc (.cells #[.pointer (some p)] 79)).alloc (.cells #[.pointer (some ⟨6, 79, none⟩), .pointer (some ⟨w.heap.size, 0, none⟩), .int .u64 150] 104)) = .ok (.value (.bool false)) ((w.alloc (.cells #[.pointer (some p)] 79)).alloc (.cells #[.pointer (some ⟨6, 79, none⟩), .pointer (some ⟨w.heap.size, 0, none⟩), .int .u64 150] 104)) := by rw [h46, nilP ⟨w.heap.size, 0, none⟩ p _ ((World.cell?_of_block (Below.heap_alloc _ _ _ (by simp))).trans (by simp))]; rfl
  have q21 : ∀ W, (callFunc 164 #[.pointer (some ⟨6, 79, none⟩)]).run Tryz.prog W = .ok (.value (.int .u8 22)) W := fun W => by rw [h21, kindP]; rfl
  have q22 : ∀ W, (callFunc 164 #[.pointer (some ⟨6, 77, none⟩)]).run Tryz.prog W = .ok (.value (.int .u8 22)) W := fun W => by rw [h21, kindE]; rfl
  have q47 : ∀ W, (callFunc 177 #[.agg #[.pointer (some ⟨6, 79, none⟩)]]).run Tryz.prog W = .ok (.value (rty 77)) W := fun W => by rw [h47, elemP]; rfl
  have q48 : ∀ W, (callFunc 178 #[.agg #[.pointer (some ⟨6, 77, none⟩)], rty 34]).run Tryz.prog W = .ok (.value (.bool true)) W := fun W => by rw [h48, implE]; rfl
  clear h44 h45 h46 h21 h47 h48
  have mK := mKind
  have mE := mElem
  have mI := mImpl
  have hgl : 0 < w.heap.size := by
    rcases Nat.lt_or_ge 0 w.heap.size with h | h
    · exact h
    · simp [World.cell?, Array.getElem?_eq_none h] at hG
  have hpl : p.block < w.heap.size := by
    rcases Nat.lt_or_ge p.block w.heap.size with h | h
    · exact h
    · simp [World.cell?, Array.getElem?_eq_none h] at hp
  have b1 := bel1 w (.cells #[.pointer (some p)] 79)
  have b2 := bel1 (w.alloc (.cells #[.pointer (some p)] 79)) (.cells #[.pointer (some ⟨6, 79, none⟩), .pointer (some ⟨w.heap.size, 0, none⟩), .int .u64 150] 104)
  have hG2 : ((w.alloc (.cells #[.pointer (some p)] 79)).alloc (.cells #[.pointer (some ⟨6, 79, none⟩), .pointer (some ⟨w.heap.size, 0, none⟩), .int .u64 150] 104)).cell? ⟨0, 0, none⟩ = some (rty 34) := ((bup b1 b2).cell (p := ⟨0, 0, none⟩) hgl).trans hG
  have HA := hideC (as_lo ⟨w.heap.size, 0, none⟩ p g (.iface 79 (.pointer (some p))) u ((w.alloc (.cells #[.pointer (some p)] 79)).alloc (.cells #[.pointer (some ⟨6, 79, none⟩), .pointer (some ⟨w.heap.size, 0, none⟩), .int .u64 150] 104)) ((World.cell?_of_block (Below.heap_alloc _ _ _ (by simp))).trans (by simp)) (((bup b1 b2).cell (p := p) hpl).trans hp) (((bup b1 b2).frozen (p := p) hpl).trans hf))
  have HB := hideC (bup b1 b2)
  clear b1 b2 hG hp hf
  unfold rty at *
  go_enter Tryz.func25, Tryz.ntmps25
  go_wp2_with (go_at_call 49; refine HA.out.mono ?_; rintro e w3 ⟨rfl, V, bV, rfl⟩)
  go_ret
  exact ⟨rfl, V, bup HB.out bV, rfl⟩

end Go.Proofs.YthhhglfcacoejaaGreatDoor
