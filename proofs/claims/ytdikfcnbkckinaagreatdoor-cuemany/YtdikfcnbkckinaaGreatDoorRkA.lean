/- The reference's IsName, Check, Compare, CheckDoc (chapter 9), at every cue, every document. -/
import Derived.Test.YtdikfcnbkckinaaGreatDoorCkA
namespace Go.Proofs.YtdikfcnbkckinaaGreatDoor
open Go.RowKit Go.Shelf

/-- Is every byte at least a blank? -/
def noCtl (s : ByteArray) : Bool := s.data.toList.all fun b => decide (32 ≤ b.toNat)
/-- W7. -/
def nameB (s : ByteArray) : Bool := decide (s.size ≤ 64) && noCtl s

set_option maxRecDepth 100000 in
set_option maxHeartbeats 400000 in
theorem risname_any (s : ByteArray) (w : World) : Calls Tryz.prog 32 #[.string s] w fun e w' => e = .returned (.bool (nameB s)) ∧ w' = w := by
  obtain ⟨R, hR⟩ : ∃ R, nameB s = R := ⟨_, rfl⟩
  rw [hR]
  have HR := hideC hR
  clear hR
  go_enter Tryz.func32, Tryz.ntmps32
  by_cases hb : 64 < s.size
  · have d1 : (64 : Int) < (s.size : Int) := by omega
    have hr : R = false := by have := HR.out; unfold nameB at this; rw [decide_eq_false (by omega)] at this; simpa using this.symm
    go_wp2_with fail
    go_ret
    exact ⟨by rw [hr]; rfl, rfl⟩
  have d1 : ¬ (64 : Int) < (s.size : Int) := by omega
  have hr : R = noCtl s := by have := HR.out; unfold nameB at this; rw [decide_eq_true (by omega)] at this; simpa using this.symm
  replace HR := hideC hr
  clear hr
  go_wp2_with fail
  go_loopw [3] (fun iv wq => ∃ i : Nat, iv = .int .i64 (i : Nat) ∧ i ≤ s.size ∧ (s.data.toList.take i).all (fun b => decide (32 ≤ b.toNat)) = true ∧ wq = w) (fun iv _ => s.size - (intOf iv).toNat)
  case atStart => exact ⟨0, rfl, Nat.zero_le _, rfl, rfl⟩
  case round =>
    obtain ⟨i, rfl, hi, hall, rfl⟩ := hrel
    by_cases hlt : i < s.size
    · have d2 : (i : Int) < (s.size : Int) := by omega
      have wi : IntKind.i64.wrap ((i : Int) + 1) = ((i + 1 : Nat) : Int) := by rw [show ((i + 1 : Nat) : Int) = (i : Int) + 1 by omega]; exact IntWalk.i64_in _ ⟨by omega, by omega⟩
      have hti : s.data.toList.take (i + 1) = s.data.toList.take i ++ [s[i]] := by
        rw [List.take_add_one, List.getElem?_eq_getElem (by simpa using hlt)]
        rfl
      have HA := hideC (And.intro hall hti)
      clear hall hti
      by_cases hc : (s[i].toNat : Int) < 32
      · have hr : R = false := by
          rw [HR.out]
          unfold noCtl
          rw [← Bool.not_eq_true, List.all_eq_true]
          intro h
          have := h s[i] (by have h2 : s[i] ∈ s.data.toList.take (i + 1) := (by rw [HA.out.2]; simp); exact List.mem_of_mem_take h2)
          simp at this
          omega
        go_wp2_with fail
        go_ret
        exact ⟨by rw [hr]; rfl, rfl⟩
      · go_wp2_with fail
        refine ⟨⟨i + 1, by first | rfl | simp, by omega, ?_, by first | rfl | trivial⟩, by simp [intOf]; omega⟩
        rw [HA.out.2, List.all_append, HA.out.1]
        simp
        omega
    · have d2 : ¬ (i : Int) < (s.size : Int) := by omega
      have hr : R = true := by
        rw [HR.out]
        unfold noCtl
        rw [List.take_of_length_le (by simp; show s.data.size ≤ i; have : s.size = s.data.size := rfl; omega)] at hall
        exact hall
      clear hall
      go_wp2_with fail
      go_ret
      exact ⟨by first | (rw [hr]; rfl) | rfl, rfl⟩

set_option maxRecDepth 100000 in
set_option maxHeartbeats 1000000 in
theorem rcuecheck_walk (a b c d la sd : Int) (nm s : ByteArray) (v : Value) (e1 e2 cc et : Int) (w : World)
    (H1 : ∀ W, Calls Tryz.prog 30 #[.agg #[.int .i64 a, .int .i64 b]] W fun e w' => e = .returned (.int .i64 e1) ∧ Below W.heap.size W w')
    (H2 : ∀ W, Calls Tryz.prog 30 #[.agg #[.int .i64 c, .int .i64 d]] W fun e w' => e = .returned (.int .i64 e2) ∧ Below W.heap.size W w')
    (H3 : ∀ W, Calls Tryz.prog 31 #[.agg #[.int .i64 a, .int .i64 b], .agg #[.int .i64 c, .int .i64 d]] W fun e w' => e = .returned (.int .i64 cc) ∧ Below W.heap.size W w')
    (H5 : ∀ W, Below w.heap.size w W → Calls Tryz.prog 33 #[.agg #[.string s, v]] W fun e w' => e = .returned (.int .i64 et) ∧ Below W.heap.size W w') :
    Calls Tryz.prog 14 #[.agg #[.int .i64 a, .int .i64 b, .int .i64 c, .int .i64 d, .int .i64 la, .int .i64 sd, .string nm, .string s, v]] w fun e w' => e = .returned (.int .i64 (chkC (if e1 = 0 then e2 else e1) cc la sd (if nameB nm = true then et else 25))) ∧ Below w.heap.size w w' := by
  obtain ⟨R, hR⟩ : ∃ R, chkC (if e1 = 0 then e2 else e1) cc la sd (if nameB nm = true then et else 25) = R := ⟨_, rfl⟩
  rw [hR]
  have HR := hideC hR
  have H4 := hideC (fun W => risname_any nm W)
  obtain ⟨nb, hnb⟩ : ∃ nb, nameB nm = nb := ⟨_, rfl⟩
  rw [hnb] at H4 HR
  clear hR hnb
  replace H1 := hideC H1
  replace H2 := hideC H2
  replace H3 := hideC H3
  replace H5 := hideC H5
  go_enter Tryz.func14, Tryz.ntmps14
  go_wp2_with fail
  have Q0 : CueC (w.alloc (.cells #[.int .i64 a, .int .i64 b, .int .i64 c, .int .i64 d, .int .i64 la, .int .i64 sd, .string nm, .string s, v] 28)) w.heap.size a b c d la sd nm s v := World.alloc_heap_new w _
  have B0 : Below w.heap.size w (w.alloc (.cells #[.int .i64 a, .int .i64 b, .int .i64 c, .int .i64 d, .int .i64 la, .int .i64 sd, .string nm, .string s, v] 28)) := bel1 _ _
  generalize w.alloc (.cells #[.int .i64 a, .int .i64 b, .int .i64 c, .int .i64 d, .int .i64 la, .int .i64 sd, .string nm, .string s, v] 28) = V at *
  refine (H1.out _).mono ?_
  rintro e w1 ⟨rfl, b1⟩
  have Q1 := hideC (Q0.keep b1)
  have B1 := hideC (bup B0 b1)
  clear Q0 B0 b1 H1
  by_cases g1 : e1 = 0
  case neg =>
    have hr : R = e1 := by have := HR.out; unfold chkC at this; simp [g1] at this; exact this.symm
    go_wp2_with fail
    go_ret
    exact ⟨(by rw [hr]; first | done | rfl), B1.out⟩
  subst g1
  obtain ⟨⟨c0, c1, c2, c3⟩, ⟨c4, c5⟩, ⟨c6, c7, c8⟩⟩ := Q1.out.cells
  go_wp2_with fail
  refine (H2.out _).mono ?_
  rintro e w2 ⟨rfl, b2⟩
  have Q2 := hideC (Q1.out.keep b2)
  have B2 := hideC (bup B1.out b2)
  clear Q1 B1 b2 H2 c0 c1 c2 c3 c4 c5 c6 c7 c8
  by_cases g2 : e2 = 0
  case neg =>
    have hr : R = e2 := by have := HR.out; unfold chkC at this; simp [g2] at this; exact this.symm
    go_wp2_with fail
    go_ret
    exact ⟨(by rw [hr]; first | done | rfl), B2.out⟩
  subst g2
  obtain ⟨⟨c0, c1, c2, c3⟩, ⟨c4, c5⟩, ⟨c6, c7, c8⟩⟩ := Q2.out.cells
  go_wp2_with fail
  refine (H3.out _).mono ?_
  rintro e w3 ⟨rfl, b3⟩
  have Q3 := hideC (Q2.out.keep b3)
  have B3 := hideC (bup B2.out b3)
  clear Q2 B2 b3 H3 c0 c1 c2 c3 c4 c5 c6 c7 c8
  obtain ⟨⟨c0, c1, c2, c3⟩, ⟨c4, c5⟩, ⟨c6, c7, c8⟩⟩ := Q3.out.cells
  by_cases g3 : 0 ≤ cc
  case pos =>
    have hr : R = 32 := by have := HR.out; unfold chkC at this; simp [g3] at this; exact this.symm
    go_wp2_with fail
    go_ret
    exact ⟨(by rw [hr]; first | done | rfl), B3.out⟩
  by_cases g4 : la < 0 ∨ 8 ≤ la ∨ (¬ sd = 0 ∧ ¬ sd = 1)
  · have hr : R = 34 := by have := HR.out; unfold chkC at this; simp only [if_true, not_true_eq_false, if_false] at this; rw [if_neg g3, if_pos g4] at this; exact this.symm
    by_cases k1 : la < 0
    · go_wp2_with fail
      go_ret
      exact ⟨(by rw [hr]; first | done | rfl), B3.out⟩
    by_cases k2 : 8 ≤ la
    · go_wp2_with fail
      go_ret
      exact ⟨(by rw [hr]; first | done | rfl), B3.out⟩
    have k3 : ¬ sd = 0 := by omega
    have k4 : ¬ sd = 1 := by omega
    have k5 : (sd != 0) = true := by simpa using k3
    have k6 : (sd != 1) = true := by simpa using k4
    go_wp2_with fail
    go_ret
    exact ⟨(by rw [hr]; first | done | rfl), B3.out⟩
  have hr : R = if nb = true then et else 25 := by have := HR.out; unfold chkC at this; simp only [if_true, not_true_eq_false, if_false] at this; rw [if_neg g3, if_neg g4] at this; exact this.symm
  have k1 : ¬ la < 0 := by omega
  have k2 : ¬ 8 ≤ la := by omega
  by_cases k3 : sd = 0
  · subst k3
    go_wp2_with fail
    refine (H4.out _).mono ?_
    rintro e w4 ⟨rfl, rfl⟩
    cases nb with
    | false =>
      go_wp2_with fail
      go_ret
      exact ⟨(by rw [hr]; first | done | rfl), B3.out⟩
    | true =>
      go_wp2_with fail
      refine (H5.out _ B3.out).mono ?_
      rintro e w5 ⟨rfl, b5⟩
      go_wp2_with fail
      go_ret
      exact ⟨(by rw [hr]; first | done | rfl), bup B3.out b5⟩
  · have k4 : sd = 1 := by omega
    subst k4
    go_wp2_with fail
    refine (H4.out _).mono ?_
    rintro e w4 ⟨rfl, rfl⟩
    cases nb with
    | false =>
      go_wp2_with fail
      go_ret
      exact ⟨(by rw [hr]; first | done | rfl), B3.out⟩
    | true =>
      go_wp2_with fail
      refine (H5.out _ B3.out).mono ?_
      rintro e w5 ⟨rfl, b5⟩
      go_wp2_with fail
      go_ret
      exact ⟨(by rw [hr]; first | done | rfl), bup B3.out b5⟩

set_option maxRecDepth 100000 in
set_option maxHeartbeats 400000 in
theorem rcompare_walk (x y : Cu) (p q r : Int) (hr : (if p = 0 then q else p) = r) (w : World)
    (H1 : ∀ W, Calls Tryz.prog 31 #[.agg #[.int .i64 x.a, .int .i64 x.b], .agg #[.int .i64 y.a, .int .i64 y.b]] W fun e w' => e = .returned (.int .i64 p) ∧ Below W.heap.size W w')
    (H2 : ∀ W, Calls Tryz.prog 31 #[.agg #[.int .i64 x.c, .int .i64 x.d], .agg #[.int .i64 y.c, .int .i64 y.d]] W fun e w' => e = .returned (.int .i64 q) ∧ Below W.heap.size W w') :
    Calls Tryz.prog 15 #[.agg x.cells, .agg y.cells] w fun e w' => e = .returned (.int .i64 r) ∧ Below w.heap.size w w' := by
  have HR := hideC hr
  clear hr
  replace H1 := hideC H1
  replace H2 := hideC H2
  unfold Cu.cells
  cases x with | mk a b c d la sd nm s o n k => ?_
  cases y with | mk a2 b2 c2 d2 la2 sd2 nm2 s2 o2 n2 k2' => ?_
  simp only at *
  go_enter Tryz.func15, Tryz.ntmps15
  go_wp2_with fail
  have QX : CueC (w.alloc (.cells #[.int .i64 a, .int .i64 b, .int .i64 c, .int .i64 d, .int .i64 la, .int .i64 sd, .string nm, .string s, .slice o n k] 28)) w.heap.size a b c d la sd nm s (.slice o n k) := World.alloc_heap_new w _
  have QY : CueC ((w.alloc (.cells #[.int .i64 a, .int .i64 b, .int .i64 c, .int .i64 d, .int .i64 la, .int .i64 sd, .string nm, .string s, .slice o n k] 28)).alloc (.cells #[.int .i64 a2, .int .i64 b2, .int .i64 c2, .int .i64 d2, .int .i64 la2, .int .i64 sd2, .string nm2, .string s2, .slice o2 n2 k2'] 28)) (w.heap.size + 1) a2 b2 c2 d2 la2 sd2 nm2 s2 (.slice o2 n2 k2') := by
    have h := World.alloc_heap_new (w.alloc (.cells #[.int .i64 a, .int .i64 b, .int .i64 c, .int .i64 d, .int .i64 la, .int .i64 sd, .string nm, .string s, .slice o n k] 28)) (.cells #[.int .i64 a2, .int .i64 b2, .int .i64 c2, .int .i64 d2, .int .i64 la2, .int .i64 sd2, .string nm2, .string s2, .slice o2 n2 k2'] 28)
    rw [World.size_alloc] at h
    exact h
  replace QX := QX.keep (bel1 _ (.cells #[.int .i64 a2, .int .i64 b2, .int .i64 c2, .int .i64 d2, .int .i64 la2, .int .i64 sd2, .string nm2, .string s2, .slice o2 n2 k2'] 28))
  have B0 : Below w.heap.size w ((w.alloc (.cells #[.int .i64 a, .int .i64 b, .int .i64 c, .int .i64 d, .int .i64 la, .int .i64 sd, .string nm, .string s, .slice o n k] 28)).alloc (.cells #[.int .i64 a2, .int .i64 b2, .int .i64 c2, .int .i64 d2, .int .i64 la2, .int .i64 sd2, .string nm2, .string s2, .slice o2 n2 k2'] 28)) := ((Below.refl _ w).alloc (Nat.le_refl _) _).alloc (by simp) _
  generalize (w.alloc (.cells #[.int .i64 a, .int .i64 b, .int .i64 c, .int .i64 d, .int .i64 la, .int .i64 sd, .string nm, .string s, .slice o n k] 28)).alloc (.cells #[.int .i64 a2, .int .i64 b2, .int .i64 c2, .int .i64 d2, .int .i64 la2, .int .i64 sd2, .string nm2, .string s2, .slice o2 n2 k2'] 28) = V at *
  refine (H1.out _).mono ?_
  rintro e w1 ⟨rfl, b1⟩
  have B1 := hideC (bup B0 b1)
  have ⟨⟨c0, c1, c2', c3⟩, _⟩ := (QX.keep b1).cells
  have ⟨⟨d0, d1, d2', d3⟩, _⟩ := (QY.keep b1).cells
  by_cases g : p = 0
  · subst g
    have hr : r = q := by have := HR.out; rw [if_pos rfl] at this; exact this.symm
    go_wp2_with fail
    refine (H2.out _).mono ?_
    rintro e w2 ⟨rfl, b2⟩
    go_wp2_with fail
    go_ret
    exact ⟨(by rw [hr]; first | done | rfl), bup B1.out b2⟩
  · have hr : r = p := by have := HR.out; rw [if_neg g] at this; exact this.symm
    go_wp2_with fail
    go_ret
    exact ⟨(by rw [hr]; first | done | rfl), B1.out⟩

def docP : Option (Nat × Int) → Int × Int
  | none => (0, 0)
  | some (i, k) => ((i : Int), k)
/-- What lies at the head of the reference's CheckDoc. -/
def RkV (w : World) (oa : Option Addr) (n cap : Nat) (V : World) : Prop := Below w.heap.size w V ∧ V.heap.size = w.heap.size + 1 + 1 ∧ V.cell? ⟨w.heap.size, 0, none⟩ = some (.slice oa n cap) ∧ Two V (w.heap.size + 1) (.int .i64 0) (.int .i64 0)

set_option maxRecDepth 100000 in
set_option maxHeartbeats 2000000 in
theorem rcheckdoc_walk (f : Cu → Int) (L : List Cu) (oa : Option Addr) (cap : Nat) (hc : L.length ≤ cap ∧ cap ≤ maxLen) (w : World) (hR : CuO w oa L)
    (HK : ∀ x ∈ L, ∀ W, Below w.heap.size w W → Calls Tryz.prog 14 #[.agg x.cells] W fun e w' => e = .returned (.int .i64 (f x)) ∧ Below W.heap.size W w')
    (HC : (∀ x ∈ L, f x = 0) → ∀ x ∈ L, ∀ y ∈ L, ∀ W, Calls Tryz.prog 15 #[.agg x.cells, .agg y.cells] W fun e w' => e = .returned (.int .i64 (cmpC x y)) ∧ Below W.heap.size W w') :
    Calls Tryz.prog 7 #[.agg #[.slice oa L.length cap]] w fun e w' => e = .returned (.agg #[.int .i64 (docP (docC f L)).1, .int .i64 (docP (docC f L)).2]) ∧ Below w.heap.size w w' := by
  obtain ⟨N, hN⟩ : ∃ N, L.length = N := ⟨_, rfl⟩
  obtain ⟨R, hRR⟩ : ∃ R, docC f L = R := ⟨_, rfl⟩
  have HN := hideC (And.intro hN hRR)
  rw [hN] at hc
  rw [hN, hRR]
  have hcm : cap ≤ 9223372036854775807 := hc.2
  have HR := hideC hR
  replace HK := hideC HK
  replace HC := hideC HC
  clear hR hN hRR
  go_enter Tryz.func7, Tryz.ntmps7
  by_cases hbig : 4096 < N
  · have d1 : (4096 : Int) < (N : Int) := by omega
    have hr : R = some (0, 2) := by have := HN.out.2; unfold docC at this; rw [HN.out.1, if_pos hbig] at this; exact this.symm
    go_wp2_with fail
    subst hr
    exact bodyPost_ret (v := .agg #[.int .i64 0, .int .i64 2]) (by simp [results, Tryz.results7, go_sem]) rfl ⟨rfl, ((Below.refl _ w).alloc (Nat.le_refl _) _).alloc (by simp) _⟩
  have d1 : ¬ (4096 : Int) < (N : Int) := by omega
  have hr : R = match badC f 0 L with | some p => some p | none => disC 0 L := by have := HN.out.2; unfold docC at this; rw [HN.out.1, if_neg hbig] at this; exact this.symm
  replace HN := hideC (And.intro HN.out.1 hr)
  clear hr
  go_wp2_with fail
  obtain ⟨V, hV⟩ : ∃ V, (w.alloc (.cells #[.slice oa N cap] 32)).alloc (.cells #[.int .i64 0, .int .i64 0] 38) = V := ⟨_, rfl⟩
  have HV : Hid (RkV w oa N cap V) := hideC (by
    rw [← hV]
    refine ⟨((Below.refl _ w).alloc (Nat.le_refl _) _).alloc (by simp) _, by rw [World.size_alloc, World.size_alloc], ?_, ?_, ?_, ?_, ?_, ?_⟩
    · exact (World.cell?_of_block (Below.heap_alloc _ _ _ (by simp))).trans (by simp)
    all_goals simp [World.size_alloc])
  rw [hV]
  clear hV
  go_loopw [3] (fun iv wq => ∃ i : Nat, iv = .int .i64 (i : Nat) ∧ i ≤ N ∧ (badC f 0 L = badC f i (L.drop i) ∧ ∀ j x, j < i → L[j]? = some x → f x = 0) ∧ Below V.heap.size V wq) (fun iv _ => N - (intOf iv).toNat)
  case atStart => exact ⟨0, rfl, Nat.zero_le _, ⟨rfl, fun j x h => by omega⟩, Below.refl _ _⟩
  case round =>
    obtain ⟨i, rfl, hi, hall, hb⟩ := hrel
    obtain ⟨wq, rfl⟩ : ∃ wq, wq = wr := ⟨_, rfl⟩
    have bw := bup HV.out.1 hb
    have cD : wq.cell? ⟨w.heap.size, 0, none⟩ = some (.slice oa N cap) := (hb.cell (p := ⟨w.heap.size, 0, none⟩) (by show w.heap.size < _; rw [HV.out.2.1]; omega)).trans HV.out.2.2.1
    by_cases hlt : i < N
    · obtain ⟨x, hx⟩ : ∃ x, L[i]? = some x := ⟨_, List.getElem?_eq_getElem (by rw [HN.out.1]; exact hlt)⟩
      obtain ⟨a, rfl, hab, ⟨c0, c1, c2, c3⟩, ⟨c4, c5⟩, ⟨c6, c7, c8⟩⟩ := HR.out.keep bw i x hx
      have d2 : (i : Int) < (N : Int) := by omega
      have wi : IntKind.i64.wrap ((i : Int) + 1) = ((i + 1 : Nat) : Int) := by rw [show ((i + 1 : Nat) : Int) = (i : Int) + 1 by omega]; exact IntWalk.i64_in _ ⟨by omega, by omega⟩
      have HF := hideC (HK.out x (List.mem_of_getElem? hx))
      obtain ⟨g, hg⟩ : ∃ g, f x = g := ⟨_, rfl⟩
      rw [hg] at HF
      have HA := hideC (And.intro (And.intro hall hg) (And.intro hb (And.intro hx bw)))
      clear hall hg hb hx bw
      go_wp2_with fail
      refine (HF.out wq HA.out.2.2.2).mono ?_
      rintro e w5 ⟨rfl, b5⟩
      have H5 := hideC (And.intro (bup HA.out.2.1 b5) (bup HA.out.2.2.2 b5))
      clear b5 c0 c1 c2 c3 c4 c5 c6 c7 c8 cD
      by_cases h0 : g = 0
      · subst h0
        go_wp2_with fail
        go_roundw
        case rel =>
          refine ⟨i + 1, by first | rfl | simp, by omega, ⟨?_, ?_⟩, H5.out.1⟩
          · rw [HA.out.1.1.1, badC_drop f L i x HA.out.2.2.1, if_pos HA.out.1.2]
          · intro j y hj hy
            rcases Nat.lt_succ_iff_lt_or_eq.1 hj with h | rfl
            · exact HA.out.1.1.2 j y h hy
            · rw [HA.out.2.2.1] at hy
              cases hy
              exact HA.out.1.2
        case measure => simp [intOf]; omega
      · have hr : R = some (i, g) := by
          have h1 := HN.out.2
          rw [HA.out.1.1.1, badC_drop f L i x HA.out.2.2.1, if_neg (by rw [HA.out.1.2]; exact h0), HA.out.1.2] at h1
          exact h1
        obtain ⟨_, r0, r1, f0, f1⟩ := HV.out.2.2.2.keep H5.out.1
        go_wp2_with fail
        subst hr
        exact bodyPost_ret (v := .agg #[.int .i64 i, .int .i64 g]) (by simp [results, Tryz.results7, go_sem, r0, r1]) rfl ⟨rfl, (H5.out.2.setCell (by simp) _).setCell (by simp) _⟩
    · have hiN : i = N := by omega
      subst hiN
      have hbn : badC f 0 L = none := by
        rw [hall.1, List.drop_eq_nil_of_le (by rw [HN.out.1]; exact Nat.le_refl _)]
        rfl
      have hr : R = disC 0 L := by have h1 := HN.out.2; rw [hbn] at h1; exact h1
      have hz : ∀ x ∈ L, f x = 0 := fun x hx => by
        obtain ⟨j, hj⟩ := List.getElem?_of_mem hx
        exact hall.2 j x (by have := (List.getElem?_eq_some_iff.1 hj).1; rw [HN.out.1] at this; exact this) hj
      replace HC := hideC (HC.out hz)
      replace HN := hideC (And.intro HN.out.1 hr)
      clear hr hbn hall hlt hi hz HK
      have HB := hideC (And.intro hb bw)
      have HD := hideC (And.intro cD (show w.heap.size < wq.heap.size from Nat.lt_of_lt_of_le (by rw [HV.out.2.1]; omega) hb.size))
      clear hb bw
      go_wp2_with fail
      clear cD
      go_loopw [5] (fun jv wz => ∃ j m : Nat, m = j + 1 ∧ jv = .int .i64 (m : Nat) ∧ (j = 0 ∨ m ≤ i) ∧ disC 0 L = disC j (L.drop j) ∧ Below wq.heap.size wq wz) (fun jv _ => i + 1 - (intOf jv).toNat)
      case atStart => exact ⟨0, 1, rfl, rfl, .inl rfl, rfl, Below.refl _ _⟩
      case round =>
        obtain ⟨j, m, hm, rfl, hj, hdis, hb⟩ := hrel
        obtain ⟨wz, rfl⟩ : ∃ wz, wz = wr := ⟨_, rfl⟩
        have cD : wz.cell? ⟨w.heap.size, 0, none⟩ = some (.slice oa i cap) := (hb.cell (p := ⟨w.heap.size, 0, none⟩) HD.out.2).trans HD.out.1
        have bw := bup HB.out.2 hb
        by_cases hlt : m < i
        · obtain ⟨x, hx⟩ : ∃ x, L[j]? = some x := ⟨_, List.getElem?_eq_getElem (by rw [HN.out.1]; omega)⟩
          obtain ⟨y, hy⟩ : ∃ y, L[m]? = some y := ⟨_, List.getElem?_eq_getElem (by rw [HN.out.1]; omega)⟩
          obtain ⟨a, rfl, hab, ⟨c0, c1, c2, c3⟩, ⟨c4, c5⟩, ⟨c6, c7, c8⟩⟩ := HR.out.keep bw j x hx
          obtain ⟨a2, ha2, -, ⟨k0, k1, k2, k3⟩, ⟨k4, k5⟩, ⟨k6, k7, k8⟩⟩ := HR.out.keep bw m y hy
          obtain rfl : a = a2 := by cases ha2; rfl
          clear ha2
          have d2 : (m : Int) < (i : Int) := by omega
          have w1 : (m : Int) - 1 = (j : Int) := by omega
          have w0 : IntKind.i64.wrap (j : Int) = (j : Int) := IntWalk.i64_in _ ⟨by omega, by omega⟩
          have w2 : IntKind.i64.wrap ((m : Int) + 1) = ((m + 1 : Nat) : Int) := by rw [show ((m + 1 : Nat) : Int) = (m : Int) + 1 by omega]; exact IntWalk.i64_in _ ⟨by omega, by omega⟩
          have d3 : (j : Int) < (i : Int) := by omega
          have HF := hideC (HC.out x (List.mem_of_getElem? hx) y (List.mem_of_getElem? hy))
          obtain ⟨g, hg⟩ : ∃ g, cmpC x y = g := ⟨_, rfl⟩
          rw [hg] at HF
          have HA := hideC (And.intro (And.intro hdis hg) (And.intro hb (And.intro hx (And.intro hy (And.intro bw hm)))))
          clear hdis hg hb hx hy bw hm
          go_wp2_with fail
          unfold Cu.cells at HF
          have HZ := hideC (And.intro (Nat.lt_of_lt_of_le HD.out.2 HA.out.2.1.size) (show ∀ n, (a.add n).block < wz.heap.size from fun n => by rw [addrK_block]; exact hab))
          go_region_held3 (fun w' => w'.cell? ⟨w.heap.size, 0, none⟩ = some (.slice (some a) i cap) ∧ w'.cell? (a.add (j * 9)) = some (.int .i64 x.a) ∧ w'.cell? ⟨(a.add (j * 9)).block, (a.add (j * 9)).off + 1, none⟩ = some (.int .i64 x.b) ∧ w'.cell? ⟨(a.add (j * 9)).block, (a.add (j * 9)).off + 2, none⟩ = some (.int .i64 x.c) ∧ w'.cell? ⟨(a.add (j * 9)).block, (a.add (j * 9)).off + 3, none⟩ = some (.int .i64 x.d) ∧ w'.cell? ⟨(a.add (j * 9)).block, (a.add (j * 9)).off + 4, none⟩ = some (.int .i64 x.la) ∧ w'.cell? ⟨(a.add (j * 9)).block, (a.add (j * 9)).off + 5, none⟩ = some (.int .i64 x.sd) ∧ w'.cell? ⟨(a.add (j * 9)).block, (a.add (j * 9)).off + 6, none⟩ = some (.string x.nm) ∧ w'.cell? ⟨(a.add (j * 9)).block, (a.add (j * 9)).off + 7, none⟩ = some (.string x.s) ∧ w'.cell? ⟨(a.add (j * 9)).block, (a.add (j * 9)).off + 8, none⟩ = some (.slice x.o x.n x.k) ∧ w'.cell? (a.add (m * 9)) = some (.int .i64 y.a) ∧ w'.cell? ⟨(a.add (m * 9)).block, (a.add (m * 9)).off + 1, none⟩ = some (.int .i64 y.b) ∧ w'.cell? ⟨(a.add (m * 9)).block, (a.add (m * 9)).off + 2, none⟩ = some (.int .i64 y.c) ∧ w'.cell? ⟨(a.add (m * 9)).block, (a.add (m * 9)).off + 3, none⟩ = some (.int .i64 y.d) ∧ w'.cell? ⟨(a.add (m * 9)).block, (a.add (m * 9)).off + 4, none⟩ = some (.int .i64 y.la) ∧ w'.cell? ⟨(a.add (m * 9)).block, (a.add (m * 9)).off + 5, none⟩ = some (.int .i64 y.sd) ∧ w'.cell? ⟨(a.add (m * 9)).block, (a.add (m * 9)).off + 6, none⟩ = some (.string y.nm) ∧ w'.cell? ⟨(a.add (m * 9)).block, (a.add (m * 9)).off + 7, none⟩ = some (.string y.s) ∧ w'.cell? ⟨(a.add (m * 9)).block, (a.add (m * 9)).off + 8, none⟩ = some (.slice y.o y.n y.k)) (first | go_keep | assumption | exact k9) (first | (go_at_call 15; (with_reducible refine (HF.out _).mono ?_); rintro e w5 ⟨rfl, b5⟩; have b5 : Below wz.heap.size wz w5 := (by first | exact ⟨b5.os, b5.tape, b5.output, b5.size, b5.block⟩ | exact b5); have k9 : w5.cell? ⟨w.heap.size, 0, none⟩ = some (.slice (some a) i cap) ∧ w5.cell? (a.add (j * 9)) = some (.int .i64 x.a) ∧ w5.cell? ⟨(a.add (j * 9)).block, (a.add (j * 9)).off + 1, none⟩ = some (.int .i64 x.b) ∧ w5.cell? ⟨(a.add (j * 9)).block, (a.add (j * 9)).off + 2, none⟩ = some (.int .i64 x.c) ∧ w5.cell? ⟨(a.add (j * 9)).block, (a.add (j * 9)).off + 3, none⟩ = some (.int .i64 x.d) ∧ w5.cell? ⟨(a.add (j * 9)).block, (a.add (j * 9)).off + 4, none⟩ = some (.int .i64 x.la) ∧ w5.cell? ⟨(a.add (j * 9)).block, (a.add (j * 9)).off + 5, none⟩ = some (.int .i64 x.sd) ∧ w5.cell? ⟨(a.add (j * 9)).block, (a.add (j * 9)).off + 6, none⟩ = some (.string x.nm) ∧ w5.cell? ⟨(a.add (j * 9)).block, (a.add (j * 9)).off + 7, none⟩ = some (.string x.s) ∧ w5.cell? ⟨(a.add (j * 9)).block, (a.add (j * 9)).off + 8, none⟩ = some (.slice x.o x.n x.k) ∧ w5.cell? (a.add (m * 9)) = some (.int .i64 y.a) ∧ w5.cell? ⟨(a.add (m * 9)).block, (a.add (m * 9)).off + 1, none⟩ = some (.int .i64 y.b) ∧ w5.cell? ⟨(a.add (m * 9)).block, (a.add (m * 9)).off + 2, none⟩ = some (.int .i64 y.c) ∧ w5.cell? ⟨(a.add (m * 9)).block, (a.add (m * 9)).off + 3, none⟩ = some (.int .i64 y.d) ∧ w5.cell? ⟨(a.add (m * 9)).block, (a.add (m * 9)).off + 4, none⟩ = some (.int .i64 y.la) ∧ w5.cell? ⟨(a.add (m * 9)).block, (a.add (m * 9)).off + 5, none⟩ = some (.int .i64 y.sd) ∧ w5.cell? ⟨(a.add (m * 9)).block, (a.add (m * 9)).off + 6, none⟩ = some (.string y.nm) ∧ w5.cell? ⟨(a.add (m * 9)).block, (a.add (m * 9)).off + 7, none⟩ = some (.string y.s) ∧ w5.cell? ⟨(a.add (m * 9)).block, (a.add (m * 9)).off + 8, none⟩ = some (.slice y.o y.n y.k) := ⟨(b5.cell (p := ⟨w.heap.size, 0, none⟩) HZ.out.1).trans cD, (b5.cell (p := a.add (j * 9)) (HZ.out.2 _)).trans c0, (b5.cell (p := ⟨(a.add (j * 9)).block, (a.add (j * 9)).off + 1, none⟩) (HZ.out.2 _)).trans c1, (b5.cell (p := ⟨(a.add (j * 9)).block, (a.add (j * 9)).off + 2, none⟩) (HZ.out.2 _)).trans c2, (b5.cell (p := ⟨(a.add (j * 9)).block, (a.add (j * 9)).off + 3, none⟩) (HZ.out.2 _)).trans c3, (b5.cell (p := ⟨(a.add (j * 9)).block, (a.add (j * 9)).off + 4, none⟩) (HZ.out.2 _)).trans c4, (b5.cell (p := ⟨(a.add (j * 9)).block, (a.add (j * 9)).off + 5, none⟩) (HZ.out.2 _)).trans c5, (b5.cell (p := ⟨(a.add (j * 9)).block, (a.add (j * 9)).off + 6, none⟩) (HZ.out.2 _)).trans c6, (b5.cell (p := ⟨(a.add (j * 9)).block, (a.add (j * 9)).off + 7, none⟩) (HZ.out.2 _)).trans c7, (b5.cell (p := ⟨(a.add (j * 9)).block, (a.add (j * 9)).off + 8, none⟩) (HZ.out.2 _)).trans c8, (b5.cell (p := a.add (m * 9)) (HZ.out.2 _)).trans k0, (b5.cell (p := ⟨(a.add (m * 9)).block, (a.add (m * 9)).off + 1, none⟩) (HZ.out.2 _)).trans k1, (b5.cell (p := ⟨(a.add (m * 9)).block, (a.add (m * 9)).off + 2, none⟩) (HZ.out.2 _)).trans k2, (b5.cell (p := ⟨(a.add (m * 9)).block, (a.add (m * 9)).off + 3, none⟩) (HZ.out.2 _)).trans k3, (b5.cell (p := ⟨(a.add (m * 9)).block, (a.add (m * 9)).off + 4, none⟩) (HZ.out.2 _)).trans k4, (b5.cell (p := ⟨(a.add (m * 9)).block, (a.add (m * 9)).off + 5, none⟩) (HZ.out.2 _)).trans k5, (b5.cell (p := ⟨(a.add (m * 9)).block, (a.add (m * 9)).off + 6, none⟩) (HZ.out.2 _)).trans k6, (b5.cell (p := ⟨(a.add (m * 9)).block, (a.add (m * 9)).off + 7, none⟩) (HZ.out.2 _)).trans k7, (b5.cell (p := ⟨(a.add (m * 9)).block, (a.add (m * 9)).off + 8, none⟩) (HZ.out.2 _)).trans k8⟩; have H5 := hideC b5; clear b5))
          clear c0 c1 c2 c3 c4 c5 c6 c7 c8 k0 k1 k2 k3 k4 k5 k6 k7 k8 k9 cD HF
          have H9 := hideC (And.intro (bup HA.out.2.2.2.2.1 H5.out) (bup HA.out.2.1 H5.out))
          by_cases h0 : 0 < g
          · have hr : R = some (m, 33) := by
              have h1 := HN.out.2
              have hm := HA.out.2.2.2.2.2
              rw [HA.out.1.1, disC_drop L j x y HA.out.2.2.1 (by rw [← hm]; exact HA.out.2.2.2.1), if_pos (by rw [HA.out.1.2]; exact h0), ← hm] at h1
              exact h1
            obtain ⟨_, r0, r1, f0, f1⟩ := HV.out.2.2.2.keep (bup HB.out.1 H9.out.2)
            go_wp2_with fail
            subst hr
            exact bodyPost_ret (v := .agg #[.int .i64 m, .int .i64 33]) (by simp [results, Tryz.results7, go_sem, r0, r1]) rfl ⟨rfl, (H9.out.1.setCell (by simp) _).setCell (by simp) _⟩
          · have d9 : ¬ (0 : Int) < g := h0
            go_wp2_with fail
            go_roundw
            case rel =>
              refine ⟨j + 1, m + 1, by rw [HA.out.2.2.2.2.2], by first | rfl | simp, .inr (by omega), ?_, H9.out.2⟩
              have hm := HA.out.2.2.2.2.2
              rw [HA.out.1.1, disC_drop L j x y HA.out.2.2.1 (by rw [← hm]; exact HA.out.2.2.2.1), if_neg (by rw [HA.out.1.2]; exact h0)]
            case measure => simp [intOf]; omega
        · have d2 : ¬ (m : Int) < (i : Int) := by omega
          have hr : R = none := by rw [HN.out.2, hdis]; exact disC_end L j (by rw [HN.out.1]; omega)
          have H9 := hideC bw
          obtain ⟨_, r0, r1, f0, f1⟩ := HV.out.2.2.2.keep (bup HB.out.1 hb)
          clear bw hdis hb
          go_wp2_with fail
          subst hr
          exact bodyPost_ret (v := .agg #[.int .i64 0, .int .i64 0]) (by simp [results, Tryz.results7, go_sem, r0, r1]) rfl ⟨rfl, (H9.out.setCell (by simp) _).setCell (by simp) _⟩

end Go.Proofs.YtdikfcnbkckinaaGreatDoor
