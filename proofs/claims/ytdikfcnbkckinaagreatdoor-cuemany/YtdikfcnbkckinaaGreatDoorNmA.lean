/- mark.isName, mark.Name (of the dialect that refuses no name), cue.checkName at every name; cue.Check, cue.CheckDoc at every cue, every document. -/
import Derived.Test.YtdikfcnbkckinaaGreatDoorRkA
import Derived.Test.YtdikfcnbkckinaaGreatDoorCloneW
import Derived.Test.YtdikfcnbkckinaaGreatDoorGS
import Derived.Test.YtdikfcnbkckinaaGreatDoorSmB
namespace Go.Proofs.YtdikfcnbkckinaaGreatDoor
open Go.RowKit Go.Shelf

theorem dec_cont (s : ByteArray) (p : Nat) (h : 128 ≤ (s.get! p).toNat) (k : Nat) (hk : k < (Utf8.decode s p).2) : 128 ≤ (s.get! (p + k)).toNat := by
  by_cases k0 : k = 0
  · subst k0; exact h
  unfold Utf8.decode at hk
  simp only [Nat.add_zero] at hk
  split at hk
  · omega
  split at hk
  · rename_i h1
    simp at h1
    split at hk
    · obtain rfl : k = 1 := by simp at hk; omega
      omega
    · simp at hk; omega
  split at hk
  · rename_i h1
    simp at h1
    split at hk
    · obtain rfl | rfl : k = 1 ∨ k = 2 := by simp at hk; omega
      · omega
      · omega
    · simp at hk; omega
  split at hk
  · rename_i h1
    simp at h1
    split at hk
    · obtain rfl | rfl | rfl : k = 1 ∨ k = 2 ∨ k = 3 := by simp at hk; omega
      · omega
      · omega
      · omega
    · simp at hk; omega
  · simp at hk; omega
/-- The bytes up to a place are no controls. -/
def okTo (s : ByteArray) (p : Nat) : Prop := ∀ k, k < p → k < s.size → 32 ≤ (s.get! k).toNat
theorem get_at (s : ByteArray) (p : Nat) (h : p < s.size) : s.get! p = s[p] := by
  show s.data[p]! = s.data[p]
  exact getElem!_pos s.data p h
theorem okTo_all (s : ByteArray) : okTo s s.size ↔ noCtl s = true := by
  unfold noCtl
  rw [List.all_eq_true]
  constructor
  · intro h b hb
    obtain ⟨k, hk, e⟩ := List.getElem_of_mem hb
    have hk2 : k < s.size := by simpa using hk
    have := h k hk2 hk2
    rw [get_at s k hk2] at this
    have e2 : s[k] = b := by rw [← e]; rfl
    rw [e2] at this
    simpa using this
  · intro h k hk hk2
    have := h s[k] (by show s.data[k] ∈ s.data.toList; exact Array.mem_toList_iff.2 (Array.getElem_mem hk2))
    rw [get_at s k hk2]
    simpa using this
theorem okTo_step (s : ByteArray) (p : Nat) (hp : p < s.size) (h : okTo s p) (hr : ¬ ((Utf8.decode s p).1 : Int) < 32) : okTo s (p + (Utf8.decode s p).2) := by
  intro k hk hk2
  by_cases h1 : k < p
  · exact h k h1 hk2
  by_cases hb : 128 ≤ (s.get! p).toNat
  · have := dec_cont s p hb (k - p) (by omega)
    rw [show p + (k - p) = k by omega] at this
    omega
  · have hd : Utf8.decode s p = ((s.get! p).toNat, 1) := by
      unfold Utf8.decode
      simp only [Nat.add_zero]
      rw [if_pos (by omega)]
    rw [hd] at hr hk
    obtain rfl : k = p := by simp at hk; omega
    simp at hr
    omega
theorem okTo_not (s : ByteArray) (p : Nat) (hp : p < s.size) (hr : ((Utf8.decode s p).1 : Int) < 32) : noCtl s = false := by
  rw [← Bool.not_eq_true, ← okTo_all]
  intro h
  have h1 := h p hp hp
  by_cases hb : (s.get! p).toNat < 128
  · have hd : Utf8.decode s p = ((s.get! p).toNat, 1) := by
      unfold Utf8.decode
      simp only [Nat.add_zero]
      rw [if_pos (by omega)]
    rw [hd] at hr
    simp at hr
    omega
  · have h2 := (decode_high s p hp (by rw [← get_at s p hp]; omega)).1
    omega

set_option maxRecDepth 100000 in
set_option maxHeartbeats 400000 in
theorem isName_any (s : ByteArray) (w : World) : Calls Tryz.prog 63 #[.string s] w fun e w' => e = .returned (.bool (nameB s)) ∧ Below w.heap.size w w' := by
  obtain ⟨R, hR⟩ : ∃ R, nameB s = R := ⟨_, rfl⟩
  rw [hR]
  have HR := hideC hR
  clear hR
  go_enter Tryz.func63, Tryz.ntmps63
  go_wp2
  go_loopw [4] (fun _ w' => ∃ pos : Nat, w' = w.iter s pos ∧ okTo s pos) (fun _ w' => s.size - w'.iterPos w.heap.size)
  case atStart => exact ⟨0, rfl, fun k hk => by omega⟩
  case round =>
    obtain ⟨pos, rfl, ho⟩ := hrel
    have HO := hideC ho
    clear ho
    by_cases hp : pos < s.size
    · have hnx : ∀ ty, (Instr.next (.pointer (some ⟨w.heap.size, 0, none⟩)) true ty).run Tryz.prog (w.iter s pos) = _ := fun ty => run_next_any w s pos ty hp
      by_cases hr : ((Utf8.decode s pos).1 : Int) < 32
      · have hf : R = false := by have := HR.out; unfold nameB at this; rw [okTo_not s pos hp hr] at this; simpa using this.symm
        go_wp2
        go_ret
        exact ⟨by first | (rw [hf]; rfl) | rfl, (Below.refl _ w).alloc (Nat.le_refl _) _⟩
      · go_wp2
        have hwd := Lib.decode_width_pos s pos hp
        go_roundw
        case rel => exact ⟨pos + (Utf8.decode s pos).2, rfl, okTo_step s pos hp HO.out hr⟩
        case measure =>
          simp
          omega
    · have hnx : ∀ ty, (Instr.next (.pointer (some ⟨w.heap.size, 0, none⟩)) true ty).run Tryz.prog (w.iter s pos) = _ := fun ty => run_next_end w s pos ty hp
      have hf : R = decide ((s.size : Int) ≤ 64) := by
        have h1 : noCtl s = true := (okTo_all s).1 fun k hk _ => HO.out k (by omega) hk
        have := HR.out
        unfold nameB at this
        rw [h1, Bool.and_true] at this
        rw [← this]
        congr 1
        exact propext ⟨fun h => by omega, fun h => by omega⟩
      go_wp2
      go_ret
      exact ⟨by first | (rw [hf]; rfl) | rfl, (Below.refl _ w).alloc (Nat.le_refl _) _⟩

set_option maxRecDepth 100000 in
set_option maxHeartbeats 400000 in
theorem name2_any (s : ByteArray) (w : World) : Calls Tryz.prog 37 #[.int .i64 2, .string s] w fun e w' => (∃ u, e = .returned (.tuple #[.string u, .bool false, .int .i64 (if nameB s = true then 0 else 25)])) ∧ Below w.heap.size w w' := by
  have HN := hideC (fun W => isName_any s W)
  have HC := hideC (fun (h : nameB s = true) (W : World) => clone_any s W (by unfold nameB at h; simp at h; omega))
  obtain ⟨nb, hnb⟩ : ∃ nb, nameB s = nb := ⟨_, rfl⟩
  rw [hnb] at HN HC ⊢
  clear hnb
  go_enter Tryz.func37, Tryz.ntmps37
  go_wp2_with (go_at_call 62; refine (isDialect_voice _).mono ?_; rintro e w1 ⟨rfl, rfl⟩)
  refine (HN.out _).mono ?_
  rintro e w2 ⟨rfl, b2⟩
  cases nb with
  | false =>
    go_wp2_with fail
    go_ret3
    exact ⟨⟨_, rfl⟩, b2⟩
  | true =>
    cases hz : s.toList.isEmpty with
    | true =>
      go_wp2_with fail
      refine (HC.out (by first | trivial | rfl) _).mono ?_
      rintro e w3 ⟨rfl, b3⟩
      go_wp2_with fail
      go_ret3
      exact ⟨⟨_, rfl⟩, bup b2 b3⟩
    | false =>
      go_wp2_with fail
      refine (HC.out (by first | trivial | rfl) _).mono ?_
      rintro e w3 ⟨rfl, b3⟩
      go_wp2_with fail
      go_ret3
      exact ⟨⟨_, rfl⟩, bup b2 b3⟩
set_option maxRecDepth 100000 in
theorem checkName_any (s : ByteArray) (w : World) : Calls Tryz.prog 19 #[.string s] w fun e w' => e = .returned (.int .i64 (if nameB s = true then 0 else 25)) ∧ Below w.heap.size w w' := by
  have H := hideC (name2_any s)
  generalize (if nameB s = true then (0 : Int) else 25) = en at *
  go_enter Tryz.func19, Tryz.ntmps19
  go_wp2_with fail
  refine (H.out _).mono ?_
  rintro e w1 ⟨⟨u, rfl⟩, b1⟩
  go_wp2_with fail
  go_ret
  exact ⟨rfl, b1⟩

/-- What Check tells of a cue, its text's spans given. -/
def chkF (sp : Cu → List Sp) (x : Cu) : Int := chkC (if timeA ⟨x.a, x.b⟩ = 0 then timeA ⟨x.c, x.d⟩ else timeA ⟨x.a, x.b⟩) (cmpI ⟨x.a, x.b⟩ ⟨x.c, x.d⟩) x.la x.sd (if nameB x.nm = true then chkT x.s (sp x) else 25)
/-- Cues whose parts lie in memory as they should. -/
def CuP (w : World) (sp : Cu → List Sp) (x : Cu) : Prop := RtIn ⟨x.a, x.b⟩ ∧ RtIn ⟨x.c, x.d⟩ ∧ x.s.size ≤ 140737488355328 ∧ (sp x).length = x.n ∧ (x.n ≤ x.k ∧ x.k ≤ maxLen) ∧ (x.o = none → sp x = [] ∧ x.k = 0) ∧ SpO w x.o (sp x)
theorem CuP.keep {w w' : World} {sp : Cu → List Sp} {x : Cu} (h : CuP w sp x) (b : Below w.heap.size w w') : CuP w' sp x := ⟨h.1, h.2.1, h.2.2.1, h.2.2.2.1, h.2.2.2.2.1, h.2.2.2.2.2.1, h.2.2.2.2.2.2.keep b⟩

theorem cuecheck_any (sp : Cu → List Sp) (x : Cu) (w : World) (h : CuP w sp x) : Calls Tryz.prog 9 #[.agg x.cells] w fun e w' => e = .returned (.int .i64 (chkF sp x)) ∧ Below w.heap.size w w' := by
  obtain ⟨h1, h2, h4, h5, h6, h7, h8⟩ := h
  have q := cuecheck_walk x.a x.b x.c x.d x.la x.sd x.nm x.s (.slice x.o x.n x.k) (timeA ⟨x.a, x.b⟩) (timeA ⟨x.c, x.d⟩) _ (cmpI ⟨x.a, x.b⟩ ⟨x.c, x.d⟩) (if nameB x.nm = true then 0 else 25) (chkT x.s (sp x)) (if nameB x.nm = true then chkT x.s (sp x) else 25) rfl (by cases nameB x.nm <;> simp) w
    (fun W => time_any ⟨x.a, x.b⟩ h1 W) (fun W => time_any ⟨x.c, x.d⟩ h2 W) (fun W => cmp_any ⟨x.a, x.b⟩ ⟨x.c, x.d⟩ h1 h2 W) (fun W => checkName_any x.nm W)
    (fun W b => by have := check7_any x.s (sp x) x.o x.k h4 (by rw [h5]; exact h6) h7 W (h8.keep b); rw [h5] at this; exact this)
  exact q
theorem rcuecheck_any (sp : Cu → List Sp) (x : Cu) (w : World) (h : CuP w sp x) : Calls Tryz.prog 14 #[.agg x.cells] w fun e w' => e = .returned (.int .i64 (chkF sp x)) ∧ Below w.heap.size w w' := by
  obtain ⟨h1, h2, h4, h5, h6, h7, h8⟩ := h
  exact rcuecheck_walk x.a x.b x.c x.d x.la x.sd x.nm x.s (.slice x.o x.n x.k) (timeA ⟨x.a, x.b⟩) (timeA ⟨x.c, x.d⟩) (cmpI ⟨x.a, x.b⟩ ⟨x.c, x.d⟩) (chkT x.s (sp x)) w
    (fun W => rtime_any ⟨x.a, x.b⟩ h1 W) (fun W => rtime_any ⟨x.c, x.d⟩ h2 W) (fun W => rcmp_any ⟨x.a, x.b⟩ ⟨x.c, x.d⟩ h1 h2 W)
    (fun W b => by have := rcheck_any x.s (sp x) x.o x.k W (h8.keep b); rw [h5] at this; exact this)
theorem checkdoc_any (sp : Cu → List Sp) (L : List Cu) (oa : Option Addr) (cap : Nat) (hc : L.length ≤ cap ∧ cap ≤ maxLen) (w : World) (hR : CuO w oa L) (hP : ∀ x ∈ L, CuP w sp x) :
    Calls Tryz.prog 6 #[.agg #[.slice oa L.length cap]] w fun e w' => ∃ v, e = .returned v ∧ WrV w' w.heap.size (docC (chkF sp) L) v ∧ Below w.heap.size w w' :=
  checkdoc_walk (chkF sp) L oa cap hc w hR (fun x hx W b => cuecheck_any sp x W ((hP x hx).keep b)) (fun _ x hx y hy W => compare_walk x y (cmpI ⟨x.a, x.b⟩ ⟨y.a, y.b⟩) (cmpI ⟨x.c, x.d⟩ ⟨y.c, y.d⟩) _ rfl W (fun U => cmp_any ⟨x.a, x.b⟩ ⟨y.a, y.b⟩ (hP x hx).1 (hP y hy).1 U) (fun U => cmp_any ⟨x.c, x.d⟩ ⟨y.c, y.d⟩ (hP x hx).2.1 (hP y hy).2.1 U))
theorem rcheckdoc_any (sp : Cu → List Sp) (L : List Cu) (oa : Option Addr) (cap : Nat) (hc : L.length ≤ cap ∧ cap ≤ maxLen) (w : World) (hR : CuO w oa L) (hP : ∀ x ∈ L, CuP w sp x) :
    Calls Tryz.prog 7 #[.agg #[.slice oa L.length cap]] w fun e w' => e = .returned (.agg #[.int .i64 (docP (docC (chkF sp) L)).1, .int .i64 (docP (docC (chkF sp) L)).2]) ∧ Below w.heap.size w w' :=
  rcheckdoc_walk (chkF sp) L oa cap hc w hR (fun x hx W b => rcuecheck_any sp x W ((hP x hx).keep b)) (fun _ x hx y hy W => rcompare_walk x y (cmpI ⟨x.a, x.b⟩ ⟨y.a, y.b⟩) (cmpI ⟨x.c, x.d⟩ ⟨y.c, y.d⟩) _ rfl W (fun U => rcmp_any ⟨x.a, x.b⟩ ⟨y.a, y.b⟩ (hP x hx).1 (hP y hy).1 U) (fun U => rcmp_any ⟨x.c, x.d⟩ ⟨y.c, y.d⟩ (hP x hx).2.1 (hP y hy).2.1 U))

end Go.Proofs.YtdikfcnbkckinaaGreatDoor
