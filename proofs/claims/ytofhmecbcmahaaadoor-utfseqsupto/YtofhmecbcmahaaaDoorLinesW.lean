/- The contract of the sequence that utf.Lines tells: it goes over the lines of its file, in their order, and stops where a round says so. -/
import Derived.Test.YtofhmecbcmahaaaDoorW2
import Derived.Test.YtofhmecbcmahaaaDoorCloneW
namespace Go.Proofs.YtofhmecbcmahaaaDoor
open Go.RowKit Go.Shelf
attribute [local go_sem] Oper.semAt_some

/-- Where the line that begins at p ends (searched for through so many bytes). -/
def leF (s : ByteArray) : Nat → Nat → Nat
  | 0, p => p
  | f + 1, p => if (s.get! p).toNat = 10 ∨ (s.get! p).toNat = 13 then p else leF s f (p + 1)
def lineE (s : ByteArray) (p : Nat) : Nat := leF s (s.size - p) p
theorem leF_spec (s : ByteArray) : ∀ f p, p + f = s.size → p ≤ leF s f p ∧ leF s f p ≤ s.size ∧ (∀ j, p ≤ j → j < leF s f p → (s.get! j).toNat ≠ 10 ∧ (s.get! j).toNat ≠ 13) ∧ (leF s f p < s.size → (s.get! (leF s f p)).toNat = 10 ∨ (s.get! (leF s f p)).toNat = 13)
  | 0, p, h => ⟨Nat.le_refl _, by simp [leF]; omega, fun j h1 h2 => by simp [leF] at h2; omega, fun h3 => by simp [leF] at h3; omega⟩
  | f + 1, p, h => by
    unfold leF
    split
    · rename_i hp
      exact ⟨Nat.le_refl _, by omega, fun j h1 h2 => by omega, fun _ => hp⟩
    · rename_i hp
      obtain ⟨h1, h2, h3, h4⟩ := leF_spec s f (p + 1) (by omega)
      refine ⟨by omega, h2, fun j h5 h6 => ?_, h4⟩
      by_cases e : j = p
      · subst e; omega
      · exact h3 j (by omega) h6
def crlf : ByteArray := ⟨#[13, 10]⟩
def endL (s : ByteArray) : Int := if isPre crlf s = true then 2 else min (s.size : Int) 1
theorem endL_bd (s : ByteArray) : 0 ≤ endL s ∧ endL s ≤ 2 ∧ (0 < s.size → 1 ≤ endL s) ∧ endL s ≤ s.size := by
  unfold endL
  split
  · rename_i h
    have : crlf.size ≤ s.size := by unfold isPre at h; simp at h; exact h.1
    have h2 : crlf.size = 2 := rfl
    omega
  · omega

set_option maxRecDepth 100000 in
set_option maxHeartbeats 400000 in
theorem lineEnd_any (s : ByteArray) (p : Nat) (w : World) (_hs : s.size ≤ 140737488355328) (hp : p ≤ s.size) : Calls Tryd.prog 71 #[.string s, .int .i64 p] w fun e w' => e = .returned (.int .i64 (lineE s p)) ∧ w' = w := by
  go_enter Tryd.func71, Tryd.ntmps71
  go_wp2
  go_loop [1] (fun i => ∃ k : Nat, k ≤ s.size ∧ i = .int .i64 k ∧ lineE s p = lineE s k) (fun i => s.size - (intOf i).toNat)
  case atStart => exact ⟨p, hp, rfl, rfl⟩
  case round =>
    obtain ⟨k, hk, rfl, he⟩ := hrel
    have HE : Hid (lineE s p = lineE s k) := he
    clear he
    by_cases hlt : k < s.size
    · have hg : s.get! k = s[k] := get_at s k hlt
      have hstep : lineE s k = if s[k].toNat = 10 ∨ s[k].toNat = 13 then k else lineE s (k + 1) := by
        unfold lineE
        rw [show s.size - k = (s.size - (k + 1)) + 1 by omega, leF, hg]
      have HS : Hid (lineE s k = if s[k].toNat = 10 ∨ s[k].toNat = 13 then k else lineE s (k + 1)) := hstep
      clear hg hstep
      by_cases h1 : s[k].toNat = 10
      · have t1 : ((s[k].toNat : Int) != 10) = false := by rw [bne_eq_false_iff_eq]; omega
        have FIN : Hid (lineE s p = k) := by show lineE s p = k; rw [HE.out, HS.out, if_pos (.inl h1)]
        clear h1
        go_wp2
        go_ret
        exact ⟨by rw [FIN.out]; rfl, rfl⟩
      · have t1 : ((s[k].toNat : Int) != 10) = true := by rw [bne_iff_ne]; omega
        by_cases h2 : s[k].toNat = 13
        · have t2 : ((s[k].toNat : Int) != 13) = false := by rw [bne_eq_false_iff_eq]; omega
          have FIN : Hid (lineE s p = k) := by show lineE s p = k; rw [HE.out, HS.out, if_pos (.inr h2)]
          clear h1 h2
          go_wp2
          go_ret
          exact ⟨by rw [FIN.out]; rfl, rfl⟩
        · have t2 : ((s[k].toNat : Int) != 13) = true := by rw [bne_iff_ne]; omega
          have FIN : Hid (lineE s p = lineE s (k + 1)) := by show lineE s p = lineE s (k + 1); rw [HE.out, HS.out, if_neg (by omega)]
          clear h1 h2
          go_wp2
          exact ⟨⟨k + 1, by omega, by go_num, FIN.out⟩, by simp [intOf]; omega⟩
    · have FIN : Hid (lineE s p = k) := by show lineE s p = k; rw [HE.out]; unfold lineE; rw [show s.size - k = 0 by omega]; rfl
      go_wp2
      go_ret
      exact ⟨by rw [FIN.out]; rfl, rfl⟩

set_option maxRecDepth 100000 in
set_option maxHeartbeats 400000 in
theorem endLen_any (s : ByteArray) (w : World) : Calls Tryd.prog 72 #[.string s] w fun e w' => e = .returned (.int .i64 (endL s)) ∧ w' = w := by
  cases h : isPre crlf s
  · go_enter Tryd.func72, Tryd.ntmps72
    go_wp2_with (go_at_call 82; refine (hasPre s crlf _).mono ?_; rintro e w' ⟨rfl, rfl⟩)
    go_ret
    exact ⟨by simp [endL, h], rfl⟩
  · go_enter Tryd.func72, Tryd.ntmps72
    go_wp2_with (go_at_call 82; refine (hasPre s crlf _).mono ?_; rintro e w' ⟨rfl, rfl⟩)
    go_ret
    exact ⟨by simp [endL, h], rfl⟩

/-- A line of s: where it begins, where it ends. -/
structure Ln (s : ByteArray) where
  loc : Nat
  fin : Nat
  h0 : loc < s.size
  h1 : loc ≤ fin
  h2 : fin ≤ s.size
  h3 : ∀ j, loc ≤ j → j < fin → (s.get! j).toNat ≠ 10 ∧ (s.get! j).toNat ≠ 13
  h4 : fin < s.size → (s.get! fin).toNat = 10 ∨ (s.get! fin).toNat = 13
def Ln.vals {s : ByteArray} (x : Ln s) : Array Value := #[.int .i64 x.loc, .string (s.extract x.loc x.fin)]
/-- Where the next line begins. -/
def Ln.next {s : ByteArray} (x : Ln s) : Nat := x.fin + (endL (s.extract x.fin s.size)).toNat
theorem Ln.next_lt {s : ByteArray} (x : Ln s) : x.loc < x.next ∧ x.next ≤ s.size := by
  have h0 := x.h0
  have h1 := x.h1
  have h2 := x.h2
  obtain ⟨b1, b2, b3, b4⟩ := endL_bd (s.extract x.fin s.size)
  simp only [ByteArray.size_extract, Nat.min_self] at b3 b4
  unfold Ln.next
  by_cases h : x.fin < s.size
  · have := b3 (by omega)
    omega
  · omega
def lnAt (s : ByteArray) (p : Nat) (hp : p < s.size) : Ln s :=
  have h := leF_spec s (s.size - p) p (by omega)
  ⟨p, lineE s p, hp, h.1, h.2.1, h.2.2.1, h.2.2.2⟩
def linesF (s : ByteArray) : Nat → Nat → List (Ln s)
  | 0, _ => []
  | f + 1, p => if h : p < s.size then lnAt s p h :: linesF s f (lnAt s p h).next else []
def lines (s : ByteArray) : List (Ln s) := linesF s s.size 0
theorem linesF_end (s : ByteArray) (f p : Nat) (h : ¬ p < s.size) : linesF s f p = [] := by cases f <;> simp [linesF, h]

set_option maxRecDepth 100000 in
set_option maxHeartbeats 400000 in
theorem lines_mk (s : ByteArray) (w : World) : Calls Tryd.prog 52 #[.string s] w fun e w' => e = .returned (.func (.func 70) #[] #[.pointer (some ⟨w.heap.size, 0, none⟩)]) ∧ w' = w.alloc (.cells #[.string s] 9) := by
  go_enter Tryd.func52, Tryd.ntmps52
  go_wp2
  go_ret
  exact ⟨rfl, rfl⟩

theorem grown_below {A B : World} (h : Below A.heap.size A B) : A.grownBy B none := ⟨h.os, h.tape, h.output, h.size, fun k hk _ => h.block k hk⟩

set_option maxRecDepth 100000 in
set_option maxHeartbeats 1000000 in
theorem lines1_in (n l bx : Nat) (hn : 1 ≤ n) (s : ByteArray) (hs : s.size ≤ 140737488355328) (J Jx : List (Ln s) → World → Prop) (W : World) (hJ : AbidesFrom W.heap.size J)
    (hY : ∀ pre x W1, J pre W1 → pre.length < (lines s).length → YieldAt Fence.wide (n - 1) Tryd.prog l x.vals W1 fun e W' =>
      (e = .returned (.bool true) ∧ J (pre ++ [x]) W' ∧ Kp bx W1 W') ∨ (e = .returned (.bool false) ∧ Jx (pre ++ [x]) W'))
    (hbx : bx < W.heap.size) (hc : W.cell? ⟨bx, 0, none⟩ = some (.string s)) (h0 : J [] W) :
    CallsIn Fence.wide n Tryd.prog 70 #[.func (.yield l) #[] #[], .pointer (some ⟨bx, 0, none⟩)] W fun e W' => (∃ v, e = .returned v) ∧
      ((∃ ys, ys = lines s ∧ J ys W') ∨ (∃ pre, pre <+: lines s ∧ Jx pre W')) := by
  refine callsIn_of_wp Tryd.func70 rfl trivial ?_ rfl
  simp only [Tryd.ntmps70, List.size_toArray, List.length_cons, List.length_nil, Nat.reduceAdd, Nat.reduceSub, Array.replicate_succ, Array.replicate_zero, List.push_toArray, List.append_toArray, List.nil_append, List.cons_append]
  gi_wp2
  gi_loopw [3, 4] (fun i _ wr => ∃ (pre : List (Ln s)) (pos b : Nat), i = .int .i64 pos ∧ pos ≤ s.size ∧ bx < wr.heap.size ∧ J pre wr ∧ wr.cell? ⟨bx, 0, none⟩ = some (.string s) ∧ pre ++ linesF s b pos = lines s ∧ s.size ≤ pos + b)
    (fun i _ _ => s.size - (intOf i).toNat)
  case atStart => exact ⟨[], 0, s.size, rfl, Nat.zero_le _, hbx, h0, hc, rfl, by omega⟩
  case round =>
    obtain ⟨pre, pos, b, rfl, hpos, hbr, hJs, hbc, hsg, hb⟩ := hrel
    have HS : Hid (pre ++ linesF s b pos = lines s) := hsg
    clear hsg
    by_cases hp : pos < s.size
    · have hln : pre.length < (lines s).length := by
        rw [← HS.out]
        cases b with
        | zero => omega
        | succ b => simp [linesF, hp]
      have hx1 := (lnAt s pos hp).h1
      have hx2 := (lnAt s pos hp).h2
      have hnx := (lnAt s pos hp).next_lt
      have hfin : (lnAt s pos hp).fin = lineE s pos := rfl
      have hloc : (lnAt s pos hp).loc = pos := rfl
      rw [hfin] at hx1 hx2
      rw [hloc] at hx1 hnx
      have hcut : (s.extract pos (lineE s pos)).size ≤ 140737488355328 := by simp only [ByteArray.size_extract]; omega
      clear hfin hloc
      gi_wp2_with (first | (refine ⟨trivial, ?_⟩; gi_at_call 71; refine (callsIn_wide.2 (lineEnd_any s pos _ hs (by omega))).mono ?_; rintro e w' ⟨rfl, rfl⟩) | (refine ⟨trivial, ?_⟩; gi_at_call 60; refine (callsIn_wide.2 (clone_any _ _ hcut)).mono ?_; rintro e w1 ⟨rfl, hB1⟩))
      have hJ1 := hJ _ _ _ none hJs (grown_below hB1) (fun r e => by cases e)
      have hbc1 := (hB1.cell (p := ⟨bx, 0, none⟩) hbr).trans hbc
      have hz1 := hB1.size
      obtain ⟨fn, tmps, assign, body, hy, hR⟩ := hY pre (lnAt s pos hp) _ hJ1 hln
      have hy2 : (Instr.yield l #[.int .i64 pos, .string (s.extract pos (lineE s pos))]).run Tryd.prog w1 = _ := hy
      rw [hy2, Oper.uponIn_round]
      clear hy hy2
      refine ⟨fun _ => hn, ?_⟩
      refine hR.mono ?_
      clear hR
      have HN : Hid ((lineE s pos : Int) + endL (s.extract (lineE s pos) s.size) = ((lnAt s pos hp).next : Nat)) := by
        have := (endL_bd (s.extract (lineE s pos) s.size)).1
        have e : (lnAt s pos hp).next = lineE s pos + (endL (s.extract (lineE s pos) s.size)).toNat := rfl
        show (lineE s pos : Int) + endL (s.extract (lineE s pos) s.size) = ((lnAt s pos hp).next : Nat)
        rw [e]
        omega
      have hbd := endL_bd (s.extract (lineE s pos) s.size)
      have hbd1 := hbd.1
      have hbd2 := hbd.2.1
      clear hbd hbc hJs hB1
      rintro e W3 (⟨rfl, hJ4, hk4⟩ | ⟨rfl, hJx4⟩)
      · have hbc3 := hk4.1.trans hbc1
        have hb3 : bx < W3.heap.size := by
          by_cases h : bx < W3.heap.size
          · exact h
          · simp [World.cell?, Array.getElem?_eq_none (Nat.le_of_not_lt h)] at hbc3
        gi_wp2_with (refine ⟨trivial, ?_⟩; gi_at_call 72; refine (callsIn_wide.2 (endLen_any _ _)).mono ?_; rintro e w' ⟨rfl, rfl⟩)
        go_roundw
        case rel =>
          cases b with
          | zero => omega
          | succ b =>
            refine ⟨pre ++ [lnAt s pos hp], (lnAt s pos hp).next, b, by rw [HN.out], hnx.2, hb3, hJ4, hbc3, ?_, by omega⟩
            have := HS.out
            rw [linesF, dif_pos hp] at this
            simpa using this
        case measure =>
          rw [HN.out]
          simp [intOf]
          omega
      · gi_wp2
        refine bodyPost_ret (results_none rfl _ _ _) rfl ?_
        refine ⟨⟨_, rfl⟩, .inr ⟨_, ?_, hJx4⟩⟩
        cases b with
        | zero => omega
        | succ b =>
          refine ⟨linesF s b (lnAt s pos hp).next, ?_⟩
          have := HS.out
          rw [linesF, dif_pos hp] at this
          simpa using this
    · gi_wp2
      go_end0
      refine ⟨⟨_, rfl⟩, .inl ⟨pre, ?_, hJs⟩⟩
      have := HS.out
      rw [linesF_end s b pos hp] at this
      simpa using this

/-- utf.Lines's sequence over the file in the box bx. -/
theorem lines_stops (n bx : Nat) (hn : 1 ≤ n) (s : ByteArray) (hs : s.size ≤ 140737488355328) (w : World) (hbx : bx < w.heap.size) (hc : w.cell? ⟨bx, 0, none⟩ = some (.string s)) :
    SeqStopsK Fence.wide n Tryd.prog 70 #[.pointer (some ⟨bx, 0, none⟩)] (fun x : Ln s => x.vals) (Kp bx) (fun ys => ys = lines s) (fun pre => pre <+: lines s) (lines s).length w :=
  fun l J Jx W hW hJ _ hY h0 => lines1_in n l bx hn s hs J Jx W hJ hY (by have := hW.size; omega) ((hW.cell (p := ⟨bx, 0, none⟩) hbx).trans hc) h0

end Go.Proofs.YtofhmecbcmahaaaDoor
