/- Why knots make no map: retime's check (chapter 6). -/
import Derived.Test.YtipnefaggpigfaaKnB
namespace Go.Proofs.Ytipnefaggpigfaa
open Go.RowKit Go.Shelf

theorem KnO.get {V : World} {oa : Option Addr} {Q : List Kn} (h : KnO V oa Q) {i : Nat} {x : Kn} (hx : Q[i]? = some x) : ∃ a : Addr, oa = some a ∧ a.block < V.heap.size ∧ V.cell? (a.add (i * 4)) = some (.int .i64 x.i.N) ∧ V.cell? ⟨(a.add (i * 4)).block, (a.add (i * 4)).off + 1, none⟩ = some (.int .i64 x.i.D) ∧ V.cell? ⟨(a.add (i * 4)).block, (a.add (i * 4)).off + 2, none⟩ = some (.int .i64 x.o.N) ∧ V.cell? ⟨(a.add (i * 4)).block, (a.add (i * 4)).off + 3, none⟩ = some (.int .i64 x.o.D) := h i x hx
def rgK (x : Kn) : Bool := rightB x.i && rightB x.o
def rgsK (L : List Kn) : Bool := L.all rgK
theorem rgs_step {Q : List Kn} {i : Nat} {x : Kn} (hx : Q[i]? = some x) : rgsK (Q.drop i) = (rgK x && rgsK (Q.drop (i + 1))) := by
  obtain ⟨h1, e1⟩ := List.getElem?_eq_some_iff.1 hx
  rw [List.drop_eq_getElem_cons h1, e1]
  rfl
set_option maxRecDepth 100000 in
set_option maxHeartbeats 2000000 in
theorem check_walk (Q : List Kn) (oa : Option Addr) (c : Nat) (hc : Q.length ≤ c ∧ c ≤ maxLen) (r1 r2 rg : Bool) (v : Int) (hQ : ∀ x ∈ Q, KnIn x) (hrg : rgsK Q = rg) (w : World) (hO : KnO w oa Q)
    (hv : v = if Q.length = 0 then 1 else if 64 < Q.length then 2 else if rg = false then 12 else if r1 = false then 33 else if r2 = false then 32 else 0)
    (H1 : Q.length ≤ 64 → ∀ W, Below w.heap.size w W → Calls Try.prog 51 #[.slice oa Q.length c, .func (.func 45) #[] #[]] W fun e w' => e = .returned (.bool r1) ∧ Below W.heap.size W w')
    (H2 : Q.length ≤ 64 → ∀ W, Below w.heap.size w W → Calls Try.prog 51 #[.slice oa Q.length c, .func (.func 48) #[] #[]] W fun e w' => e = .returned (.bool r2) ∧ Below W.heap.size W w') :
    Calls Try.prog 19 #[.slice oa Q.length c] w fun e w' => e = .returned (.int .i64 v) ∧ Below w.heap.size w w' := by
  have hmx : maxLen ≤ 9223372036854775807 := by decide
  obtain ⟨n, hn⟩ : ∃ n, Q.length = n := ⟨_, rfl⟩
  have HN := hideK hn
  rw [hn] at hc hv H1 H2 ⊢
  have HQ := hideK hQ
  clear hQ
  have HO := hideK hO
  have HG := hideK hrg
  replace H1 := hideK H1
  replace H2 := hideK H2
  have HV := hideK hv
  clear hn hO hrg hv
  go_enter Try.func19, Try.ntmps19
  by_cases h0 : n = 0
  · obtain rfl : v = 1 := by rw [HV.out, if_pos h0]
    clear HV
    subst h0
    go_wp2_with fail
    go_ret
    exact ⟨rfl, Below.refl _ _⟩
  have d0 : ¬ (n : Int) = 0 := by omega
  by_cases h64 : 64 < n
  · obtain rfl : v = 2 := by rw [HV.out, if_neg h0, if_pos h64]
    clear HV
    have d1 : (64 : Int) < (n : Int) := by omega
    go_wp2_with fail
    go_ret
    exact ⟨rfl, Below.refl _ _⟩
  have d1 : ¬ (64 : Int) < (n : Int) := by omega
  have HV2 : Hid (v = if rg = false then 12 else if r1 = false then 33 else if r2 = false then 32 else 0) := hideK (by rw [HV.out, if_neg h0, if_neg h64])
  clear HV
  go_wp2_with fail
  go_loopw [13] (fun iv wq => ∃ i : Nat, iv = .int .i64 (i : Nat) ∧ i ≤ n ∧ rgsK (Q.drop i) = rg ∧ Below w.heap.size w wq) (fun iv _ => n - (intOf iv).toNat)
  case atStart => exact ⟨0, rfl, Nat.zero_le _, HG.out, Below.refl _ _⟩
  case round =>
    obtain ⟨i, rfl, hi, hs, hb⟩ := hrel
    obtain ⟨wq, rfl⟩ : ∃ wq, wq = wr := ⟨_, rfl⟩
    by_cases hlt : i < n
    · obtain ⟨x, hx⟩ : ∃ x, Q[i]? = some x := ⟨_, List.getElem?_eq_getElem (by rw [HN.out]; omega)⟩
      have st := rgs_step hx
      rw [hs] at st
      obtain ⟨A, rfl, hA, a0, a1, a2, a3⟩ := HO.out.keep hb i x hx
      have di : (i : Int) < (n : Int) := by omega
      have wk : IntKind.i64.wrap ((i : Int) + 1) = ((i + 1 : Nat) : Int) := by rw [show ((i + 1 : Nat) : Int) = (i : Int) + 1 by omega]; exact IntWalk.i64_in _ ⟨by omega, by omega⟩
      have ST := hideK st
      have HBe := hideK hb
      have HI := hideK (show ∀ W : World, Calls Try.prog 43 #[.agg #[.int .i64 x.i.N, .int .i64 x.i.D]] W fun e w' => e = .returned (.bool (rightB x.i)) ∧ Below W.heap.size W w' from right_any x.i (HQ.out x (List.mem_of_getElem? hx)).1)
      have HJ := hideK (show ∀ W : World, Calls Try.prog 43 #[.agg #[.int .i64 x.o.N, .int .i64 x.o.D]] W fun e w' => e = .returned (.bool (rightB x.o)) ∧ Below W.heap.size W w' from right_any x.o (HQ.out x (List.mem_of_getElem? hx)).2)
      clear st hs hb hx
      unfold rgK at ST
      generalize rightB x.i = b1 at HI ST
      generalize rightB x.o = b2 at HJ ST
      go_wp2_with fail
      obtain ⟨V, hV⟩ : ∃ V, wq.alloc (.cells #[.int .i64 x.i.N, .int .i64 x.i.D, .int .i64 x.o.N, .int .i64 x.o.D] 45) = V := ⟨_, rfl⟩
      have HV : Hid (Below wq.heap.size wq V ∧ V.heap[wq.heap.size]? = some (.cells #[.int .i64 x.i.N, .int .i64 x.i.D, .int .i64 x.o.N, .int .i64 x.o.D] 45)) := hideK (by rw [← hV]; exact ⟨bel1 _ _, World.alloc_heap_new _ _⟩)
      rw [hV]
      clear hV a0 a1 a2 a3
      refine (HI.out V).mono ?_
      rintro e w2 ⟨rfl, c2⟩
      have HW : Hid (Below wq.heap.size wq w2 ∧ w2.heap[wq.heap.size]? = some (.cells #[.int .i64 x.i.N, .int .i64 x.i.D, .int .i64 x.o.N, .int .i64 x.o.D] 45)) := hideK ⟨bup HV.out.1 c2, (c2.block _ (Array.getElem?_eq_some_iff.1 HV.out.2).1).trans HV.out.2⟩
      clear c2 HV
      cases b1 with
      | false =>
        obtain rfl : rg = false := ST.out
        obtain rfl : v = 12 := by rw [HV2.out, if_pos rfl]
        go_wp2_with fail
        go_ret
        exact ⟨rfl, bup HBe.out HW.out.1⟩
      | true =>
        have k2 : w2.cell? ⟨wq.heap.size, 2, none⟩ = some (.int .i64 x.o.N) := by simp [World.cell?, HW.out.2]
        have k3 : w2.cell? ⟨wq.heap.size, 3, none⟩ = some (.int .i64 x.o.D) := by simp [World.cell?, HW.out.2]
        go_wp2_with fail
        refine (HJ.out w2).mono ?_
        rintro e w3 ⟨rfl, c3⟩
        have HX := hideK (bup HW.out.1 c3)
        clear c3 k2 k3 HW
        cases b2 with
        | false =>
          obtain rfl : rg = false := ST.out
          obtain rfl : v = 12 := by rw [HV2.out, if_pos rfl]
          go_wp2_with fail
          go_ret
          exact ⟨rfl, bup HBe.out HX.out⟩
        | true =>
          go_wp2_with fail
          go_roundw
          case rel => exact ⟨i + 1, by first | rfl | simp, by omega, ST.out.symm, bup HBe.out HX.out⟩
          case measure => simp [intOf]; omega
    · have hin : i = n := by omega
      subst hin
      have di : ¬ (i : Int) < (i : Int) := by omega
      obtain rfl : rg = true := by rw [← hs, List.drop_eq_nil_of_le (by rw [HN.out]; exact Nat.le_refl _)]; rfl
      have HBe := hideK hb
      have HV3 : Hid (v = if r1 = false then 33 else if r2 = false then 32 else 0) := hideK (by rw [HV2.out, if_neg (by simp)])
      clear hb hs HV2
      go_wp2_with fail
      refine (H1.out (by omega) wq HBe.out).mono ?_
      rintro e w2 ⟨rfl, c2⟩
      have HW := hideK (bup HBe.out c2)
      clear c2 HBe
      cases r1 with
      | false =>
        obtain rfl : v = 33 := by rw [HV3.out, if_pos rfl]
        go_wp2_with fail
        go_ret
        exact ⟨rfl, HW.out⟩
      | true =>
        go_wp2_with fail
        refine (H2.out (by omega) w2 HW.out).mono ?_
        rintro e w3 ⟨rfl, c3⟩
        have HX := hideK (bup HW.out c3)
        clear c3
        cases r2 with
        | false =>
          obtain rfl : v = 32 := by rw [HV3.out, if_neg (by simp), if_pos rfl]
          go_wp2_with fail
          go_ret
          exact ⟨rfl, HX.out⟩
        | true =>
          obtain rfl : v = 0 := by rw [HV3.out, if_neg (by simp), if_neg (by simp)]
          go_wp2_with fail
          go_ret
          exact ⟨rfl, HX.out⟩
theorem check_any6 (Q : List Kn) (oa : Option Addr) (c : Nat) (hQ : ∀ x ∈ Q, KnIn x) (hc : Q.length ≤ c ∧ c ≤ maxLen) (w : World) (hO : KnO w oa Q) :
    Calls Try.prog 19 #[.slice oa Q.length c] w fun e w' => e = .returned (.int .i64 (chkK Q)) ∧ Below w.heap.size w w' :=
  check_walk Q oa c hc (riseB (·.i) Q) (riseB (·.o) Q) (rgsK Q) (chkK Q) hQ rfl w hO rfl
    (fun h W hb => rising_inOf Q oa c hQ (by omega) W (hO.keep hb)) (fun h W hb => rising_outOf Q oa c hQ (by omega) W (hO.keep hb))
end Go.Proofs.Ytipnefaggpigfaa
