/- lane.isOver, lane.firstFree, (*ends).lane at every row of ends. -/
import Derived.Test.YtpbedjabbehhgaaCkA
import Derived.Deep.RegionHeld3
import Derived.Deep.AppendLies
import Derived.Deep.RegionLaw
namespace Go.Proofs.Ytpbedjabbehhgaa
open Go.RowKit Go.Shelf

set_option maxRecDepth 100000 in
set_option maxHeartbeats 400000 in
theorem isOver_walk (p : Rt) (x : Cu) (q : Int) (w : World)
    (H : ∀ W, Calls Try.prog 23 #[.agg #[.int .i64 p.N, .int .i64 p.D], .agg #[.int .i64 x.a, .int .i64 x.b]] W fun e w' => e = .returned (.int .i64 q) ∧ Below W.heap.size W w') :
    Calls Try.prog 20 #[.agg #[.int .i64 p.N, .int .i64 p.D], .agg x.cells] w fun e w' => e = .returned (.bool (decide (q ≤ 0))) ∧ Below w.heap.size w w' := by
  replace H := hideC H
  unfold Cu.cells
  cases x with | mk a b c d la sd nm s o n k => ?_
  simp only at *
  go_enter Try.func20, Try.ntmps20
  go_wp2_with fail
  refine (H.out _).mono ?_
  rintro e w1 ⟨rfl, b1⟩
  go_wp2_with fail
  go_ret
  refine ⟨by first | rfl | simp, bup (bup (bel1 _ _) (bel1 _ _)) b1⟩

set_option maxRecDepth 100000 in
set_option maxHeartbeats 400000 in
theorem over1_walk (p : Rt) (x : Cu) (q : Int) (C : Nat) (w : World) (hC : CueC w C x.a x.b x.c x.d x.la x.sd x.nm x.s (.slice x.o x.n x.k))
    (H : ∀ W, Calls Try.prog 23 #[.agg #[.int .i64 p.N, .int .i64 p.D], .agg #[.int .i64 x.a, .int .i64 x.b]] W fun e w' => e = .returned (.int .i64 q) ∧ Below W.heap.size W w') :
    Calls Try.prog 19 #[.agg #[.int .i64 p.N, .int .i64 p.D], .pointer (some ⟨C, 0, none⟩)] w fun e w' => e = .returned (.bool (decide (q ≤ 0))) ∧ Below w.heap.size w w' := by
  have HI := hideC (fun W => isOver_walk p x q W H)
  unfold Cu.cells at HI
  clear H
  have hCl := (Array.getElem?_eq_some_iff.1 hC).1
  have ⟨⟨c0, c1, c2, c3⟩, ⟨c4, c5⟩, ⟨c6, c7, c8⟩⟩ := (hC.keep (bel1 w (.cells #[.int .i64 p.N, .int .i64 p.D] 27))).cells
  go_enter Try.func19, Try.ntmps19
  go_wp2_with fail
  refine (HI.out _).mono ?_
  rintro e w1 ⟨rfl, b1⟩
  go_wp2_with fail
  go_ret
  exact ⟨rfl, bup (bel1 _ _) b1⟩

/-- The first end that is over. -/
def freeI (x : Cu) : Nat → List Rt → Option Nat
  | _, [] => none
  | i, p :: t => if cmpI p ⟨x.a, x.b⟩ ≤ 0 then some i else freeI x (i + 1) t
theorem freeI_drop (x : Cu) (E : List Rt) (i : Nat) (p : Rt) (h : E[i]? = some p) : freeI x i (E.drop i) = if cmpI p ⟨x.a, x.b⟩ ≤ 0 then some i else freeI x (i + 1) (E.drop (i + 1)) := by
  obtain ⟨hi, hx⟩ := List.getElem?_eq_some_iff.1 h
  rw [List.drop_eq_getElem_cons hi, hx]
  rfl
def freeV : Option Nat → Value
  | none => .tuple #[.int .i64 0, .bool false]
  | some i => .tuple #[.int .i64 i, .bool true]
/-- Ratios that lie one behind the other at an address, if there are any. -/
def RtO (V : World) (oa : Option Addr) (Q : List Rt) : Prop := ∀ (i : Nat) (p : Rt), Q[i]? = some p → ∃ a : Addr, oa = some a ∧ a.block < V.heap.size ∧
  V.cell? (a.add (i * 2)) = some (.int .i64 p.N) ∧ V.cell? ⟨(a.add (i * 2)).block, (a.add (i * 2)).off + 1, none⟩ = some (.int .i64 p.D)
theorem RtO.keep {V V2 : World} {oa : Option Addr} {Q : List Rt} (h : RtO V oa Q) (b : Below V.heap.size V V2) : RtO V2 oa Q := fun i x hx => by
  obtain ⟨a, e, hab, c0, c1⟩ := h i x hx
  have hb : (a.add (i * 2)).block < V.heap.size := by rw [addrK_block]; exact hab
  exact ⟨a, e, Nat.lt_of_lt_of_le hab b.size, (b.cell (p := a.add (i * 2)) hb).trans c0, (b.cell (p := ⟨(a.add (i * 2)).block, (a.add (i * 2)).off + 1, none⟩) hb).trans c1⟩

set_option maxRecDepth 100000 in
set_option maxHeartbeats 1000000 in
theorem firstFree_walk (x : Cu) (E : List Rt) (oa : Option Addr) (cap C : Nat) (hc : E.length ≤ cap ∧ cap ≤ maxLen) (w : World) (hR : RtO w oa E) (hC : CueC w C x.a x.b x.c x.d x.la x.sd x.nm x.s (.slice x.o x.n x.k))
    (H : ∀ p ∈ E, ∀ W, Calls Try.prog 23 #[.agg #[.int .i64 p.N, .int .i64 p.D], .agg #[.int .i64 x.a, .int .i64 x.b]] W fun e w' => e = .returned (.int .i64 (cmpI p ⟨x.a, x.b⟩)) ∧ Below W.heap.size W w') :
    Calls Try.prog 18 #[.slice oa E.length cap, .int .i64 1, .func (.func 19) #[] #[.pointer (some ⟨C, 0, none⟩)]] w fun e w' => e = .returned (freeV (freeI x 0 E)) ∧ Below w.heap.size w w' := by
  obtain ⟨N, hN⟩ : ∃ N, E.length = N := ⟨_, rfl⟩
  obtain ⟨R, hRR⟩ : ∃ R, freeI x 0 E = R := ⟨_, rfl⟩
  have HN := hideC (And.intro hN hRR)
  rw [hN] at hc
  rw [hN, hRR]
  have hcm : cap ≤ 9223372036854775807 := hc.2
  have HR := hideC hR
  have HCu := hideC hC
  replace H := hideC H
  clear hR hN hRR hC
  go_enter Try.func18, Try.ntmps18
  go_wp2_with fail
  go_loopw [8, 13] (fun mv iv wq => ∃ i : Nat, mv = .int .i64 0 ∧ iv = .int .i64 (i : Nat) ∧ i ≤ N ∧ freeI x 0 E = freeI x i (E.drop i) ∧ Below w.heap.size w wq) (fun _ iv _ => N - (intOf iv).toNat)
  case atStart => exact ⟨0, rfl, rfl, Nat.zero_le _, rfl, Below.refl _ _⟩
  case round =>
    obtain ⟨i, rfl, rfl, hi, hall, hb⟩ := hrel
    obtain ⟨wq, rfl⟩ : ∃ wq, wq = wr := ⟨_, rfl⟩
    by_cases hlt : i < N
    · obtain ⟨p, hp⟩ : ∃ p, E[i]? = some p := ⟨_, List.getElem?_eq_getElem (by rw [HN.out.1]; exact hlt)⟩
      obtain ⟨a, rfl, hab, c0, c1⟩ := HR.out.keep hb i p hp
      have d2 : (i : Int) < (N : Int) := by omega
      have wi : IntKind.i64.wrap ((i : Int) + 1) = ((i + 1 : Nat) : Int) := by rw [show ((i + 1 : Nat) : Int) = (i : Int) + 1 by omega]; exact IntWalk.i64_in _ ⟨by omega, by omega⟩
      have HF := hideC (H.out p (List.mem_of_getElem? hp))
      obtain ⟨g, hg⟩ : ∃ g, cmpI p ⟨x.a, x.b⟩ = g := ⟨_, rfl⟩
      rw [hg] at HF
      have HA := hideC (And.intro (And.intro hall hg) (And.intro hb hp))
      clear hall hg hb hp
      go_wp2_with fail
      refine (over1_walk p x g C _ ((HCu.out.keep HA.out.2.1).keep (bel1 _ _)) HF.out).mono ?_
      rintro e w5 ⟨rfl, b5⟩
      have H5 := hideC (bup HA.out.2.1 (bup (bel1 _ _) b5))
      clear b5 c0 c1 HF
      by_cases h0 : g ≤ 0
      · have hr : R = some i := by
          rw [← HN.out.2, HA.out.1.1, freeI_drop x E i p HA.out.2.2, if_pos (by rw [HA.out.1.2]; exact h0)]
        have hd : decide (g ≤ 0) = true := decide_eq_true h0
        rw [hd]
        go_wp2_with fail
        go_ret2
        subst hr
        exact ⟨rfl, H5.out⟩
      · have hd : decide (g ≤ 0) = false := decide_eq_false h0
        rw [hd]
        go_wp2_with fail
        go_roundw
        case rel =>
          refine ⟨i + 1, rfl, by first | rfl | simp, by omega, ?_, H5.out⟩
          rw [HA.out.1.1, freeI_drop x E i p HA.out.2.2, if_neg (by rw [HA.out.1.2]; omega)]
        case measure => simp [intOf]; omega
    · have d2 : ¬ (i : Int) < (N : Int) := by omega
      have hr : R = none := by
        rw [← HN.out.2, hall, List.drop_eq_nil_of_le (by rw [HN.out.1]; omega)]
        rfl
      have H5 := hideC hb
      clear hb hall
      go_wp2_with fail
      go_ret2
      subst hr
      exact ⟨rfl, H5.out⟩

/-- A row of ratios as cells. -/
def flatR (E : List Rt) : List Value := E.flatMap fun p => [.int .i64 p.N, .int .i64 p.D]

theorem info_partsL {P : Program} {t : TypeId} {z : Option Value} {a b : Nat} (h : (P.info? t).map (fun i => (i.zero, i.size, i.bytes)) = some (z, a, b)) : ∃ i, P.info? t = some i ∧ i.zero = z ∧ i.size = a ∧ i.bytes = b := by
  obtain ⟨i, hi, e⟩ := Option.map_eq_some_iff.1 h
  simp only [Prod.mk.injEq] at e
  exact ⟨i, hi, e.1, e.2.1, e.2.2⟩
theorem row_belowL {A B : World} {base e size k : Nat} {v : Value} {xs : List Value} (h : A.ownsRow base e size v k xs) (hb : Below A.heap.size A B) : B.ownsRow base e size v k xs := by
  refine ⟨h.1, ?_⟩
  rcases h.2 with hn | ⟨g, cap, cur, rfl, hg, hgg, rest⟩
  · exact .inl hn
  · exact .inr ⟨g, cap, cur, rfl, hg, (hb.block g (Array.getElem?_eq_some_iff.1 hgg).1).trans hgg, rest⟩
theorem infoRt : (Try.prog.info? 27).map (fun i => (i.zero, i.size, i.bytes)) = some (some (.agg #[.int .i64 0, .int .i64 0]), 2, 16) := by kernel_rfl
theorem flatR_length : ∀ E : List Rt, (flatR E).length = E.length * 2
  | [] => rfl
  | p :: t => by
    show ([Value.int .i64 p.N, .int .i64 p.D] ++ flatR t).length = _
    rw [List.length_append, flatR_length t]
    simp
    omega
theorem flatR_at : ∀ (Q : List Rt) (i : Nat) (p : Rt), Q[i]? = some p → (flatR Q)[i * 2]? = some (.int .i64 p.N) ∧ (flatR Q)[i * 2 + 1]? = some (.int .i64 p.D)
  | [], _, _, h => by simp at h
  | q :: l, 0, p, h => by
    obtain rfl : q = p := by simpa using h
    exact ⟨rfl, rfl⟩
  | q :: l, i + 1, p, h => by
    have h' : l[i]? = some p := by simpa using h
    obtain ⟨a, b⟩ := flatR_at l i p h'
    have e : ∀ j, (flatR (q :: l))[(i + 1) * 2 + j]? = (flatR l)[i * 2 + j]? := fun j => by
      show ([Value.int .i64 q.N, .int .i64 q.D] ++ flatR l)[(i + 1) * 2 + j]? = _
      rw [List.getElem?_append_right (by simp; omega)]
      congr 1
      simp
      omega
    exact ⟨(e 0).trans a, (e 1).trans b⟩
theorem addZ (B n : Nat) : (⟨B, 0, none⟩ : Addr).add n = ⟨B, n, none⟩ := by unfold Addr.add; split <;> simp_all
theorem own_rts {W : World} {m e n : Nat} {v : Value} {E : List Rt} (h : W.ownsRow m e 2 v n (flatR E)) : ∃ oa ca, v = .slice oa n ca ∧ n ≤ ca ∧ ca ≤ maxLen ∧ RtO W oa E := by
  have h' := h
  obtain ⟨h1, ⟨rfl, h0⟩ | ⟨g, cap, cur, rfl, hg, hh, hn, hcap, hsz, htake⟩⟩ := h
  · refine ⟨none, 0, by rw [h0], by omega, Nat.zero_le _, fun i p hp => ?_⟩
    rw [flatR_length] at h1
    have := (List.getElem?_eq_some_iff.1 hp).1
    omega
  · refine ⟨_, _, rfl, hn, hcap, fun i p hp => ?_⟩
    have c0 := World.ownsRow.cells h' (g := g) rfl _ _ (flatR_at E i p hp).1
    have c1 := World.ownsRow.cells h' (g := g) rfl _ _ (flatR_at E i p hp).2
    refine ⟨_, rfl, (Array.getElem?_eq_some_iff.1 hh).1, ?_, ?_⟩
    · exact c0
    · rw [addZ] at c1 ⊢
      exact c1

theorem own_butL {A B : World} {M : Nat → Prop} {base e size n : Nat} {v : Value} {xs : List Value} (h : A.ownsRow base e size v n xs) (hb : But M A B) (hne : ∀ k, v.ownBlock = some k → ¬ M k) : B.ownsRow base e size v n xs := by
  refine ⟨h.1, ?_⟩
  rcases h.2 with hn | ⟨g, cap, cur, rfl, hg, hgg, rest⟩
  · exact .inl hn
  · exact .inr ⟨g, cap, cur, rfl, hg, (hb.same g (Array.getElem?_eq_some_iff.1 hgg).1 (hne g rfl)).trans hgg, rest⟩
set_option maxRecDepth 100000 in
set_option maxHeartbeats 1000000 in
theorem lane_none (x : Cu) (E : List Rt) (v : Value) (m P o : Nat) (w : World) (hP : P < w.heap.size ∧ m ≤ w.heap.size)
    (hv : w.cell? ⟨P, o, none⟩ = some v) (hfz : w.frozen? ⟨P, o, none⟩ = false) (hown : w.ownsRow m 27 2 v E.length (flatR E)) (hl : E.length ≤ 5000)
    (hne : v.ownBlock ≠ some P) (hfr : freeI x 0 E = none)
    (H : ∀ p ∈ E, ∀ W, Calls Try.prog 23 #[.agg #[.int .i64 p.N, .int .i64 p.D], .agg #[.int .i64 x.a, .int .i64 x.b]] W fun e w' => e = .returned (.int .i64 (cmpI p ⟨x.a, x.b⟩)) ∧ Below W.heap.size W w') :
    Calls Try.prog 15 #[.pointer (some ⟨P, o, none⟩), .agg x.cells] w fun e w' => ∃ g cap, e = .returned (.int .i64 E.length) ∧ w'.cell? ⟨P, o, none⟩ = some (.slice (some ⟨g, 0, none⟩) (E.length + 1) cap) ∧ w'.frozen? ⟨P, o, none⟩ = false ∧
      w'.ownsRow m 27 2 (.slice (some ⟨g, 0, none⟩) (E.length + 1) cap) (E.length + 1) (flatR (E ++ [⟨x.c, x.d⟩])) ∧ g ≠ P ∧ (v.ownBlock = some g ∨ w.heap.size ≤ g) ∧ But (fun k => k = P ∨ v.ownBlock = some k) w w' := by
  obtain ⟨i0, hi, hz0, hz1, hz2⟩ := info_partsL infoRt
  obtain ⟨oa, ca, rfl, hca, hcm, hR⟩ := own_rts hown
  have HF := hideC (fun (W : World) (b : Below w.heap.size w W) (hC : CueC W w.heap.size x.a x.b x.c x.d x.la x.sd x.nm x.s (.slice x.o x.n x.k)) => firstFree_walk x E oa ca w.heap.size ⟨hca, hcm⟩ W (hR.keep b) hC H)
  rw [hfr] at HF
  unfold freeV at HF
  have HO := hideC hown
  clear hown hfr H hR
  obtain ⟨n, hn⟩ : ∃ n, E.length = n := ⟨_, rfl⟩
  rw [hn] at HF HO hl hca hv hne ⊢
  have HL := hideC hn
  clear hn
  unfold Cu.cells
  go_enter Try.func15, Try.ntmps15
  go_wp2_with fail
  have QC : Hid (CueC (w.alloc (.cells #[.int .i64 x.a, .int .i64 x.b, .int .i64 x.c, .int .i64 x.d, .int .i64 x.la, .int .i64 x.sd, .string x.nm, .string x.s, .slice x.o x.n x.k] 33)) w.heap.size x.a x.b x.c x.d x.la x.sd x.nm x.s (.slice x.o x.n x.k)) := hideC (World.alloc_heap_new w _)
  have HF2 := HF.out _ (bel1 w (.cells #[.int .i64 x.a, .int .i64 x.b, .int .i64 x.c, .int .i64 x.d, .int .i64 x.la, .int .i64 x.sd, .string x.nm, .string x.s, .slice x.o x.n x.k] 33)) QC.out
  refine HF2.mono ?_
  rintro e w1 ⟨rfl, b1⟩
  replace QC := hideC (QC.out.keep b1)
  have B1 := hideC (bup (bel1 w (.cells #[.int .i64 x.a, .int .i64 x.b, .int .i64 x.c, .int .i64 x.d, .int .i64 x.la, .int .i64 x.sd, .string x.nm, .string x.s, .slice x.o x.n x.k] 33)) b1)
  clear b1 HF
  have hv1 : w1.cell? ⟨P, o, none⟩ = some (.slice oa n ca) := (B1.out.cell (p := ⟨P, o, none⟩) hP.1).trans hv
  have hown1 := row_belowL HO.out B1.out
  have ⟨⟨c0, c1, c2, c3⟩, _⟩ := QC.out.cells
  have hf1 : w1.frozen? ⟨P, o, none⟩ = false := (B1.out.frozen (p := ⟨P, o, none⟩) hP.1).trans hfz
  have hC1 : w.heap.size < w1.heap.size := (Array.getElem?_eq_some_iff.1 QC.out).1
  have hPne : ∀ k, (Value.slice oa n ca).ownBlock = some k → k ≠ P ∧ k ≠ w.heap.size := fun k hk => ⟨fun e => hne (e ▸ hk), fun e => by have := (HO.out.lt k hk).2; omega⟩
  have hv2 : (w1.alloc (.cells #[.int .i64 x.c, .int .i64 x.d] 27)).cell? ⟨P, o, none⟩ = some (.slice oa n ca) := (World.cell?_of_block (Below.heap_alloc w1 _ P (by have := hP.1; omega))).trans hv1
  have hv3 : (w1.alloc (.cells #[.int .i64 x.c, .int .i64 x.d] 27)).drew.cell? ⟨P, o, none⟩ = some (.slice oa n ca) := hv2
  have hv4 : w1.drew.cell? ⟨P, o, none⟩ = some (.slice oa n ca) := hv1
  have hPC : w.heap.size ≠ P := by have := hP.1; omega
  go_wp2_with fail
  go_region_law
    ((refine step_append_lies _ (by rfl) _ _ _ (by rfl) m 27 i0 _ 2 16 Try.underlying45 hi hz0 hz1 hz2 rfl (by omega) (.slice oa n ca) n (flatR E) (by rfl) ((hown1.alloc _).drew) ⟨w1.heap.size, 0, none⟩ 1 1 [.int .i64 x.c, .int .i64 x.d] (by rfl) (by rfl) (World.news_of_block (cs := #[.int .i64 x.c, .int .i64 x.d]) (t := 27) (fr := (0, 0)) (World.alloc_heap_new w1 _)) (by simp [Value.oneCell']) (by omega) (by unfold maxLen; omega) (by omega) (by simp; omega) (w1.heap.size + 1) (by simp) ?_; intro gg cap w5 hown5 hgrow hat hlt;
      have hPw : w5.heap[P]? = w1.heap[P]? := (hgrow.block P (by show P < (w1.alloc _).heap.size; rw [World.size_alloc]; have := hP.1; omega) (fun e => (hPne P e.symm).1 rfl)).trans (Below.heap_alloc w1 _ P (by have := hP.1; omega));
      have hCw : w5.heap[w.heap.size]? = w1.heap[w.heap.size]? := (hgrow.block w.heap.size (by show w.heap.size < (w1.alloc _).heap.size; rw [World.size_alloc]; omega) (fun e => (hPne _ e.symm).2 rfl)).trans (Below.heap_alloc w1 _ _ hC1);
      have k5 : w5.cell? ⟨P, o, none⟩ = some (.slice oa n ca) := (World.cell?_of_block hPw).trans hv1;
      have k6 : w5.frozen? ⟨P, o, none⟩ = false := (World.frozen?_of_block hPw).trans hf1;
      have k7 : w5.cell? ⟨w.heap.size, 2, none⟩ = some (.int .i64 x.c) := (World.cell?_of_block hCw).trans c2;
      have k8 : w5.cell? ⟨w.heap.size, 3, none⟩ = some (.int .i64 x.d) := (World.cell?_of_block hCw).trans c3;
      have k9 : ∀ u, (w5.setCell ⟨P, o, none⟩ u).cell? ⟨w.heap.size, 2, none⟩ = some (.int .i64 x.c) := fun u => (World.cell?_of_block (Below.heap_setCell w5 _ _ _ hPC)).trans k7;
      have k10 : ∀ u, (w5.setCell ⟨P, o, none⟩ u).cell? ⟨w.heap.size, 3, none⟩ = some (.int .i64 x.d) := fun u => (World.cell?_of_block (Below.heap_setCell w5 _ _ _ hPC)).trans k8))
  all_goals
    have hV : (w5.setCell ⟨P, o, none⟩ (.slice (some ⟨gg, 0, none⟩) (n + 1) cap)).cell? ⟨P, o, none⟩ = some (.slice (some ⟨gg, 0, none⟩) (n + 1) cap) := World.cell?_setCell_same w5 _ _ k5
    have hn1 : ((n + 1 : Nat) : Int) - 1 = (n : Int) := by omega
    have hn2 : IntKind.i64.wrap (n : Int) = (n : Int) := IntWalk.i64_in _ ⟨by omega, by omega⟩
    have hgP : gg ≠ P := by
      rcases hat with e | e
      · exact (hPne gg e).1
      · have := hP.1; omega
    have HE := hideC (And.intro hown5 (And.intro hgrow (And.intro hat (And.intro hlt (And.intro hgP hV)))))
    clear hown5 hgrow hat hlt hPw hCw k5 k7 k8 k9 k10 hv2 hv3 hv4 hown1 c0 c1 c2 c3
    go_wp2_with fail
    go_ret
    obtain ⟨hown5, hgrow, hat, hlt, hgP, hV⟩ := HE.out
    refine ⟨gg, cap, rfl, hV, (World.frozen?_setCell _ _ _ _).trans k6, ?_, hgP, ?_, ?_⟩
    · rw [show flatR (E ++ [⟨x.c, x.d⟩]) = flatR E ++ [.int .i64 x.c, .int .i64 x.d] by simp [flatR]]
      exact own_butL hown5 (But.set (M := fun k => k = P) w5 ⟨P, o, none⟩ _ rfl) (fun k hk e => by cases hk; exact hgP e)
    · rcases hat with e | e
      · exact .inl e
      · exact .inr (by have := B1.out.size; omega)
    · have q1 : But (fun k => k = P ∨ (Value.slice oa n ca).ownBlock = some k) w1 (w1.alloc (.cells #[.int .i64 x.c, .int .i64 x.d] 27)).drew := But.grown (((Below.refl w1.heap.size w1).alloc (Nat.le_refl _) _).drew)
      have q2 : But (fun k => k = P ∨ (Value.slice oa n ca).ownBlock = some k) (w1.alloc (.cells #[.int .i64 x.c, .int .i64 x.d] 27)).drew w5 := ⟨hgrow.os, hgrow.tape, hgrow.output, hgrow.size, fun k hk hM => hgrow.block k hk (fun e => hM (.inr e.symm))⟩
      exact (((But.grown B1.out).trans q1).trans q2).setCell (.inl rfl) _

set_option maxRecDepth 100000 in
set_option maxHeartbeats 1000000 in
theorem lane_some (x : Cu) (E : List Rt) (v : Value) (m P o i : Nat) (w : World) (hP : P < w.heap.size)
    (hv : w.cell? ⟨P, o, none⟩ = some v) (hown : w.ownsRow m 27 2 v E.length (flatR E))
    (hne : v.ownBlock ≠ some P) (hfr : freeI x 0 E = some i) (hiE : i < E.length)
    (H : ∀ p ∈ E, ∀ W, Calls Try.prog 23 #[.agg #[.int .i64 p.N, .int .i64 p.D], .agg #[.int .i64 x.a, .int .i64 x.b]] W fun e w' => e = .returned (.int .i64 (cmpI p ⟨x.a, x.b⟩)) ∧ Below W.heap.size W w') :
    Calls Try.prog 15 #[.pointer (some ⟨P, o, none⟩), .agg x.cells] w fun e w' => e = .returned (.int .i64 i) ∧ But (fun k => v.ownBlock = some k) w w' := by
  obtain ⟨oa, ca, rfl, hca, hcm, hR⟩ := own_rts hown
  have HF := hideC (fun (W : World) (b : Below w.heap.size w W) (hC : CueC W w.heap.size x.a x.b x.c x.d x.la x.sd x.nm x.s (.slice x.o x.n x.k)) => firstFree_walk x E oa ca w.heap.size ⟨hca, hcm⟩ W (hR.keep b) hC H)
  rw [hfr] at HF
  unfold freeV at HF
  obtain ⟨g, cur, rfl, hg, hgs⟩ : ∃ g cur, oa = some ⟨g, 0, none⟩ ∧ w.heap[g]? = some (.cells cur 27 (0, 0)) ∧ E.length * 2 ≤ cur.size := by
    rcases hown.2 with ⟨e1, e2⟩ | ⟨g, cap, cur, e1, _, hh, h3, _, h5, _⟩
    · omega
    · cases e1
      exact ⟨g, cur, rfl, hh, by rw [h5]; exact Nat.mul_le_mul_right _ h3⟩
  clear hown hfr H hR
  obtain ⟨n, hn⟩ : ∃ n, E.length = n := ⟨_, rfl⟩
  rw [hn] at HF hca hv hne hiE hgs ⊢
  clear hn
  unfold Cu.cells
  go_enter Try.func15, Try.ntmps15
  go_wp2_with fail
  have QC : Hid (CueC (w.alloc (.cells #[.int .i64 x.a, .int .i64 x.b, .int .i64 x.c, .int .i64 x.d, .int .i64 x.la, .int .i64 x.sd, .string x.nm, .string x.s, .slice x.o x.n x.k] 33)) w.heap.size x.a x.b x.c x.d x.la x.sd x.nm x.s (.slice x.o x.n x.k)) := hideC (World.alloc_heap_new w _)
  have HF2 := HF.out _ (bel1 w (.cells #[.int .i64 x.a, .int .i64 x.b, .int .i64 x.c, .int .i64 x.d, .int .i64 x.la, .int .i64 x.sd, .string x.nm, .string x.s, .slice x.o x.n x.k] 33)) QC.out
  refine HF2.mono ?_
  rintro e w1 ⟨rfl, b1⟩
  replace QC := hideC (QC.out.keep b1)
  have B1 := hideC (bup (bel1 w (.cells #[.int .i64 x.a, .int .i64 x.b, .int .i64 x.c, .int .i64 x.d, .int .i64 x.la, .int .i64 x.sd, .string x.nm, .string x.s, .slice x.o x.n x.k] 33)) b1)
  clear b1 HF HF2
  have hv1 : w1.cell? ⟨P, o, none⟩ = some (.slice (some ⟨g, 0, none⟩) n ca) := (B1.out.cell (p := ⟨P, o, none⟩) hP).trans hv
  have hg1 : w1.heap[g]? = some (.cells cur 27 (0, 0)) := (B1.out.block g (Array.getElem?_eq_some_iff.1 hg).1).trans hg
  have ⟨⟨c0, c1, c2, c3⟩, _⟩ := QC.out.cells
  have d1 : (i : Int) < (n : Int) := by omega
  obtain ⟨u0, hu0⟩ : ∃ u, w1.cell? ⟨g, i * 2, none⟩ = some u := ⟨cur[i * 2], by simp [World.cell?, hg1]⟩
  obtain ⟨u1, hu1⟩ : ∃ u, w1.cell? ⟨g, i * 2 + 1, none⟩ = some u := ⟨cur[i * 2 + 1], by simp [World.cell?, hg1]⟩
  have f0 : w1.frozen? ⟨g, i * 2, none⟩ = false := by simp [World.frozen?, hg1]
  have f1 : w1.frozen? ⟨g, i * 2 + 1, none⟩ = false := by simp [World.frozen?, hg1]
  go_wp2_with fail
  go_region
  all_goals go_wp2_with fail
  all_goals go_ret
  all_goals
    have q : But (fun k => (Value.slice (some ⟨g, 0, none⟩) n ca).ownBlock = some k) w ((w1.setCell ⟨g, i * 2, none⟩ (.int .i64 x.c)).setCell ⟨g, i * 2 + 1, none⟩ (.int .i64 x.d)) := ((But.grown B1.out).setCell (p := ⟨g, i * 2, none⟩) (by rfl) _).setCell (p := ⟨g, i * 2 + 1, none⟩) (by rfl) _
    exact ⟨rfl, q.trans (But.grown ((Below.refl _ _).drew))⟩

end Go.Proofs.Ytpbedjabbehhgaa
